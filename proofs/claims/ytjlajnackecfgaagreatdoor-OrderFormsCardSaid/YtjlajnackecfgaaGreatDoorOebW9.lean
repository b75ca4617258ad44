/-
The document's bytes of terms. Conditions: terms that are Right.
The document's bytes of an order. Conditions: an order that may be.
-/
import Derived.Test.YtjlajnackecfgaaGreatDoorByFW9
import Derived.Test.YtjlajnackecfgaaGreatDoorOeaW9
import Derived.Test.YtjlajnackecfgaaGreatDoorOdTW9
import Derived.Test.YtjlajnackecfgaaGreatDoorOdUW9
namespace Go.Proofs.YtjlajnackecfgaaGreatDoor
open Go.ChangeShapes Go.WideShapes Go.ChangeAt Go.RowKit

def nsV (ns : List Nat) : Array Value := (ns.map fun n : Nat => Value.int .u64 (n : Int)).toArray
theorem nsV_at {ns : List Nat} {k : Nat} (h : k < ns.length) : (nsV ns)[k]? = some (.int .u64 (ns[k] : Int)) := by
  unfold nsV
  rw [List.getElem?_toArray, List.getElem?_map, List.getElem?_eq_getElem h]
  rfl
def laysN (ns : List Nat) : List UInt8 := ns.flatMap (layN 0)
theorem laysN_snoc (ns : List Nat) (n : Nat) : laysN (ns ++ [n]) = laysN ns ++ layN 0 n := by simp [laysN]
theorem laysN_le : ∀ (ns : List Nat), (∀ n ∈ ns, n < 18446744073709551616) → (laysN ns).length ≤ 9 * ns.length
  | [], _ => by simp [laysN]
  | n :: ns, h => by
    have h1 := laysN_le ns fun m hm => h m (List.mem_cons_of_mem _ hm)
    have h2 := layN_le 0 n (h n List.mem_cons_self)
    have e : laysN (n :: ns) = layN 0 n ++ laysN ns := rfl
    rw [e, List.length_append, List.length_cons]
    omega
set_option maxRecDepth 100000 in
set_option maxHeartbeats 4000000 in
theorem RBytes_nat {K P R B M S F G : Nat} (h : Trm.Right ⟨K, P, R, B, M, S, F, G⟩) (w : World) : Calls Tryz.prog 39 #[.agg #[.int .u8 (K : Int), .int .i64 (P : Int), .int .u32 (R : Int), .int .u8 (B : Int), .int .i64 (M : Int), .int .i64 (S : Int), .int .i64 (F : Int), .int .i64 (G : Int)]] w (ToF (bySF (laysN [K, P, R, B, M, S, F, G])) w) := by
  obtain ⟨hK, ⟨hR, hB⟩, hP, hM, hS, hF, hG⟩ := h
  dsimp only at hK hR hB hP hM hS hF hG
  have i0 : IntKind.u64.wrap (K : Int) = (K : Int) := by rw [IntKind.wrap_u64]; omega
  have i1 : IntKind.u64.wrap (P : Int) = (P : Int) := by rw [IntKind.wrap_u64]; omega
  have i2 : IntKind.u64.wrap (R : Int) = (R : Int) := by rw [IntKind.wrap_u64]; omega
  have i3 : IntKind.u64.wrap (B : Int) = (B : Int) := by rw [IntKind.wrap_u64]; omega
  have i4 : IntKind.u64.wrap (M : Int) = (M : Int) := by rw [IntKind.wrap_u64]; omega
  have i5 : IntKind.u64.wrap (S : Int) = (S : Int) := by rw [IntKind.wrap_u64]; omega
  have i6 : IntKind.u64.wrap (F : Int) = (F : Int) := by rw [IntKind.wrap_u64]; omega
  have i7 : IntKind.u64.wrap (G : Int) = (G : Int) := by rw [IntKind.wrap_u64]; omega
  have hb : ∀ n ∈ [K, P, R, B, M, S, F, G], n < 18446744073709551616 := by
    intro n hn
    simp only [List.mem_cons, List.not_mem_nil, or_false] at hn
    omega
  have HN := Lib.hid hb
  have HQ := Lib.hid (Blk.new w 40 #[.int .u8 (K : Int), .int .i64 (P : Int), .int .u32 (R : Int), .int .u8 (B : Int), .int .i64 (M : Int), .int .i64 (S : Int), .int .i64 (F : Int), .int .i64 (G : Int)])
  have HB0 := Lib.hid (b_alloc w (.cells #[.int .u8 (K : Int), .int .i64 (P : Int), .int .u32 (R : Int), .int .u8 (B : Int), .int .i64 (M : Int), .int .i64 (S : Int), .int .i64 (F : Int), .int .i64 (G : Int)] 40))
  clear hb hK hR hB hP hM hS hF hG
  obtain ⟨c0, c1, c2, c3, c4, c5, c6, c7⟩ := blk8 HQ.out
  go_enter Tryz.func39, Tryz.ntmps39
  go_wp2_with fail
  have HG := Lib.hid (Blk.new (w.alloc (.cells #[.int .u8 (K : Int), .int .i64 (P : Int), .int .u32 (R : Int), .int .u8 (B : Int), .int .i64 (M : Int), .int .i64 (S : Int), .int .i64 (F : Int), .int .i64 (G : Int)] 40)) 69 (nsV [K, P, R, B, M, S, F, G]))
  have HB1 := Lib.hid (HB0.out.alloc HB0.out.size (.cells (nsV [K, P, R, B, M, S, F, G]) 69))
  rw [show (w.alloc (.cells #[.int .u8 (K : Int), .int .i64 (P : Int), .int .u32 (R : Int), .int .u8 (B : Int), .int .i64 (M : Int), .int .i64 (S : Int), .int .i64 (F : Int), .int .i64 (G : Int)] 40)).heap.size = w.heap.size + 1 by simp] at HG
  have ens : #[Value.int .u64 (K : Int), .int .u64 (P : Int), .int .u64 (R : Int), .int .u64 (B : Int), .int .u64 (M : Int), .int .u64 (S : Int), .int .u64 (F : Int), .int .u64 (G : Int)] = nsV [K, P, R, B, M, S, F, G] := rfl
  rw [ens]
  obtain ⟨w2, hw2⟩ : ∃ W, ((w.alloc (.cells #[.int .u8 (K : Int), .int .i64 (P : Int), .int .u32 (R : Int), .int .u8 (B : Int), .int .i64 (M : Int), .int .i64 (S : Int), .int .i64 (F : Int), .int .i64 (G : Int)] 40)).alloc (.cells (nsV [K, P, R, B, M, S, F, G]) 69)) = W := ⟨_, rfl⟩
  rw [hw2] at HG HB1
  rw [hw2]
  obtain ⟨g, hg⟩ : ∃ g, w.heap.size + 1 = g := ⟨_, rfl⟩
  rw [hg] at HG
  rw [hg]
  obtain ⟨ns, hns⟩ : ∃ l, [K, P, R, B, M, S, F, G] = l := ⟨_, rfl⟩
  have hn8 : ns.length = 8 := by rw [← hns]; rfl
  have HNS := Lib.hid hns
  rw [hns] at HG HN
  rw [hns]
  clear ens hw2 hg hns c0 c1 c2 c3 c4 c5 c6 c7 i0 i1 i2 i3 i4 i5 i6 i7 HQ HB0
  have HN8 := Lib.hid hn8
  clear hn8
  go_loopw [3, 32] (fun v i wr => ∃ (k : Nat), k ≤ 8 ∧ i = .int .i64 k ∧ ∃ A c, v = .slice A (laysN (ns.take k)).length c ∧ Hid (Rd wr wr.heap.size A (laysN (ns.take k))) ∧ Hid (Blk wr g 69 (nsV ns)) ∧ Hid (Below w.heap.size w wr)) (fun _ i _ => 8 - (intOf i).toNat)
  case atStart => exact ⟨0, Nat.zero_le _, rfl, none, 0, rfl, Lib.hid (by intro h; simp [laysN] at h), HG, HB1⟩
  case round =>
    obtain ⟨k, hk, rfl, A, c, rfl, HR, HGk, HBk⟩ := hrel
    by_cases hlt : k < 8
    · have hkl : k < ns.length := by rw [HN8.out]; exact hlt
      have d0 := (HGk.out.cell k).trans (nsV_at hkl)
      have hnk := HN.out _ (List.getElem_mem hkl)
      have hsn := laysN_snoc (ns.take k) ns[k]
      rw [← List.take_succ_eq_append_getElem hkl] at hsn
      have hll := laysN_le (ns.take k) (fun m hm => HN.out m (List.mem_of_mem_take hm))
      rw [List.length_take, HN8.out, Nat.min_eq_left hk] at hll
      obtain ⟨x, hx⟩ : ∃ x, ns[k] = x := ⟨_, rfl⟩
      rw [hx] at d0 hnk hsn
      obtain ⟨L, hL⟩ : ∃ L, laysN (ns.take k) = L := ⟨_, rfl⟩
      rw [hL] at HR hsn hll
      rw [hL]
      have hlx := layN_le 0 x hnk
      have HSN := Lib.hid hsn
      have hU := RUint_any x hnk wr
      have z0 := HGk.out.lt
      have HBD := Lib.hid (And.intro hll hlx)
      clear hL hx hkl hsn hnk hll hlx
      go_wp2_with fail
      refine hU.mono ?_
      rintro e w5 ⟨v5, rfl, ho5, hb5⟩
      obtain ⟨_, A5, c5, rfl, _, _, hr5⟩ := own_form ho5
      have HG5 := Lib.hid (HGk.out.below hb5 HGk.out.lt)
      have HB5 := Lib.hid (HBk.out.trans (hb5.mono HBk.out.size))
      have hJ := Join_two_own A A5 L.length (layN 0 x).length c c5 w5.heap.size w5.heap.size L (layN 0 x) w5 ((HR.out.below hb5).more hb5.size) (Nat.le_refl _) hr5 (Nat.le_refl _) rfl rfl (by have := HBD.out; omega)
      clear ho5 hb5 hr5 hU d0 z0 HR HGk HBk
      go_wp2_with fail
      refine hJ.mono ?_
      rintro e w6 ⟨v6, rfl, ho6, hb6⟩
      obtain ⟨_, A6, c6, rfl, _, _, hr6⟩ := own_form ho6
      rw [← HSN.out] at hr6
      have HR6 := Lib.hid hr6
      have HL6 : Hid ((L ++ layN 0 x).length = (laysN (ns.take (k + 1))).length) := Lib.hid (by rw [HSN.out])
      have HG6 := Lib.hid (HG5.out.below hb6 HG5.out.lt)
      have HB6 := Lib.hid (HB5.out.trans (hb6.mono HB5.out.size))
      rw [HL6.out]
      clear hJ ho6 hb6 hr6 HG5 HB5 HL6 HSN HBD
      go_wp2_with fail
      go_roundw
      case rel => exact ⟨k + 1, by omega, by go_num, A6, c6, rfl, HR6, HG6, HB6⟩
      case measure => simp [intOf]; omega
    · have hk8 : k = 8 := by omega
      subst hk8
      rw [show ns.take 8 = ns by rw [List.take_of_length_le]; rw [HN8.out]; exact Nat.le_refl _] at HR ⊢
      go_wp2_with fail
      go_ret
      exact ⟨.slice A (laysN ns).length c, rfl, ⟨A, c, by rw [HNS.out], by rw [HNS.out]; exact HR.out⟩, HBk.out⟩
theorem cRBytesF {t : Trm} (h : t.Right) (w : World) : Calls Tryz.prog 39 #[t.r] w (ToF (bySF (layTm t)) w) := by
  obtain ⟨K, P, R, B, M, S, F, G⟩ := t
  have h9 := h
  obtain ⟨hK, ⟨hR, hB⟩, hP, hM, hS, hF, hG⟩ := h9
  dsimp only at hK hR hB hP hM hS hF hG
  obtain ⟨P, rfl⟩ : ∃ n : Nat, P = n := ⟨P.toNat, by omega⟩
  obtain ⟨M, rfl⟩ : ∃ n : Nat, M = n := ⟨M.toNat, by omega⟩
  obtain ⟨S, rfl⟩ : ∃ n : Nat, S = n := ⟨S.toNat, by omega⟩
  obtain ⟨F, rfl⟩ : ∃ n : Nat, F = n := ⟨F.toNat, by omega⟩
  obtain ⟨G, rfl⟩ : ∃ n : Nat, G = n := ⟨G.toNat, by omega⟩
  have e : layTm ⟨K, (P : Int), R, B, (M : Int), (S : Int), (F : Int), (G : Int)⟩ = laysN [K, P, R, B, M, S, F, G] := by
    simp [layTm, laysN]
  rw [e]
  exact RBytes_nat h w
end Go.Proofs.YtjlajnackecfgaaGreatDoor
namespace Go.Proofs.YtjlajnackecfgaaGreatDoor
open Go.ChangeShapes Go.WideShapes Go.ChangeAt Go.RowKit Go.Shelf
set_option maxRecDepth 100000 in
set_option maxHeartbeats 4000000 in
theorem RB20_1 {a K R B s ek : Nat} {P M S F G d m : Int} {X : List UInt8} (hX : X.length ≤ 200) (cT : ∀ W, Calls Tryz.prog 39 #[.agg #[.int .u8 (K : Int), .int .i64 P, .int .u32 (R : Int), .int .u8 (B : Int), .int .i64 M, .int .i64 S, .int .i64 F, .int .i64 G]] W (ToF (bySF X) W)) (ha : a < 4294967296) (w : World) : Calls Tryz.prog 15 #[.agg #[.int .u8 1, .int .u32 (a : Int), .int .u8 (K : Int), .int .i64 P, .int .u32 (R : Int), .int .u8 (B : Int), .int .i64 M, .int .i64 S, .int .i64 F, .int .i64 G, .int .u32 (s : Int), .int .i64 d, .int .u8 (ek : Int), .int .i64 m]] w (ToF (bySF ((([] ++ layN 0 1) ++ layN 0 a) ++ layT X)) w) := by
  have HQ0 := Lib.hid (Blk.new w 44 #[.int .u8 1, .int .u32 (a : Int), .int .u8 (K : Int), .int .i64 P, .int .u32 (R : Int), .int .u8 (B : Int), .int .i64 M, .int .i64 S, .int .i64 F, .int .i64 G, .int .u32 (s : Int), .int .i64 d, .int .u8 (ek : Int), .int .i64 m])
  have HB0 := Lib.hid (b_alloc w (.cells #[.int .u8 1, .int .u32 (a : Int), .int .u8 (K : Int), .int .i64 P, .int .u32 (R : Int), .int .u8 (B : Int), .int .i64 M, .int .i64 S, .int .i64 F, .int .i64 G, .int .u32 (s : Int), .int .i64 d, .int .u8 (ek : Int), .int .i64 m] 44))
  have wa : IntKind.u64.wrap (a : Int) = (a : Int) := by rw [IntKind.wrap_u64]; omega
  have C0 := fun W => rUintF 1 (by decide) W
  have C1 := fun W => rUintF a (by omega) W
  have l0 := layN_le 0 1 (by decide)
  have l1 := layN_le 0 a (by omega)
  obtain ⟨L0, q0⟩ : ∃ x, layN 0 1 = x := ⟨_, rfl⟩
  obtain ⟨L1, q1⟩ : ∃ x, layN 0 a = x := ⟨_, rfl⟩
  rw [q0] at C0 l0 ⊢
  rw [q1] at C1 l1 ⊢
  have hfl : [L0, L1].flatten = ([] ++ L0) ++ L1 := by simp
  have hl01 : (([] ++ L0) ++ L1).length ≤ 18 := by simp; omega
  obtain ⟨L, hL⟩ : ∃ x, ([] ++ L0) ++ L1 = x := ⟨_, rfl⟩
  rw [hL] at hfl hl01 ⊢
  have JF2 : ∀ v W, (rowsF [L0, L1]).p v W → Calls Tryz.prog 16 #[v] W (ToF (bySF L) W) := fun v W h => by
    have h9 := joinF h (by rw [hfl]; omega) (by simp)
    rw [hfl] at h9
    exact h9
  clear q0 q1 hfl hL l0 l1
  obtain ⟨W0, hW⟩ : ∃ W, w.alloc (.cells #[.int .u8 1, .int .u32 (a : Int), .int .u8 (K : Int), .int .i64 P, .int .u32 (R : Int), .int .u8 (B : Int), .int .i64 M, .int .i64 S, .int .i64 F, .int .i64 G, .int .u32 (s : Int), .int .i64 d, .int .u8 (ek : Int), .int .i64 m] 44) = W := ⟨_, rfl⟩
  obtain ⟨b, hb⟩ : ∃ b, w.heap.size = b := ⟨_, rfl⟩
  rw [hW, hb] at HQ0 HB0
  have HW := Lib.hid (And.intro hW hb)
  clear hW hb
  have LDk : ∀ W, Below W0.heap.size W0 W → (Instr.loadAt 5 (.pointer (some ⟨b, 0, none⟩))).run Tryz.prog W = .ok (.int .u8 1) W := fun W hb => by
    obtain ⟨c1, -⟩ := blk14 (HQ0.out.below hb HQ0.out.lt)
    go_simp
  have LDa : ∀ W, Below W0.heap.size W0 W → (Instr.loadAt 22 (.pointer (some ⟨b, 1, none⟩))).run Tryz.prog W = .ok (.int .u32 (a : Int)) W := fun W hb => by
    obtain ⟨_, c1, -⟩ := blk14 (HQ0.out.below hb HQ0.out.lt)
    go_simp
  go_enter Tryz.func15, Tryz.ntmps15
  go_upto_region 1 with (fail)
  rw [HW.out.1, HW.out.2]
  refine wp_region_flow [some 4, some 5, some 6, some 7, some 8, some 9, some 10, some 11, some 12, some 13, some 3] (fun i => ([.is (.pointer (some ⟨b, 0, none⟩)), .is (.int .u8 1), .is (.int .u64 1), bySF L0, .is (.pointer (some ⟨b, 1, none⟩)), .is (.int .u32 (a : Int)), .is (.int .u64 (a : Int)), bySF L1, rowsF [L0, L1], bySF L, bySF L] : List Flw).getD i .any) (by kernel_rfl) (by kernel_rfl) rfl ?_ ?_
  · skip
    refine ⟨step_free rfl (fun aF wF hs hb => ?_), ?_⟩
    · obtain ⟨x0, -⟩ := hs
      have e0 : aF.eval (.tmp 1) = .pointer (some ⟨b, 0, none⟩) := x0
      refine opC_value (v := .pointer (some ⟨b, 0, none⟩)) ?_ ⟨rfl, below_same wF⟩
      have t0 := ev_of e0
      simp [execOp, go_sem, t0]
    refine ⟨step_free rfl (fun aF wF hs hb => ?_), ?_⟩
    · obtain ⟨x0, -⟩ := hs
      have e0 : aF.eval (.tmp 4) = .pointer (some ⟨b, 0, none⟩) := x0
      exact opC_load e0 (LDk wF hb) ⟨rfl, below_same wF⟩
    refine ⟨step_free rfl (fun aF wF hs hb => ?_), ?_⟩
    · obtain ⟨x0, -⟩ := hs
      have e0 : aF.eval (.tmp 5) = .int .u8 1 := x0
      refine opC_value (v := .int .u64 1) ?_ ⟨rfl, below_same wF⟩
      simp [execOp, go_sem, ev_of e0]
      decide
    refine ⟨step_free rfl (fun aF wF hs hb => ?_), ?_⟩
    · obtain ⟨x0, -⟩ := hs
      have e0 : aF.eval (.tmp 6) = .int .u64 1 := x0
      exact opC_callF (args := #[.int .u64 1]) (enters9 Tryz.func37 (by kernel_rfl) rfl) (by simp [e0]) (C0 wF) (fun _ _ h1 h2 => ⟨h1, h2⟩)
    refine ⟨step_free rfl (fun aF wF hs hb => ?_), ?_⟩
    · obtain ⟨x0, -⟩ := hs
      have e0 : aF.eval (.tmp 1) = .pointer (some ⟨b, 0, none⟩) := x0
      refine opC_value (v := .pointer (some ⟨b, 1, none⟩)) ?_ ⟨rfl, below_same wF⟩
      have t0 := ev_of e0
      simp [execOp, go_sem, t0]
    refine ⟨step_free rfl (fun aF wF hs hb => ?_), ?_⟩
    · obtain ⟨x0, -⟩ := hs
      have e0 : aF.eval (.tmp 8) = .pointer (some ⟨b, 1, none⟩) := x0
      exact opC_load e0 (LDa wF hb) ⟨rfl, below_same wF⟩
    refine ⟨step_free rfl (fun aF wF hs hb => ?_), ?_⟩
    · obtain ⟨x0, -⟩ := hs
      have e0 : aF.eval (.tmp 9) = .int .u32 (a : Int) := x0
      refine opC_value (v := .int .u64 (a : Int)) ?_ ⟨rfl, below_same wF⟩
      simp [execOp, go_sem, ev_of e0, wa]
    refine ⟨step_free rfl (fun aF wF hs hb => ?_), ?_⟩
    · obtain ⟨x0, -⟩ := hs
      have e0 : aF.eval (.tmp 10) = .int .u64 (a : Int) := x0
      exact opC_callF (args := #[.int .u64 (a : Int)]) (enters9 Tryz.func37 (by kernel_rfl) rfl) (by simp [e0]) (C1 wF) (fun _ _ h1 h2 => ⟨h1, h2⟩)
    refine ⟨step_free rfl (fun aF wF hs hb => ?_), ?_⟩
    · obtain ⟨x0, x1, -⟩ := hs
      obtain ⟨A0, c0, e0, r0⟩ : (bySF L0).p (aF.eval (.tmp 7)) wF := x0
      obtain ⟨A1, c1, e1, r1⟩ : (bySF L1).p (aF.eval (.tmp 11)) wF := x1
      exact opC_rows2 e0 e1 r0 r1 (fun v w9 h1 h2 => ⟨h1, h2⟩)
    refine ⟨step_free rfl (fun aF wF hs hb => ?_), ?_⟩
    · obtain ⟨x0, -⟩ := hs
      have y0 : (rowsF [L0, L1]).p (aF.eval (.tmp 12)) wF := x0
      exact opC_callF (args := #[aF.eval (.tmp 12)]) (enters9 Tryz.func16 (by kernel_rfl) rfl) (by simp) (JF2 _ wF y0) (fun _ _ h1 h2 => ⟨h1, h2⟩)
    refine ⟨step_free rfl (fun aF wF hs hb => ?_), ?_⟩
    · obtain ⟨x0, -⟩ := hs
      exact opC_assign rfl ⟨x0, below_same wF⟩
    exact trivial
  intro fv w6 hf hb6
  obtain ⟨A1, c1, e1, r1⟩ : (bySF L).p (fv 10) w6 := hf 10 3 rfl
  have HR1 := Lib.hid r1
  have HQ6 := Lib.hid (HQ0.out.below hb6 HQ0.out.lt)
  have HB6 := Lib.hid (HB0.out.trans (hb6.mono (by have := HQ0.out.lt; omega)))
  simp only [putF, Act.put, List.setIfInBounds_toArray, List.set_cons_zero, List.set_cons_succ]
  rw [e1]
  clear e1 hf hb6 LDk LDa C0 C1 HQ0 HB0 wa JF2 r1
  obtain ⟨z0, z1, z2, z3, z4, z5, z6, z7, z8, z9, z10, z11, z12, z13⟩ := blk14 HQ6.out
  have HL := Lib.hid (And.intro hX hl01)
  clear hX hl01
  go_wp2_with fail
  refine (cT _).mono ?_
  rintro e w7 ⟨v, rfl, ⟨A3, c3, rfl, r3⟩, hb7⟩
  have hcv := conv_rd (c := c3) r3
  have HB7 := Lib.hid hb7
  clear hb7 r3
  go_wp2_with fail
  refine (rTextF ⟨X.toArray⟩ (by have := HL.out.1; rw [Lib.size_eq]; simpa using (by omega)) _).mono ?_
  rintro e w8 ⟨v, rfl, ⟨A4, c4, rfl, r4⟩, hb8⟩
  have hb := HB7.out.trans (hb8.mono HB7.out.size)
  have hl := layN_le 0 X.length (by have := HL.out.1; omega)
  have HJ := Lib.hid (fun _ : Unit => Join_after A1 A4 L.length (layT X).length c1 c4 L (layT X) w6 w8 hb ((HR1.out.below hb).more hb.size) r4 rfl rfl (by have := HL.out; unfold layT; rw [List.length_append]; omega))
  clear r4 hb hb8 hl hcv cT
  go_wp2_with fail
  refine (HJ.out ()).mono ?_
  rintro e w9 ⟨v, rfl, ho, hb⟩
  obtain ⟨-, A2, c2, rfl, h1, h2, hr⟩ := own_form ho
  have HR := Lib.hid hr
  have HB := Lib.hid hb
  clear ho hb hr HJ
  go_wp2_with fail
  go_ret
  exact ⟨_, rfl, ⟨A2, c2, by first | rfl | (rw [List.length_append]; rfl) | simp, HR.out⟩, by rw [HW.out.2]; exact HB6.out.trans (HB.out.mono (by have := HB6.out.size; have := HW.out.2; omega))⟩
set_option maxRecDepth 100000 in
set_option maxHeartbeats 4000000 in
theorem RB20_2 {a K R B s ek d m : Nat} {P M S F G : Int} (hs : s < 4294967296) (hd : d < 4294967296) (hek : ek < 256) (hm : m < 9223372036854775808) (ha : a < 4294967296) (w : World) : Calls Tryz.prog 15 #[.agg #[.int .u8 2, .int .u32 (a : Int), .int .u8 (K : Int), .int .i64 P, .int .u32 (R : Int), .int .u8 (B : Int), .int .i64 M, .int .i64 S, .int .i64 F, .int .i64 G, .int .u32 (s : Int), .int .i64 (d : Int), .int .u8 (ek : Int), .int .i64 (m : Int)]] w (ToF (bySF (((((([] ++ layN 0 2) ++ layN 0 a) ++ layN 0 s) ++ layN 0 d) ++ layN 0 ek) ++ layN 0 m)) w) := by
  have HQ0 := Lib.hid (Blk.new w 44 #[.int .u8 2, .int .u32 (a : Int), .int .u8 (K : Int), .int .i64 P, .int .u32 (R : Int), .int .u8 (B : Int), .int .i64 M, .int .i64 S, .int .i64 F, .int .i64 G, .int .u32 (s : Int), .int .i64 (d : Int), .int .u8 (ek : Int), .int .i64 (m : Int)])
  have HB0 := Lib.hid (b_alloc w (.cells #[.int .u8 2, .int .u32 (a : Int), .int .u8 (K : Int), .int .i64 P, .int .u32 (R : Int), .int .u8 (B : Int), .int .i64 M, .int .i64 S, .int .i64 F, .int .i64 G, .int .u32 (s : Int), .int .i64 (d : Int), .int .u8 (ek : Int), .int .i64 (m : Int)] 44))
  have wa : IntKind.u64.wrap (a : Int) = (a : Int) := by rw [IntKind.wrap_u64]; omega
  have C0 := fun W => rUintF 2 (by decide) W
  have C1 := fun W => rUintF a (by omega) W
  have l0 := layN_le 0 2 (by decide)
  have l1 := layN_le 0 a (by omega)
  obtain ⟨L0, q0⟩ : ∃ x, layN 0 2 = x := ⟨_, rfl⟩
  obtain ⟨L1, q1⟩ : ∃ x, layN 0 a = x := ⟨_, rfl⟩
  rw [q0] at C0 l0 ⊢
  rw [q1] at C1 l1 ⊢
  have hfl : [L0, L1].flatten = ([] ++ L0) ++ L1 := by simp
  have hl01 : (([] ++ L0) ++ L1).length ≤ 18 := by simp; omega
  obtain ⟨L, hL⟩ : ∃ x, ([] ++ L0) ++ L1 = x := ⟨_, rfl⟩
  rw [hL] at hfl hl01 ⊢
  have JF2 : ∀ v W, (rowsF [L0, L1]).p v W → Calls Tryz.prog 16 #[v] W (ToF (bySF L) W) := fun v W h => by
    have h9 := joinF h (by rw [hfl]; omega) (by simp)
    rw [hfl] at h9
    exact h9
  clear q0 q1 hfl hL l0 l1
  have ws : IntKind.u64.wrap (s : Int) = (s : Int) := by rw [IntKind.wrap_u64]; omega
  have wd : IntKind.u64.wrap (d : Int) = (d : Int) := by rw [IntKind.wrap_u64]; omega
  have wk : IntKind.u64.wrap (ek : Int) = (ek : Int) := by rw [IntKind.wrap_u64]; omega
  have wm : IntKind.u64.wrap (m : Int) = (m : Int) := by rw [IntKind.wrap_u64]; omega
  have C2 := fun W => rUintF s (by omega) W
  have l2 := layN_le 0 s (by omega)
  obtain ⟨L2, q2⟩ : ∃ x, layN 0 s = x := ⟨_, rfl⟩
  rw [q2] at C2 l2 ⊢
  have C3 := fun W => rUintF d (by omega) W
  have l3 := layN_le 0 d (by omega)
  obtain ⟨L3, q3⟩ : ∃ x, layN 0 d = x := ⟨_, rfl⟩
  rw [q3] at C3 l3 ⊢
  have C4 := fun W => rUintF ek (by omega) W
  have l4 := layN_le 0 ek (by omega)
  obtain ⟨L4, q4⟩ : ∃ x, layN 0 ek = x := ⟨_, rfl⟩
  rw [q4] at C4 l4 ⊢
  have C5 := fun W => rUintF m (by omega) W
  have l5 := layN_le 0 m (by omega)
  obtain ⟨L5, q5⟩ : ∃ x, layN 0 m = x := ⟨_, rfl⟩
  rw [q5] at C5 l5 ⊢
  have hfl : [L, L2, L3, L4, L5].flatten = (((L ++ L2) ++ L3) ++ L4) ++ L5 := by simp
  have hZl : ((((L ++ L2) ++ L3) ++ L4) ++ L5).length ≤ 90 := by simp; omega
  obtain ⟨Z, hZ⟩ : ∃ x, (((L ++ L2) ++ L3) ++ L4) ++ L5 = x := ⟨_, rfl⟩
  rw [hZ] at hfl hZl ⊢
  have JF5 : ∀ v W, (rowsF [L, L2, L3, L4, L5]).p v W → Calls Tryz.prog 16 #[v] W (ToF (bySF Z) W) := fun v W h => by
    have h9 := joinF h (by rw [hfl]; omega) (by simp)
    rw [hfl] at h9
    exact h9
  clear q2 q3 q4 q5 hfl hZ hZl l2 l3 l4 l5
  obtain ⟨W0, hW⟩ : ∃ W, w.alloc (.cells #[.int .u8 2, .int .u32 (a : Int), .int .u8 (K : Int), .int .i64 P, .int .u32 (R : Int), .int .u8 (B : Int), .int .i64 M, .int .i64 S, .int .i64 F, .int .i64 G, .int .u32 (s : Int), .int .i64 (d : Int), .int .u8 (ek : Int), .int .i64 (m : Int)] 44) = W := ⟨_, rfl⟩
  obtain ⟨b, hb⟩ : ∃ b, w.heap.size = b := ⟨_, rfl⟩
  rw [hW, hb] at HQ0 HB0
  have HW := Lib.hid (And.intro hW hb)
  clear hW hb
  have LDk : ∀ W, Below W0.heap.size W0 W → (Instr.loadAt 5 (.pointer (some ⟨b, 0, none⟩))).run Tryz.prog W = .ok (.int .u8 2) W := fun W hb => by
    obtain ⟨c1, -⟩ := blk14 (HQ0.out.below hb HQ0.out.lt)
    go_simp
  have LDa : ∀ W, Below W0.heap.size W0 W → (Instr.loadAt 22 (.pointer (some ⟨b, 1, none⟩))).run Tryz.prog W = .ok (.int .u32 (a : Int)) W := fun W hb => by
    obtain ⟨_, c1, -⟩ := blk14 (HQ0.out.below hb HQ0.out.lt)
    go_simp
  go_enter Tryz.func15, Tryz.ntmps15
  go_upto_region 1 with (fail)
  rw [HW.out.1, HW.out.2]
  refine wp_region_flow [some 4, some 5, some 6, some 7, some 8, some 9, some 10, some 11, some 12, some 13, some 3] (fun i => ([.is (.pointer (some ⟨b, 0, none⟩)), .is (.int .u8 2), .is (.int .u64 2), bySF L0, .is (.pointer (some ⟨b, 1, none⟩)), .is (.int .u32 (a : Int)), .is (.int .u64 (a : Int)), bySF L1, rowsF [L0, L1], bySF L, bySF L] : List Flw).getD i .any) (by kernel_rfl) (by kernel_rfl) rfl ?_ ?_
  · skip
    refine ⟨step_free rfl (fun aF wF hs hb => ?_), ?_⟩
    · obtain ⟨x0, -⟩ := hs
      have e0 : aF.eval (.tmp 1) = .pointer (some ⟨b, 0, none⟩) := x0
      refine opC_value (v := .pointer (some ⟨b, 0, none⟩)) ?_ ⟨rfl, below_same wF⟩
      have t0 := ev_of e0
      simp [execOp, go_sem, t0]
    refine ⟨step_free rfl (fun aF wF hs hb => ?_), ?_⟩
    · obtain ⟨x0, -⟩ := hs
      have e0 : aF.eval (.tmp 4) = .pointer (some ⟨b, 0, none⟩) := x0
      exact opC_load e0 (LDk wF hb) ⟨rfl, below_same wF⟩
    refine ⟨step_free rfl (fun aF wF hs hb => ?_), ?_⟩
    · obtain ⟨x0, -⟩ := hs
      have e0 : aF.eval (.tmp 5) = .int .u8 2 := x0
      refine opC_value (v := .int .u64 2) ?_ ⟨rfl, below_same wF⟩
      simp [execOp, go_sem, ev_of e0]
      decide
    refine ⟨step_free rfl (fun aF wF hs hb => ?_), ?_⟩
    · obtain ⟨x0, -⟩ := hs
      have e0 : aF.eval (.tmp 6) = .int .u64 2 := x0
      exact opC_callF (args := #[.int .u64 2]) (enters9 Tryz.func37 (by kernel_rfl) rfl) (by simp [e0]) (C0 wF) (fun _ _ h1 h2 => ⟨h1, h2⟩)
    refine ⟨step_free rfl (fun aF wF hs hb => ?_), ?_⟩
    · obtain ⟨x0, -⟩ := hs
      have e0 : aF.eval (.tmp 1) = .pointer (some ⟨b, 0, none⟩) := x0
      refine opC_value (v := .pointer (some ⟨b, 1, none⟩)) ?_ ⟨rfl, below_same wF⟩
      have t0 := ev_of e0
      simp [execOp, go_sem, t0]
    refine ⟨step_free rfl (fun aF wF hs hb => ?_), ?_⟩
    · obtain ⟨x0, -⟩ := hs
      have e0 : aF.eval (.tmp 8) = .pointer (some ⟨b, 1, none⟩) := x0
      exact opC_load e0 (LDa wF hb) ⟨rfl, below_same wF⟩
    refine ⟨step_free rfl (fun aF wF hs hb => ?_), ?_⟩
    · obtain ⟨x0, -⟩ := hs
      have e0 : aF.eval (.tmp 9) = .int .u32 (a : Int) := x0
      refine opC_value (v := .int .u64 (a : Int)) ?_ ⟨rfl, below_same wF⟩
      simp [execOp, go_sem, ev_of e0, wa]
    refine ⟨step_free rfl (fun aF wF hs hb => ?_), ?_⟩
    · obtain ⟨x0, -⟩ := hs
      have e0 : aF.eval (.tmp 10) = .int .u64 (a : Int) := x0
      exact opC_callF (args := #[.int .u64 (a : Int)]) (enters9 Tryz.func37 (by kernel_rfl) rfl) (by simp [e0]) (C1 wF) (fun _ _ h1 h2 => ⟨h1, h2⟩)
    refine ⟨step_free rfl (fun aF wF hs hb => ?_), ?_⟩
    · obtain ⟨x0, x1, -⟩ := hs
      obtain ⟨A0, c0, e0, r0⟩ : (bySF L0).p (aF.eval (.tmp 7)) wF := x0
      obtain ⟨A1, c1, e1, r1⟩ : (bySF L1).p (aF.eval (.tmp 11)) wF := x1
      exact opC_rows2 e0 e1 r0 r1 (fun v w9 h1 h2 => ⟨h1, h2⟩)
    refine ⟨step_free rfl (fun aF wF hs hb => ?_), ?_⟩
    · obtain ⟨x0, -⟩ := hs
      have y0 : (rowsF [L0, L1]).p (aF.eval (.tmp 12)) wF := x0
      exact opC_callF (args := #[aF.eval (.tmp 12)]) (enters9 Tryz.func16 (by kernel_rfl) rfl) (by simp) (JF2 _ wF y0) (fun _ _ h1 h2 => ⟨h1, h2⟩)
    refine ⟨step_free rfl (fun aF wF hs hb => ?_), ?_⟩
    · obtain ⟨x0, -⟩ := hs
      exact opC_assign rfl ⟨x0, below_same wF⟩
    exact trivial
  intro fv w6 hf hb6
  obtain ⟨A1, c1, e1, r1⟩ : (bySF L).p (fv 10) w6 := hf 10 3 rfl
  have HR1 := Lib.hid r1
  have HQ6 := Lib.hid (HQ0.out.below hb6 HQ0.out.lt)
  have HB6 := Lib.hid (HB0.out.trans (hb6.mono (by have := HQ0.out.lt; omega)))
  simp only [putF, Act.put, List.setIfInBounds_toArray, List.set_cons_zero, List.set_cons_succ]
  rw [e1]
  clear e1 hf hb6 LDk LDa C0 C1 HQ0 HB0 wa JF2 r1
  obtain ⟨z0, z1, z2, z3, z4, z5, z6, z7, z8, z9, z10, z11, z12, z13⟩ := blk14 HQ6.out
  have LE0 : ∀ W, Below w6.heap.size w6 W → (Instr.loadAt 22 (.pointer (some ⟨b, 10, none⟩))).run Tryz.prog W = .ok (.int .u32 (s : Int)) W := fun W hb => by
    obtain ⟨_, _, _, _, _, _, _, _, _, _, c1, -⟩ := blk14 (HQ6.out.below hb HQ6.out.lt)
    go_simp
  have LE1 : ∀ W, Below w6.heap.size w6 W → (Instr.loadAt 3 (.pointer (some ⟨b, 11, none⟩))).run Tryz.prog W = .ok (.int .i64 (d : Int)) W := fun W hb => by
    obtain ⟨_, _, _, _, _, _, _, _, _, _, _, c1, -⟩ := blk14 (HQ6.out.below hb HQ6.out.lt)
    go_simp
  have LE2 : ∀ W, Below w6.heap.size w6 W → (Instr.loadAt 5 (.pointer (some ⟨b, 12, none⟩))).run Tryz.prog W = .ok (.int .u8 (ek : Int)) W := fun W hb => by
    obtain ⟨_, _, _, _, _, _, _, _, _, _, _, _, c1, -⟩ := blk14 (HQ6.out.below hb HQ6.out.lt)
    go_simp
  have LE3 : ∀ W, Below w6.heap.size w6 W → (Instr.loadAt 2 (.pointer (some ⟨b, 13, none⟩))).run Tryz.prog W = .ok (.int .i64 (m : Int)) W := fun W hb => by
    obtain ⟨_, _, _, _, _, _, _, _, _, _, _, _, _, c1⟩ := blk14 (HQ6.out.below hb HQ6.out.lt)
    go_simp
  go_upto_region 6 with (fail)
  clear z0 z1 z2 z3 z4 z5 z6 z7 z8 z9 z10 z11 z12 z13
  refine wp_region_flow [some 28, some 29, some 30, some 31, some 32, some 33, some 34, some 35, some 36, some 37, some 38, some 39, some 40, some 41, some 42, some 43, some 44, some 45, some 46, some 47, some 48, some 49, some 50, some 2] (fun i => ([.is (.slice A1 L.length c1), .is (.pointer (some ⟨b, 10, none⟩)), .is (.pointer (some ⟨b, 10, none⟩)), .is (.int .u32 (s : Int)), .is (.int .u64 (s : Int)), bySF L2, .is (.pointer (some ⟨b, 10, none⟩)), .is (.pointer (some ⟨b, 11, none⟩)), .is (.int .i64 (d : Int)), .is (.int .u64 (d : Int)), bySF L3, .is (.pointer (some ⟨b, 10, none⟩)), .is (.pointer (some ⟨b, 12, none⟩)), .is (.int .u8 (ek : Int)), .is (.int .u64 (ek : Int)), bySF L4, .is (.pointer (some ⟨b, 10, none⟩)), .is (.pointer (some ⟨b, 13, none⟩)), .is (.int .i64 (m : Int)), .is (.int .u64 (m : Int)), bySF L5, rowsF [L, L2, L3, L4, L5], bySF Z, bySF Z] : List Flw).getD i .any) (by kernel_rfl) (by kernel_rfl) rfl ?_ ?_
  · skip
    refine ⟨step_free rfl (fun aF wF hs hb => ?_), ?_⟩
    · obtain ⟨x0, -⟩ := hs
      have e0 : aF.eval (.tmp 3) = .slice A1 L.length c1 := x0
      exact opC_move e0 ⟨rfl, below_same wF⟩
    refine ⟨step_free rfl (fun aF wF hs hb => ?_), ?_⟩
    · obtain ⟨x0, -⟩ := hs
      have e0 : aF.eval (.tmp 1) = .pointer (some ⟨b, 0, none⟩) := x0
      refine opC_value (v := .pointer (some ⟨b, 10, none⟩)) ?_ ⟨rfl, below_same wF⟩
      have t0 := ev_of e0
      simp [execOp, go_sem, t0]
    refine ⟨step_free rfl (fun aF wF hs hb => ?_), ?_⟩
    · obtain ⟨x0, -⟩ := hs
      have e0 : aF.eval (.tmp 29) = .pointer (some ⟨b, 10, none⟩) := x0
      refine opC_value (v := .pointer (some ⟨b, 10, none⟩)) ?_ ⟨rfl, below_same wF⟩
      have t0 := ev_of e0
      simp [execOp, go_sem, t0]
    refine ⟨step_free rfl (fun aF wF hs hb => ?_), ?_⟩
    · obtain ⟨x0, -⟩ := hs
      have e0 : aF.eval (.tmp 30) = .pointer (some ⟨b, 10, none⟩) := x0
      exact opC_load e0 (LE0 wF hb) ⟨rfl, below_same wF⟩
    refine ⟨step_free rfl (fun aF wF hs hb => ?_), ?_⟩
    · obtain ⟨x0, -⟩ := hs
      have e0 : aF.eval (.tmp 31) = .int .u32 (s : Int) := x0
      refine opC_value (v := .int .u64 (s : Int)) ?_ ⟨rfl, below_same wF⟩
      simp [execOp, go_sem, ev_of e0, ws]
    refine ⟨step_free rfl (fun aF wF hs hb => ?_), ?_⟩
    · obtain ⟨x0, -⟩ := hs
      have e0 : aF.eval (.tmp 32) = .int .u64 (s : Int) := x0
      exact opC_callF (args := #[.int .u64 (s : Int)]) (enters9 Tryz.func37 (by kernel_rfl) rfl) (by simp [e0]) (C2 wF) (fun _ _ h1 h2 => ⟨h1, h2⟩)
    refine ⟨step_free rfl (fun aF wF hs hb => ?_), ?_⟩
    · obtain ⟨x0, -⟩ := hs
      have e0 : aF.eval (.tmp 1) = .pointer (some ⟨b, 0, none⟩) := x0
      refine opC_value (v := .pointer (some ⟨b, 10, none⟩)) ?_ ⟨rfl, below_same wF⟩
      have t0 := ev_of e0
      simp [execOp, go_sem, t0]
    refine ⟨step_free rfl (fun aF wF hs hb => ?_), ?_⟩
    · obtain ⟨x0, -⟩ := hs
      have e0 : aF.eval (.tmp 34) = .pointer (some ⟨b, 10, none⟩) := x0
      refine opC_value (v := .pointer (some ⟨b, 11, none⟩)) ?_ ⟨rfl, below_same wF⟩
      have t0 := ev_of e0
      simp [execOp, go_sem, t0]
    refine ⟨step_free rfl (fun aF wF hs hb => ?_), ?_⟩
    · obtain ⟨x0, -⟩ := hs
      have e0 : aF.eval (.tmp 35) = .pointer (some ⟨b, 11, none⟩) := x0
      exact opC_load e0 (LE1 wF hb) ⟨rfl, below_same wF⟩
    refine ⟨step_free rfl (fun aF wF hs hb => ?_), ?_⟩
    · obtain ⟨x0, -⟩ := hs
      have e0 : aF.eval (.tmp 36) = .int .i64 (d : Int) := x0
      refine opC_value (v := .int .u64 (d : Int)) ?_ ⟨rfl, below_same wF⟩
      simp [execOp, go_sem, ev_of e0, wd]
    refine ⟨step_free rfl (fun aF wF hs hb => ?_), ?_⟩
    · obtain ⟨x0, -⟩ := hs
      have e0 : aF.eval (.tmp 37) = .int .u64 (d : Int) := x0
      exact opC_callF (args := #[.int .u64 (d : Int)]) (enters9 Tryz.func37 (by kernel_rfl) rfl) (by simp [e0]) (C3 wF) (fun _ _ h1 h2 => ⟨h1, h2⟩)
    refine ⟨step_free rfl (fun aF wF hs hb => ?_), ?_⟩
    · obtain ⟨x0, -⟩ := hs
      have e0 : aF.eval (.tmp 1) = .pointer (some ⟨b, 0, none⟩) := x0
      refine opC_value (v := .pointer (some ⟨b, 10, none⟩)) ?_ ⟨rfl, below_same wF⟩
      have t0 := ev_of e0
      simp [execOp, go_sem, t0]
    refine ⟨step_free rfl (fun aF wF hs hb => ?_), ?_⟩
    · obtain ⟨x0, -⟩ := hs
      have e0 : aF.eval (.tmp 39) = .pointer (some ⟨b, 10, none⟩) := x0
      refine opC_value (v := .pointer (some ⟨b, 12, none⟩)) ?_ ⟨rfl, below_same wF⟩
      have t0 := ev_of e0
      simp [execOp, go_sem, t0]
    refine ⟨step_free rfl (fun aF wF hs hb => ?_), ?_⟩
    · obtain ⟨x0, -⟩ := hs
      have e0 : aF.eval (.tmp 40) = .pointer (some ⟨b, 12, none⟩) := x0
      exact opC_load e0 (LE2 wF hb) ⟨rfl, below_same wF⟩
    refine ⟨step_free rfl (fun aF wF hs hb => ?_), ?_⟩
    · obtain ⟨x0, -⟩ := hs
      have e0 : aF.eval (.tmp 41) = .int .u8 (ek : Int) := x0
      refine opC_value (v := .int .u64 (ek : Int)) ?_ ⟨rfl, below_same wF⟩
      simp [execOp, go_sem, ev_of e0, wk]
    refine ⟨step_free rfl (fun aF wF hs hb => ?_), ?_⟩
    · obtain ⟨x0, -⟩ := hs
      have e0 : aF.eval (.tmp 42) = .int .u64 (ek : Int) := x0
      exact opC_callF (args := #[.int .u64 (ek : Int)]) (enters9 Tryz.func37 (by kernel_rfl) rfl) (by simp [e0]) (C4 wF) (fun _ _ h1 h2 => ⟨h1, h2⟩)
    refine ⟨step_free rfl (fun aF wF hs hb => ?_), ?_⟩
    · obtain ⟨x0, -⟩ := hs
      have e0 : aF.eval (.tmp 1) = .pointer (some ⟨b, 0, none⟩) := x0
      refine opC_value (v := .pointer (some ⟨b, 10, none⟩)) ?_ ⟨rfl, below_same wF⟩
      have t0 := ev_of e0
      simp [execOp, go_sem, t0]
    refine ⟨step_free rfl (fun aF wF hs hb => ?_), ?_⟩
    · obtain ⟨x0, -⟩ := hs
      have e0 : aF.eval (.tmp 44) = .pointer (some ⟨b, 10, none⟩) := x0
      refine opC_value (v := .pointer (some ⟨b, 13, none⟩)) ?_ ⟨rfl, below_same wF⟩
      have t0 := ev_of e0
      simp [execOp, go_sem, t0]
    refine ⟨step_free rfl (fun aF wF hs hb => ?_), ?_⟩
    · obtain ⟨x0, -⟩ := hs
      have e0 : aF.eval (.tmp 45) = .pointer (some ⟨b, 13, none⟩) := x0
      exact opC_load e0 (LE3 wF hb) ⟨rfl, below_same wF⟩
    refine ⟨step_free rfl (fun aF wF hs hb => ?_), ?_⟩
    · obtain ⟨x0, -⟩ := hs
      have e0 : aF.eval (.tmp 46) = .int .i64 (m : Int) := x0
      refine opC_value (v := .int .u64 (m : Int)) ?_ ⟨rfl, below_same wF⟩
      simp [execOp, go_sem, ev_of e0, wm]
    refine ⟨step_free rfl (fun aF wF hs hb => ?_), ?_⟩
    · obtain ⟨x0, -⟩ := hs
      have e0 : aF.eval (.tmp 47) = .int .u64 (m : Int) := x0
      exact opC_callF (args := #[.int .u64 (m : Int)]) (enters9 Tryz.func37 (by kernel_rfl) rfl) (by simp [e0]) (C5 wF) (fun _ _ h1 h2 => ⟨h1, h2⟩)
    refine ⟨step_free rfl (fun aF wF hs hb => ?_), ?_⟩
    · obtain ⟨x0, x1, x2, x3, x4, -⟩ := hs
      have e0 : aF.eval (.tmp 28) = .slice A1 L.length c1 := x0
      have r0 := (HR1.out.below hb).more hb.size
      obtain ⟨A1, c1, e1, r1⟩ : (bySF L2).p (aF.eval (.tmp 33)) wF := x1
      obtain ⟨A2, c2, e2, r2⟩ : (bySF L3).p (aF.eval (.tmp 38)) wF := x2
      obtain ⟨A3, c3, e3, r3⟩ : (bySF L4).p (aF.eval (.tmp 43)) wF := x3
      obtain ⟨A4, c4, e4, r4⟩ : (bySF L5).p (aF.eval (.tmp 48)) wF := x4
      exact opC_rows5 e0 e1 e2 e3 e4 r0 r1 r2 r3 r4 (fun v w9 h1 h2 => ⟨h1, h2⟩)
    refine ⟨step_free rfl (fun aF wF hs hb => ?_), ?_⟩
    · obtain ⟨x0, -⟩ := hs
      have y0 : (rowsF [L, L2, L3, L4, L5]).p (aF.eval (.tmp 49)) wF := x0
      exact opC_callF (args := #[aF.eval (.tmp 49)]) (enters9 Tryz.func16 (by kernel_rfl) rfl) (by simp) (JF5 _ wF y0) (fun _ _ h1 h2 => ⟨h1, h2⟩)
    refine ⟨step_free rfl (fun aF wF hs hb => ?_), ?_⟩
    · obtain ⟨x0, -⟩ := hs
      exact opC_assign rfl ⟨x0, below_same wF⟩
    exact trivial
  intro fv w7 hf hb7
  obtain ⟨A2, c2, e2, r2⟩ : (bySF Z).p (fv 23) w7 := hf 23 2 rfl
  have HR2 := Lib.hid r2
  have HB7 := Lib.hid (HB6.out.trans (hb7.mono (by have := HB6.out.size; have := HW.out.2; omega)))
  simp only [putF, Act.put, List.setIfInBounds_toArray, List.set_cons_zero, List.set_cons_succ]
  rw [e2]
  clear e2 hf hb7 LE0 LE1 LE2 LE3 C2 C3 C4 C5 HQ6 HB6 JF5 r2
  go_wp2_with fail
  go_ret
  exact ⟨_, rfl, ⟨A2, c2, rfl, HR2.out⟩, by rw [HW.out.2]; exact HB7.out⟩
set_option maxRecDepth 100000 in
set_option maxHeartbeats 4000000 in
theorem RB20_3 {a K R B s ek : Nat} {P M S F G d m : Int} (hs : s < 4294967296) (ha : a < 4294967296) (w : World) : Calls Tryz.prog 15 #[.agg #[.int .u8 3, .int .u32 (a : Int), .int .u8 (K : Int), .int .i64 P, .int .u32 (R : Int), .int .u8 (B : Int), .int .i64 M, .int .i64 S, .int .i64 F, .int .i64 G, .int .u32 (s : Int), .int .i64 d, .int .u8 (ek : Int), .int .i64 m]] w (ToF (bySF ((([] ++ layN 0 3) ++ layN 0 a) ++ layN 0 s)) w) := by
  have HQ0 := Lib.hid (Blk.new w 44 #[.int .u8 3, .int .u32 (a : Int), .int .u8 (K : Int), .int .i64 P, .int .u32 (R : Int), .int .u8 (B : Int), .int .i64 M, .int .i64 S, .int .i64 F, .int .i64 G, .int .u32 (s : Int), .int .i64 d, .int .u8 (ek : Int), .int .i64 m])
  have HB0 := Lib.hid (b_alloc w (.cells #[.int .u8 3, .int .u32 (a : Int), .int .u8 (K : Int), .int .i64 P, .int .u32 (R : Int), .int .u8 (B : Int), .int .i64 M, .int .i64 S, .int .i64 F, .int .i64 G, .int .u32 (s : Int), .int .i64 d, .int .u8 (ek : Int), .int .i64 m] 44))
  have wa : IntKind.u64.wrap (a : Int) = (a : Int) := by rw [IntKind.wrap_u64]; omega
  have C0 := fun W => rUintF 3 (by decide) W
  have C1 := fun W => rUintF a (by omega) W
  have l0 := layN_le 0 3 (by decide)
  have l1 := layN_le 0 a (by omega)
  obtain ⟨L0, q0⟩ : ∃ x, layN 0 3 = x := ⟨_, rfl⟩
  obtain ⟨L1, q1⟩ : ∃ x, layN 0 a = x := ⟨_, rfl⟩
  rw [q0] at C0 l0 ⊢
  rw [q1] at C1 l1 ⊢
  have hfl : [L0, L1].flatten = ([] ++ L0) ++ L1 := by simp
  have hl01 : (([] ++ L0) ++ L1).length ≤ 18 := by simp; omega
  obtain ⟨L, hL⟩ : ∃ x, ([] ++ L0) ++ L1 = x := ⟨_, rfl⟩
  rw [hL] at hfl hl01 ⊢
  have JF2 : ∀ v W, (rowsF [L0, L1]).p v W → Calls Tryz.prog 16 #[v] W (ToF (bySF L) W) := fun v W h => by
    have h9 := joinF h (by rw [hfl]; omega) (by simp)
    rw [hfl] at h9
    exact h9
  clear q0 q1 hfl hL l0 l1
  have ws : IntKind.u64.wrap (s : Int) = (s : Int) := by rw [IntKind.wrap_u64]; omega
  have C2 := fun W => rUintF s (by omega) W
  have l2 := layN_le 0 s (by omega)
  obtain ⟨L2, q2⟩ : ∃ x, layN 0 s = x := ⟨_, rfl⟩
  rw [q2] at C2 l2 ⊢
  have HL := Lib.hid (And.intro l2 hl01)
  clear q2 l2
  obtain ⟨W0, hW⟩ : ∃ W, w.alloc (.cells #[.int .u8 3, .int .u32 (a : Int), .int .u8 (K : Int), .int .i64 P, .int .u32 (R : Int), .int .u8 (B : Int), .int .i64 M, .int .i64 S, .int .i64 F, .int .i64 G, .int .u32 (s : Int), .int .i64 d, .int .u8 (ek : Int), .int .i64 m] 44) = W := ⟨_, rfl⟩
  obtain ⟨b, hb⟩ : ∃ b, w.heap.size = b := ⟨_, rfl⟩
  rw [hW, hb] at HQ0 HB0
  have HW := Lib.hid (And.intro hW hb)
  clear hW hb
  have LDk : ∀ W, Below W0.heap.size W0 W → (Instr.loadAt 5 (.pointer (some ⟨b, 0, none⟩))).run Tryz.prog W = .ok (.int .u8 3) W := fun W hb => by
    obtain ⟨c1, -⟩ := blk14 (HQ0.out.below hb HQ0.out.lt)
    go_simp
  have LDa : ∀ W, Below W0.heap.size W0 W → (Instr.loadAt 22 (.pointer (some ⟨b, 1, none⟩))).run Tryz.prog W = .ok (.int .u32 (a : Int)) W := fun W hb => by
    obtain ⟨_, c1, -⟩ := blk14 (HQ0.out.below hb HQ0.out.lt)
    go_simp
  go_enter Tryz.func15, Tryz.ntmps15
  go_upto_region 1 with (fail)
  rw [HW.out.1, HW.out.2]
  refine wp_region_flow [some 4, some 5, some 6, some 7, some 8, some 9, some 10, some 11, some 12, some 13, some 3] (fun i => ([.is (.pointer (some ⟨b, 0, none⟩)), .is (.int .u8 3), .is (.int .u64 3), bySF L0, .is (.pointer (some ⟨b, 1, none⟩)), .is (.int .u32 (a : Int)), .is (.int .u64 (a : Int)), bySF L1, rowsF [L0, L1], bySF L, bySF L] : List Flw).getD i .any) (by kernel_rfl) (by kernel_rfl) rfl ?_ ?_
  · skip
    refine ⟨step_free rfl (fun aF wF hs hb => ?_), ?_⟩
    · obtain ⟨x0, -⟩ := hs
      have e0 : aF.eval (.tmp 1) = .pointer (some ⟨b, 0, none⟩) := x0
      refine opC_value (v := .pointer (some ⟨b, 0, none⟩)) ?_ ⟨rfl, below_same wF⟩
      have t0 := ev_of e0
      simp [execOp, go_sem, t0]
    refine ⟨step_free rfl (fun aF wF hs hb => ?_), ?_⟩
    · obtain ⟨x0, -⟩ := hs
      have e0 : aF.eval (.tmp 4) = .pointer (some ⟨b, 0, none⟩) := x0
      exact opC_load e0 (LDk wF hb) ⟨rfl, below_same wF⟩
    refine ⟨step_free rfl (fun aF wF hs hb => ?_), ?_⟩
    · obtain ⟨x0, -⟩ := hs
      have e0 : aF.eval (.tmp 5) = .int .u8 3 := x0
      refine opC_value (v := .int .u64 3) ?_ ⟨rfl, below_same wF⟩
      simp [execOp, go_sem, ev_of e0]
      decide
    refine ⟨step_free rfl (fun aF wF hs hb => ?_), ?_⟩
    · obtain ⟨x0, -⟩ := hs
      have e0 : aF.eval (.tmp 6) = .int .u64 3 := x0
      exact opC_callF (args := #[.int .u64 3]) (enters9 Tryz.func37 (by kernel_rfl) rfl) (by simp [e0]) (C0 wF) (fun _ _ h1 h2 => ⟨h1, h2⟩)
    refine ⟨step_free rfl (fun aF wF hs hb => ?_), ?_⟩
    · obtain ⟨x0, -⟩ := hs
      have e0 : aF.eval (.tmp 1) = .pointer (some ⟨b, 0, none⟩) := x0
      refine opC_value (v := .pointer (some ⟨b, 1, none⟩)) ?_ ⟨rfl, below_same wF⟩
      have t0 := ev_of e0
      simp [execOp, go_sem, t0]
    refine ⟨step_free rfl (fun aF wF hs hb => ?_), ?_⟩
    · obtain ⟨x0, -⟩ := hs
      have e0 : aF.eval (.tmp 8) = .pointer (some ⟨b, 1, none⟩) := x0
      exact opC_load e0 (LDa wF hb) ⟨rfl, below_same wF⟩
    refine ⟨step_free rfl (fun aF wF hs hb => ?_), ?_⟩
    · obtain ⟨x0, -⟩ := hs
      have e0 : aF.eval (.tmp 9) = .int .u32 (a : Int) := x0
      refine opC_value (v := .int .u64 (a : Int)) ?_ ⟨rfl, below_same wF⟩
      simp [execOp, go_sem, ev_of e0, wa]
    refine ⟨step_free rfl (fun aF wF hs hb => ?_), ?_⟩
    · obtain ⟨x0, -⟩ := hs
      have e0 : aF.eval (.tmp 10) = .int .u64 (a : Int) := x0
      exact opC_callF (args := #[.int .u64 (a : Int)]) (enters9 Tryz.func37 (by kernel_rfl) rfl) (by simp [e0]) (C1 wF) (fun _ _ h1 h2 => ⟨h1, h2⟩)
    refine ⟨step_free rfl (fun aF wF hs hb => ?_), ?_⟩
    · obtain ⟨x0, x1, -⟩ := hs
      obtain ⟨A0, c0, e0, r0⟩ : (bySF L0).p (aF.eval (.tmp 7)) wF := x0
      obtain ⟨A1, c1, e1, r1⟩ : (bySF L1).p (aF.eval (.tmp 11)) wF := x1
      exact opC_rows2 e0 e1 r0 r1 (fun v w9 h1 h2 => ⟨h1, h2⟩)
    refine ⟨step_free rfl (fun aF wF hs hb => ?_), ?_⟩
    · obtain ⟨x0, -⟩ := hs
      have y0 : (rowsF [L0, L1]).p (aF.eval (.tmp 12)) wF := x0
      exact opC_callF (args := #[aF.eval (.tmp 12)]) (enters9 Tryz.func16 (by kernel_rfl) rfl) (by simp) (JF2 _ wF y0) (fun _ _ h1 h2 => ⟨h1, h2⟩)
    refine ⟨step_free rfl (fun aF wF hs hb => ?_), ?_⟩
    · obtain ⟨x0, -⟩ := hs
      exact opC_assign rfl ⟨x0, below_same wF⟩
    exact trivial
  intro fv w6 hf hb6
  obtain ⟨A1, c1, e1, r1⟩ : (bySF L).p (fv 10) w6 := hf 10 3 rfl
  have HR1 := Lib.hid r1
  have HQ6 := Lib.hid (HQ0.out.below hb6 HQ0.out.lt)
  have HB6 := Lib.hid (HB0.out.trans (hb6.mono (by have := HQ0.out.lt; omega)))
  simp only [putF, Act.put, List.setIfInBounds_toArray, List.set_cons_zero, List.set_cons_succ]
  rw [e1]
  clear e1 hf hb6 LDk LDa C0 C1 HQ0 HB0 wa JF2 r1
  obtain ⟨z0, z1, z2, z3, z4, z5, z6, z7, z8, z9, z10, z11, z12, z13⟩ := blk14 HQ6.out
  go_wp2_with fail
  refine (C2 _).mono ?_
  rintro e w7 ⟨v, rfl, ⟨A3, c3, rfl, r3⟩, hb⟩
  have HJ := Lib.hid (fun _ : Unit => Join_after A1 A3 L.length L2.length c1 c3 L L2 w6 w7 hb ((HR1.out.below hb).more hb.size) r3 rfl rfl (by have := HL.out; omega))
  clear r3 hb C2
  go_wp2_with fail
  refine (HJ.out ()).mono ?_
  rintro e w9 ⟨v, rfl, ho, hb⟩
  obtain ⟨-, A2, c2, rfl, h1, h2, hr⟩ := own_form ho
  have HR := Lib.hid hr
  have HB := Lib.hid hb
  clear ho hb hr HJ
  go_wp2_with fail
  go_ret
  exact ⟨_, rfl, ⟨A2, c2, by first | rfl | (rw [List.length_append]; rfl) | simp, HR.out⟩, by rw [HW.out.2]; exact HB6.out.trans (HB.out.mono (by have := HB6.out.size; have := HW.out.2; omega))⟩
set_option maxRecDepth 100000 in
set_option maxHeartbeats 4000000 in
theorem RB20_4 {a K R B s ek : Nat} {P M S F G d m : Int} (ha : a < 4294967296) (w : World) : Calls Tryz.prog 15 #[.agg #[.int .u8 4, .int .u32 (a : Int), .int .u8 (K : Int), .int .i64 P, .int .u32 (R : Int), .int .u8 (B : Int), .int .i64 M, .int .i64 S, .int .i64 F, .int .i64 G, .int .u32 (s : Int), .int .i64 d, .int .u8 (ek : Int), .int .i64 m]] w (ToF (bySF (([] ++ layN 0 4) ++ layN 0 a)) w) := by
  have HQ0 := Lib.hid (Blk.new w 44 #[.int .u8 4, .int .u32 (a : Int), .int .u8 (K : Int), .int .i64 P, .int .u32 (R : Int), .int .u8 (B : Int), .int .i64 M, .int .i64 S, .int .i64 F, .int .i64 G, .int .u32 (s : Int), .int .i64 d, .int .u8 (ek : Int), .int .i64 m])
  have HB0 := Lib.hid (b_alloc w (.cells #[.int .u8 4, .int .u32 (a : Int), .int .u8 (K : Int), .int .i64 P, .int .u32 (R : Int), .int .u8 (B : Int), .int .i64 M, .int .i64 S, .int .i64 F, .int .i64 G, .int .u32 (s : Int), .int .i64 d, .int .u8 (ek : Int), .int .i64 m] 44))
  have wa : IntKind.u64.wrap (a : Int) = (a : Int) := by rw [IntKind.wrap_u64]; omega
  have C0 := fun W => rUintF 4 (by decide) W
  have C1 := fun W => rUintF a (by omega) W
  have l0 := layN_le 0 4 (by decide)
  have l1 := layN_le 0 a (by omega)
  obtain ⟨L0, q0⟩ : ∃ x, layN 0 4 = x := ⟨_, rfl⟩
  obtain ⟨L1, q1⟩ : ∃ x, layN 0 a = x := ⟨_, rfl⟩
  rw [q0] at C0 l0 ⊢
  rw [q1] at C1 l1 ⊢
  have hfl : [L0, L1].flatten = ([] ++ L0) ++ L1 := by simp
  have hl01 : (([] ++ L0) ++ L1).length ≤ 18 := by simp; omega
  obtain ⟨L, hL⟩ : ∃ x, ([] ++ L0) ++ L1 = x := ⟨_, rfl⟩
  rw [hL] at hfl hl01 ⊢
  have JF2 : ∀ v W, (rowsF [L0, L1]).p v W → Calls Tryz.prog 16 #[v] W (ToF (bySF L) W) := fun v W h => by
    have h9 := joinF h (by rw [hfl]; omega) (by simp)
    rw [hfl] at h9
    exact h9
  clear q0 q1 hfl hL l0 l1
  obtain ⟨W0, hW⟩ : ∃ W, w.alloc (.cells #[.int .u8 4, .int .u32 (a : Int), .int .u8 (K : Int), .int .i64 P, .int .u32 (R : Int), .int .u8 (B : Int), .int .i64 M, .int .i64 S, .int .i64 F, .int .i64 G, .int .u32 (s : Int), .int .i64 d, .int .u8 (ek : Int), .int .i64 m] 44) = W := ⟨_, rfl⟩
  obtain ⟨b, hb⟩ : ∃ b, w.heap.size = b := ⟨_, rfl⟩
  rw [hW, hb] at HQ0 HB0
  have HW := Lib.hid (And.intro hW hb)
  clear hW hb
  have LDk : ∀ W, Below W0.heap.size W0 W → (Instr.loadAt 5 (.pointer (some ⟨b, 0, none⟩))).run Tryz.prog W = .ok (.int .u8 4) W := fun W hb => by
    obtain ⟨c1, -⟩ := blk14 (HQ0.out.below hb HQ0.out.lt)
    go_simp
  have LDa : ∀ W, Below W0.heap.size W0 W → (Instr.loadAt 22 (.pointer (some ⟨b, 1, none⟩))).run Tryz.prog W = .ok (.int .u32 (a : Int)) W := fun W hb => by
    obtain ⟨_, c1, -⟩ := blk14 (HQ0.out.below hb HQ0.out.lt)
    go_simp
  go_enter Tryz.func15, Tryz.ntmps15
  go_upto_region 1 with (fail)
  rw [HW.out.1, HW.out.2]
  refine wp_region_flow [some 4, some 5, some 6, some 7, some 8, some 9, some 10, some 11, some 12, some 13, some 3] (fun i => ([.is (.pointer (some ⟨b, 0, none⟩)), .is (.int .u8 4), .is (.int .u64 4), bySF L0, .is (.pointer (some ⟨b, 1, none⟩)), .is (.int .u32 (a : Int)), .is (.int .u64 (a : Int)), bySF L1, rowsF [L0, L1], bySF L, bySF L] : List Flw).getD i .any) (by kernel_rfl) (by kernel_rfl) rfl ?_ ?_
  · skip
    refine ⟨step_free rfl (fun aF wF hs hb => ?_), ?_⟩
    · obtain ⟨x0, -⟩ := hs
      have e0 : aF.eval (.tmp 1) = .pointer (some ⟨b, 0, none⟩) := x0
      refine opC_value (v := .pointer (some ⟨b, 0, none⟩)) ?_ ⟨rfl, below_same wF⟩
      have t0 := ev_of e0
      simp [execOp, go_sem, t0]
    refine ⟨step_free rfl (fun aF wF hs hb => ?_), ?_⟩
    · obtain ⟨x0, -⟩ := hs
      have e0 : aF.eval (.tmp 4) = .pointer (some ⟨b, 0, none⟩) := x0
      exact opC_load e0 (LDk wF hb) ⟨rfl, below_same wF⟩
    refine ⟨step_free rfl (fun aF wF hs hb => ?_), ?_⟩
    · obtain ⟨x0, -⟩ := hs
      have e0 : aF.eval (.tmp 5) = .int .u8 4 := x0
      refine opC_value (v := .int .u64 4) ?_ ⟨rfl, below_same wF⟩
      simp [execOp, go_sem, ev_of e0]
      decide
    refine ⟨step_free rfl (fun aF wF hs hb => ?_), ?_⟩
    · obtain ⟨x0, -⟩ := hs
      have e0 : aF.eval (.tmp 6) = .int .u64 4 := x0
      exact opC_callF (args := #[.int .u64 4]) (enters9 Tryz.func37 (by kernel_rfl) rfl) (by simp [e0]) (C0 wF) (fun _ _ h1 h2 => ⟨h1, h2⟩)
    refine ⟨step_free rfl (fun aF wF hs hb => ?_), ?_⟩
    · obtain ⟨x0, -⟩ := hs
      have e0 : aF.eval (.tmp 1) = .pointer (some ⟨b, 0, none⟩) := x0
      refine opC_value (v := .pointer (some ⟨b, 1, none⟩)) ?_ ⟨rfl, below_same wF⟩
      have t0 := ev_of e0
      simp [execOp, go_sem, t0]
    refine ⟨step_free rfl (fun aF wF hs hb => ?_), ?_⟩
    · obtain ⟨x0, -⟩ := hs
      have e0 : aF.eval (.tmp 8) = .pointer (some ⟨b, 1, none⟩) := x0
      exact opC_load e0 (LDa wF hb) ⟨rfl, below_same wF⟩
    refine ⟨step_free rfl (fun aF wF hs hb => ?_), ?_⟩
    · obtain ⟨x0, -⟩ := hs
      have e0 : aF.eval (.tmp 9) = .int .u32 (a : Int) := x0
      refine opC_value (v := .int .u64 (a : Int)) ?_ ⟨rfl, below_same wF⟩
      simp [execOp, go_sem, ev_of e0, wa]
    refine ⟨step_free rfl (fun aF wF hs hb => ?_), ?_⟩
    · obtain ⟨x0, -⟩ := hs
      have e0 : aF.eval (.tmp 10) = .int .u64 (a : Int) := x0
      exact opC_callF (args := #[.int .u64 (a : Int)]) (enters9 Tryz.func37 (by kernel_rfl) rfl) (by simp [e0]) (C1 wF) (fun _ _ h1 h2 => ⟨h1, h2⟩)
    refine ⟨step_free rfl (fun aF wF hs hb => ?_), ?_⟩
    · obtain ⟨x0, x1, -⟩ := hs
      obtain ⟨A0, c0, e0, r0⟩ : (bySF L0).p (aF.eval (.tmp 7)) wF := x0
      obtain ⟨A1, c1, e1, r1⟩ : (bySF L1).p (aF.eval (.tmp 11)) wF := x1
      exact opC_rows2 e0 e1 r0 r1 (fun v w9 h1 h2 => ⟨h1, h2⟩)
    refine ⟨step_free rfl (fun aF wF hs hb => ?_), ?_⟩
    · obtain ⟨x0, -⟩ := hs
      have y0 : (rowsF [L0, L1]).p (aF.eval (.tmp 12)) wF := x0
      exact opC_callF (args := #[aF.eval (.tmp 12)]) (enters9 Tryz.func16 (by kernel_rfl) rfl) (by simp) (JF2 _ wF y0) (fun _ _ h1 h2 => ⟨h1, h2⟩)
    refine ⟨step_free rfl (fun aF wF hs hb => ?_), ?_⟩
    · obtain ⟨x0, -⟩ := hs
      exact opC_assign rfl ⟨x0, below_same wF⟩
    exact trivial
  intro fv w6 hf hb6
  obtain ⟨A1, c1, e1, r1⟩ : (bySF L).p (fv 10) w6 := hf 10 3 rfl
  have HR1 := Lib.hid r1
  have HQ6 := Lib.hid (HQ0.out.below hb6 HQ0.out.lt)
  have HB6 := Lib.hid (HB0.out.trans (hb6.mono (by have := HQ0.out.lt; omega)))
  simp only [putF, Act.put, List.setIfInBounds_toArray, List.set_cons_zero, List.set_cons_succ]
  rw [e1]
  clear e1 hf hb6 LDk LDa C0 C1 HQ0 HB0 wa JF2 r1
  obtain ⟨z0, z1, z2, z3, z4, z5, z6, z7, z8, z9, z10, z11, z12, z13⟩ := blk14 HQ6.out
  go_wp2_with fail
  go_ret
  exact ⟨_, rfl, ⟨A1, c1, rfl, HR1.out⟩, by rw [HW.out.2]; exact HB6.out⟩
theorem RBytes20 {o : Ord} (hi : o.In) (h : o.Right) (w : World) : Calls Tryz.prog 15 #[o.r] w (ToF (bySF (layO o)) w) := by
  obtain ⟨h0, h1, h2, h3, h4⟩ := h
  have ha := hi.a
  have hs := hi.e.s
  have hek := hi.e.k
  unfold layO
  by_cases k1 : o.k = 1
  · rw [if_pos k1]
    have hR := h1 k1
    have cT := fun W => cRBytesF hR W
    have htx := (layTm_len hR).2
    clear h0 h1 h2 h3 h4 hR hi
    obtain ⟨k, a, ⟨K, P, R, B, M, S, F, G⟩, s, d, ek, m⟩ := o
    dsimp only at k1
    subst k1
    exact RB20_1 (by omega) cT ha w
  rw [if_neg k1]
  by_cases k2 : o.k = 2
  · rw [if_pos k2]
    obtain ⟨hd, hk⟩ := h2 k2
    clear h0 h1 h2 h3 h4 hi
    obtain ⟨k, a, ⟨K, P, R, B, M, S, F, G⟩, s, d, ek, m⟩ := o
    dsimp only at k2 hd hk ha hs hek ⊢
    subst k2
    obtain ⟨d, rfl⟩ : ∃ n : Nat, d = n := ⟨d.toNat, by omega⟩
    obtain ⟨m, rfl⟩ : ∃ n : Nat, m = n := ⟨m.toNat, by omega⟩
    simp only [Int.toNat_natCast]
    exact RB20_2 hs (by omega) hek (by omega) ha w
  rw [if_neg k2]
  by_cases k3 : o.k = 3
  · rw [if_pos k3]
    clear h0 h1 h2 h3 h4 hi
    obtain ⟨k, a, ⟨K, P, R, B, M, S, F, G⟩, s, d, ek, m⟩ := o
    dsimp only at k3
    subst k3
    exact RB20_3 hs ha w
  rw [if_neg k3]
  have k4 : o.k = 4 := by omega
  clear h0 h1 h2 h3 h4 hi
  obtain ⟨k, a, ⟨K, P, R, B, M, S, F, G⟩, s, d, ek, m⟩ := o
  dsimp only at k4
  subst k4
  exact RB20_4 ha w
end Go.Proofs.YtjlajnackecfgaaGreatDoor
