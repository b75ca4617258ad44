/-
The references' Same: are two lists of bytes alike? Condition: the bytes are there.
What the listed variable strconv.ErrRange gives a walk. No condition.
OrderApart: the law's walk. Conditions: the numbers' kinds, what is laid.
-/
import Derived.Test.YtjlajnackecfgaaGreatDoorQuEX9
import Derived.Deep.QuietTactic
import Derived.BigQuiet
import Derived.Test.YtjlajnackecfgaaGreatDoorOpOX9
import Derived.Stop.LaidErr
import Derived.Test.YtjlajnackecfgaaGreatDoorOdMX9
import Derived.Test.YtjlajnackecfgaaGreatDoorOdPX9
import Derived.Test.YtjlajnackecfgaaGreatDoorOdRX9
import Derived.Test.YtjlajnackecfgaaGreatDoorOdTX9
import Derived.Test.YtjlajnackecfgaaGreatDoorByFX9
namespace Go.Proofs.YtjlajnackecfgaaGreatDoor
open Go.RowKit

def AlikeTo (l m : List UInt8) (k : Nat) : Prop := l.take k = m.take k
def QuietPost (v : Value) (w : World) (e : Ending) (w' : World) : Prop := e = .returned v ∧ ∃ q, w' = w.drewN q

set_option maxHeartbeats 1000000 in
theorem Same_any (A A' : Option Addr) (n c B n' c' B' : Nat) (l m : List UInt8) (w : World) (hR : Rd w B A l) (hn : l.length = n) (hm : n ≤ maxLen) (hR' : Rd w B' A' m) (hn' : m.length = n') (hm' : n' ≤ maxLen) :
    Calls Tryz.prog 14 #[.slice A n c, .slice A' n' c'] w (QuietPost (.bool (decide (l = m))) w) := by
  unfold maxLen at hm hm'
  subst hn hn'
  by_cases hl : l.length = m.length
  · have hne : (((l.length : Nat) : Int) != ((m.length : Nat) : Int)) = false := by rw [hl]; simp
    have HL := Lib.hid hl
    clear hl
    go_enter Tryz.func14, Tryz.ntmps14
    go_wp2
    go_loopw [13] (fun i wr => ∃ k : Nat, k ≤ l.length ∧ i = .int .i64 k ∧ AlikeTo l m k ∧ ∃ q, wr = w.drewN q) (fun i _ => l.length - (intOf i).toNat)
    case atStart => exact ⟨0, Nat.zero_le _, rfl, rfl, 0, rfl⟩
    case round =>
      obtain ⟨k, hk, rfl, hal, q, rfl⟩ := hrel
      by_cases hlt : k < l.length
      · have hlt' : k < m.length := by rw [← HL.out]; exact hlt
        obtain ⟨b, o, rfl, _, hc⟩ := hR.at_ hlt
        obtain ⟨b', o', rfl, _, hc'⟩ := hR'.at_ hlt'
        have i1 : (0 : Int) ≤ (k : Int) := by omega
        have i2 : (k : Int) < ((l.length : Nat) : Int) := by omega
        have i3 : (k : Int) < ((m.length : Nat) : Int) := by omega
        by_cases he : l[k] = m[k]
        · have hb : (((l[k]).toNat : Int) != ((m[k]).toNat : Int)) = false := by rw [he]; simp
          have hal' : AlikeTo l m (k + 1) := by
            unfold AlikeTo at hal ⊢
            rw [List.take_succ_eq_append_getElem hlt, List.take_succ_eq_append_getElem hlt', hal, he]
          have HE := Lib.hid he
          clear he hal
          go_wp2_with fail
          go_quiet (fail)
          go_wp2
          go_roundw
          case rel => exact ⟨k + 1, by omega, by go_num, hal', _, by first | rfl | (rw [World.drewN_drewN])⟩
          case measure => simp [intOf]; omega
        · have hb : (((l[k]).toNat : Int) != ((m[k]).toNat : Int)) = true := by
            have : (l[k]).toNat ≠ (m[k]).toNat := fun h => he (UInt8.toNat_inj.1 h)
            rw [bne_iff_ne]
            omega
          have HF := Lib.hid (show decide (l = m) = false from by
            refine decide_eq_false fun h => he ?_
            subst h
            rfl)
          go_wp2_with fail
          go_quiet (fail)
          go_wp2
          go_ret
          exact ⟨by rw [HF.out]; rfl, _, by first | rfl | (rw [World.drewN_drewN])⟩
      · have HF := Lib.hid (show decide (l = m) = true from by
          refine decide_eq_true ?_
          unfold AlikeTo at hal
          obtain rfl : k = l.length := by omega
          rw [List.take_of_length_le (Nat.le_refl _), List.take_of_length_le (by rw [HL.out]; exact Nat.le_refl _)] at hal
          exact hal)
        go_wp2
        go_ret
        exact ⟨by rw [HF.out]; rfl, q, rfl⟩
  · have hne : (((l.length : Nat) : Int) != ((m.length : Nat) : Int)) = true := by rw [bne_iff_ne]; omega
    have HF := Lib.hid (show decide (l = m) = false from decide_eq_false fun h => hl (by rw [h]))
    go_enter Tryz.func14, Tryz.ntmps14
    go_wp2
    go_ret
    exact ⟨by rw [HF.out]; rfl, 0, rfl⟩
theorem blk_rd {w : World} {g B : Nat} {l : List UInt8} (h : Blk w g 5 (l.map enc8).toArray) (hB : g < B) : Rd w B (some ⟨g, 0, none⟩) l :=
  h.rd hB fun j u hu => by rw [Nat.zero_add]; simp [hu, enc8]
theorem below_all {w w' : World} {v : Value} {e : Ending} (h : QuietPost v w e w') : e = .returned v ∧ Below w.heap.size w w' := by
  obtain ⟨he, q, rfl⟩ := h
  exact ⟨he, below_drewN (Below.refl _ _) q⟩
end Go.Proofs.YtjlajnackecfgaaGreatDoor
namespace Go.Proofs.YtjlajnackecfgaaGreatDoor
open Go.ChangeShapes Go.WideShapes Go.ChangeAt Go.RowKit

theorem str_row : ∀ u, Tryz.prog.typeName? 3 u = some "*errors.errorString" → u = 217 := by
  have e : ("*errors.errorString" : String) = "*" ++ "errors.errorString" := by decide +kernel
  rw [e]
  exact typeName_ptr_named (by kernel_rfl) (by kernel_rfl) (by decide +kernel)
theorem sentinel_mem {W : World} {text : List UInt8} {f : Field} {n : String} {g : Nat} (hg : Tryz.prog.globalNamed n = some g) (ht : (Tryz.prog.globals[g]?).map (·.type) = some 47)
    (he : Tryz.prog.underlying 219 = some (.struct #[f])) (hft : f.type = 9) (hfo : f.offset = 0) :
    ∀ {L : List (String × DataW Unit)}, laidMet Tryz.prog L W → (n, (.iface "*errors.errorString" (.ptr (.agg [.lit (.string text)])) : DataW Unit)) ∈ L → ∃ a : Addr, W.var? Tryz.prog n = some #[.iface 217 (.pointer (some a))]
  | [], _, hm => by cases hm
  | x :: r, h, hm => by
    rcases List.mem_cons.1 hm with e | hm
    · subst e
      obtain ⟨a, s, hv, _⟩ := laid_sentinel h hg ht Tryz.underlying47 str_row Tryz.underlying217 he hft hfo Tryz.underlying9 (by kernel_rfl) (by kernel_rfl)
      exact ⟨a, hv⟩
    · exact sentinel_mem hg ht he hft hfo h.tail hm
theorem errR_str {L : List (String × DataW Unit)} {W : World} (h : laidMetH Tryz.prog L W) (hm : ("strconv.ErrRange", Rows.laid_strconv_ErrRange) ∈ L.filter fun x => x.2.handleName?.isNone) :
    ∃ a : Addr, W.cell? ⟨1, 0, none⟩ = some (.iface 217 (.pointer (some a))) := by
  obtain ⟨a, hv⟩ := sentinel_mem errR_named errR_typed Tryz.underlying219 rfl rfl (plain_laid h) hm
  exact ⟨a, by rw [World.var?_cell errR_named hv 0]; rfl⟩
end Go.Proofs.YtjlajnackecfgaaGreatDoor
namespace Go.Proofs.YtjlajnackecfgaaGreatDoor
open Go.ChangeShapes Go.WideShapes Go.ChangeAt Go.RowKit Go.Shelf
theorem layO_len {o : Ord} (hi : o.In) (h : o.Right) : (layO o).length ≤ 200 := by
  have i1 := hi.k
  have i2 := hi.a
  have i3 := hi.e.s
  have i4 := hi.e.k
  have i5 := hi.e.m
  have i6 := hi.e.d
  have n1 := layN_le 0 o.k (by omega)
  have n2 := layN_le 0 o.a (by omega)
  have n3 := layN_le 0 o.e.s (by omega)
  have n4 := layN_le 0 o.e.d.toNat (by omega)
  have n5 := layN_le 0 o.e.k (by omega)
  have n6 := layN_le 0 o.e.m.toNat (by omega)
  unfold layO
  by_cases k1 : o.k = 1
  · have l1 := layTm_len (h.2.1 k1)
    have n7 := layN_le 0 (layTm o.t).length (by omega)
    rw [if_pos k1]
    unfold layT
    simp only [List.length_append, List.length_nil]
    omega
  rw [if_neg k1]
  split
  · simp only [List.length_append, List.length_nil]
    omega
  · split
    · simp only [List.length_append, List.length_nil]
      omega
    · simp only [List.length_append, List.length_nil]
      omega
theorem oBytesF {o : Ord} (hi : o.In) (h : o.Right) (w : World) : Calls Tryz.prog 9 #[o.v] w (ToF (bySF (layO o)) w) := by
  refine (OBytes_yes hi h w).mono ?_
  rintro e w' ⟨⟨A, g, rfl, h1, h2, h3⟩, hb⟩
  exact ⟨_, rfl, ⟨A, _, rfl, h3.rd⟩, hb⟩
set_option maxRecDepth 100000 in
set_option maxHeartbeats 4000000 in
theorem OApart_1 {k a K R B s ek k' a' K' R' B' s' ek' : Nat} {P M S F G d m P' M' S' F' G' d' m' : Int} {ra rb : Bool} (kS1 : ∀ W, Calls Tryz.prog 12 #[.agg #[.int .u8 (k : Int), .int .u32 (a : Int), .int .u8 (K : Int), .int .i64 P, .int .u32 (R : Int), .int .u8 (B : Int), .int .i64 M, .int .i32 S, .int .i64 F, .int .i64 G, .int .u32 (s : Int), .int .i32 d, .int .u8 (ek : Int), .int .i64 m]] W (Ret (.bool false) W))
    (kO1 : ∀ W, Calls Tryz.prog 11 #[.agg #[.int .u8 (k : Int), .int .u32 (a : Int), .int .u8 (K : Int), .int .i64 P, .int .u32 (R : Int), .int .u8 (B : Int), .int .i64 M, .int .i32 S, .int .i64 F, .int .i64 G, .int .u32 (s : Int), .int .i32 d, .int .u8 (ek : Int), .int .i64 m]] W (Ret (.agg #[.int .u8 (k : Int), .int .u32 (a : Int), .int .u8 (K : Int), .int .i64 P, .int .u32 (R : Int), .int .u8 (B : Int), .int .i64 M, .int .i64 S, .int .i64 F, .int .i64 G, .int .u32 (s : Int), .int .i64 d, .int .u8 (ek : Int), .int .i64 m]) W)) (kO2 : ∀ W, Calls Tryz.prog 11 #[.agg #[.int .u8 (k' : Int), .int .u32 (a' : Int), .int .u8 (K' : Int), .int .i64 P', .int .u32 (R' : Int), .int .u8 (B' : Int), .int .i64 M', .int .i32 S', .int .i64 F', .int .i64 G', .int .u32 (s' : Int), .int .i32 d', .int .u8 (ek' : Int), .int .i64 m']] W (Ret (.agg #[.int .u8 (k' : Int), .int .u32 (a' : Int), .int .u8 (K' : Int), .int .i64 P', .int .u32 (R' : Int), .int .u8 (B' : Int), .int .i64 M', .int .i64 S', .int .i64 F', .int .i64 G', .int .u32 (s' : Int), .int .i64 d', .int .u8 (ek' : Int), .int .i64 m']) W))
    (kQ1 : ∀ W, Calls Tryz.prog 10 #[.agg #[.int .u8 (k : Int), .int .u32 (a : Int), .int .u8 (K : Int), .int .i64 P, .int .u32 (R : Int), .int .u8 (B : Int), .int .i64 M, .int .i64 S, .int .i64 F, .int .i64 G, .int .u32 (s : Int), .int .i64 d, .int .u8 (ek : Int), .int .i64 m]] W (Ret (.bool ra) W)) (kQ2 : ∀ W, Calls Tryz.prog 10 #[.agg #[.int .u8 (k' : Int), .int .u32 (a' : Int), .int .u8 (K' : Int), .int .i64 P', .int .u32 (R' : Int), .int .u8 (B' : Int), .int .i64 M', .int .i64 S', .int .i64 F', .int .i64 G', .int .u32 (s' : Int), .int .i64 d', .int .u8 (ek' : Int), .int .i64 m']] W (Ret (.bool rb) W))
    (kR1 : ∀ W, Calls Tryz.prog 12 #[.agg #[.int .u8 (k : Int), .int .u32 (a : Int), .int .u8 (K : Int), .int .i64 P, .int .u32 (R : Int), .int .u8 (B : Int), .int .i64 M, .int .i32 S, .int .i64 F, .int .i64 G, .int .u32 (s : Int), .int .i32 d, .int .u8 (ek : Int), .int .i64 m]] W (Ret (.bool ra) W)) (kR2 : ∀ W, Calls Tryz.prog 12 #[.agg #[.int .u8 (k' : Int), .int .u32 (a' : Int), .int .u8 (K' : Int), .int .i64 P', .int .u32 (R' : Int), .int .u8 (B' : Int), .int .i64 M', .int .i32 S', .int .i64 F', .int .i64 G', .int .u32 (s' : Int), .int .i32 d', .int .u8 (ek' : Int), .int .i64 m']] W (Ret (.bool rb) W))
    (w : World) (hl : TLd w) : Calls Tryz.prog 5 #[.agg #[.int .u8 (k : Int), .int .u32 (a : Int), .int .u8 (K : Int), .int .i64 P, .int .u32 (R : Int), .int .u8 (B : Int), .int .i64 M, .int .i32 S, .int .i64 F, .int .i64 G, .int .u32 (s : Int), .int .i32 d, .int .u8 (ek : Int), .int .i64 m], .agg #[.int .u8 (k' : Int), .int .u32 (a' : Int), .int .u8 (K' : Int), .int .i64 P', .int .u32 (R' : Int), .int .u8 (B' : Int), .int .i64 M', .int .i32 S', .int .i64 F', .int .i64 G', .int .u32 (s' : Int), .int .i32 d', .int .u8 (ek' : Int), .int .i64 m']] w (Ret (.bool true) w) := by
  have hw0 := b_alloc w (.cells #[.int .u8 (k : Int), .int .u32 (a : Int), .int .u8 (K : Int), .int .i64 P, .int .u32 (R : Int), .int .u8 (B : Int), .int .i64 M, .int .i32 S, .int .i64 F, .int .i64 G, .int .u32 (s : Int), .int .i32 d, .int .u8 (ek : Int), .int .i64 m] 32)
  have hp0 := (Blk.new w 32 #[.int .u8 (k : Int), .int .u32 (a : Int), .int .u8 (K : Int), .int .i64 P, .int .u32 (R : Int), .int .u8 (B : Int), .int .i64 M, .int .i32 S, .int .i64 F, .int .i64 G, .int .u32 (s : Int), .int .i32 d, .int .u8 (ek : Int), .int .i64 m]).alloc (.cells #[.int .u8 (k' : Int), .int .u32 (a' : Int), .int .u8 (K' : Int), .int .i64 P', .int .u32 (R' : Int), .int .u8 (B' : Int), .int .i64 M', .int .i32 S', .int .i64 F', .int .i64 G', .int .u32 (s' : Int), .int .i32 d', .int .u8 (ek' : Int), .int .i64 m'] 32)
  have hq0 := Blk.new (w.alloc (.cells #[.int .u8 (k : Int), .int .u32 (a : Int), .int .u8 (K : Int), .int .i64 P, .int .u32 (R : Int), .int .u8 (B : Int), .int .i64 M, .int .i32 S, .int .i64 F, .int .i64 G, .int .u32 (s : Int), .int .i32 d, .int .u8 (ek : Int), .int .i64 m] 32)) 32 #[.int .u8 (k' : Int), .int .u32 (a' : Int), .int .u8 (K' : Int), .int .i64 P', .int .u32 (R' : Int), .int .u8 (B' : Int), .int .i64 M', .int .i32 S', .int .i64 F', .int .i64 G', .int .u32 (s' : Int), .int .i32 d', .int .u8 (ek' : Int), .int .i64 m']
  rw [World.size_alloc] at hq0
  have HP0 := Lib.hid hp0
  have HQ0 := Lib.hid hq0
  have HB0 := Lib.hid (hw0.alloc hw0.size (.cells #[.int .u8 (k' : Int), .int .u32 (a' : Int), .int .u8 (K' : Int), .int .i64 P', .int .u32 (R' : Int), .int .u8 (B' : Int), .int .i64 M', .int .i32 S', .int .i64 F', .int .i64 G', .int .u32 (s' : Int), .int .i32 d', .int .u8 (ek' : Int), .int .i64 m'] 32))
  have HL := Lib.hid hl
  clear hw0 hp0 hq0 hl
  go_enter Tryz.func5, Tryz.ntmps5
  go_wp2_with fail
  refine (awake20 _ (HL.out.below HB0.out)).mono ?_
  rintro e w1 ⟨rfl, hb⟩
  have HP1 := Lib.hid (HP0.out.below hb HP0.out.lt)
  have HQ1 := Lib.hid (HQ0.out.below hb HQ0.out.lt)
  have HB1 := Lib.hid (HB0.out.trans (hb.mono HB0.out.size))
  clear hb HP0 HQ0 HB0
  obtain ⟨z0, z1, z2, z3, z4, z5, z6, z7, z8, z9, z10, z11, z12, z13⟩ := blk14 HP1.out
  go_wp2_with fail
  refine (kS1 _).mono ?_
  rintro e w2 ⟨rfl, hb⟩
  have HP2 := Lib.hid (HP1.out.below hb HP1.out.lt)
  have HQ2 := Lib.hid (HQ1.out.below hb HQ1.out.lt)
  have HB2 := Lib.hid (HB1.out.trans (hb.mono HB1.out.size))
  clear hb HP1 HQ1 HB1 kS1 z0 z1 z2 z3 z4 z5 z6 z7 z8 z9 z10 z11 z12 z13
  obtain ⟨p, hpp⟩ : ∃ p, w.heap.size = p := ⟨_, rfl⟩
  obtain ⟨q, hqq⟩ : ∃ q, w.heap.size + 1 = q := ⟨_, rfl⟩
  rw [hqq] at HQ2
  rw [hpp] at HP2
  rw [hqq, hpp]
  clear hpp hqq
  have LP : ∀ W', Below w2.heap.size w2 W' → (Instr.loadAt 32 (.pointer (some ⟨p, 0, none⟩))).run Tryz.prog W' = .ok (.agg #[.int .u8 (k : Int), .int .u32 (a : Int), .int .u8 (K : Int), .int .i64 P, .int .u32 (R : Int), .int .u8 (B : Int), .int .i64 M, .int .i32 S, .int .i64 F, .int .i64 G, .int .u32 (s : Int), .int .i32 d, .int .u8 (ek : Int), .int .i64 m]) W' := fun W' hb => run_loadB (HP2.out.below hb HP2.out.lt) _ 0 #[.int .u8 (k : Int), .int .u32 (a : Int), .int .u8 (K : Int), .int .i64 P, .int .u32 (R : Int), .int .u8 (B : Int), .int .i64 M, .int .i32 S, .int .i64 F, .int .i64 G, .int .u32 (s : Int), .int .i32 d, .int .u8 (ek : Int), .int .i64 m] (part_of (by rfl)) rowOr
  have LQ : ∀ W', Below w2.heap.size w2 W' → (Instr.loadAt 32 (.pointer (some ⟨q, 0, none⟩))).run Tryz.prog W' = .ok (.agg #[.int .u8 (k' : Int), .int .u32 (a' : Int), .int .u8 (K' : Int), .int .i64 P', .int .u32 (R' : Int), .int .u8 (B' : Int), .int .i64 M', .int .i32 S', .int .i64 F', .int .i64 G', .int .u32 (s' : Int), .int .i32 d', .int .u8 (ek' : Int), .int .i64 m']) W' := fun W' hb => run_loadB (HQ2.out.below hb HQ2.out.lt) _ 0 #[.int .u8 (k' : Int), .int .u32 (a' : Int), .int .u8 (K' : Int), .int .i64 P', .int .u32 (R' : Int), .int .u8 (B' : Int), .int .i64 M', .int .i32 S', .int .i64 F', .int .i64 G', .int .u32 (s' : Int), .int .i32 d', .int .u8 (ek' : Int), .int .i64 m'] (part_of (by rfl)) rowOr
  clear HP2 HQ2
  go_upto_region 4 with (fail)
  refine wp_region_flow [some 15, some 16, some 17, some 18, some 19, some 20, some 21, some 22, some 23, some 24, some 25, some 26, some 27, some 28, some 4] (fun i => ([.is (.agg #[.int .u8 (k : Int), .int .u32 (a : Int), .int .u8 (K : Int), .int .i64 P, .int .u32 (R : Int), .int .u8 (B : Int), .int .i64 M, .int .i32 S, .int .i64 F, .int .i64 G, .int .u32 (s : Int), .int .i32 d, .int .u8 (ek : Int), .int .i64 m]), .is (.agg #[.int .u8 (k : Int), .int .u32 (a : Int), .int .u8 (K : Int), .int .i64 P, .int .u32 (R : Int), .int .u8 (B : Int), .int .i64 M, .int .i64 S, .int .i64 F, .int .i64 G, .int .u32 (s : Int), .int .i64 d, .int .u8 (ek : Int), .int .i64 m]), .is (.bool ra), .is (.agg #[.int .u8 (k : Int), .int .u32 (a : Int), .int .u8 (K : Int), .int .i64 P, .int .u32 (R : Int), .int .u8 (B : Int), .int .i64 M, .int .i32 S, .int .i64 F, .int .i64 G, .int .u32 (s : Int), .int .i32 d, .int .u8 (ek : Int), .int .i64 m]), .is (.bool ra), .is (.bool true), .is (.bool true), .is (.agg #[.int .u8 (k' : Int), .int .u32 (a' : Int), .int .u8 (K' : Int), .int .i64 P', .int .u32 (R' : Int), .int .u8 (B' : Int), .int .i64 M', .int .i32 S', .int .i64 F', .int .i64 G', .int .u32 (s' : Int), .int .i32 d', .int .u8 (ek' : Int), .int .i64 m']), .is (.agg #[.int .u8 (k' : Int), .int .u32 (a' : Int), .int .u8 (K' : Int), .int .i64 P', .int .u32 (R' : Int), .int .u8 (B' : Int), .int .i64 M', .int .i64 S', .int .i64 F', .int .i64 G', .int .u32 (s' : Int), .int .i64 d', .int .u8 (ek' : Int), .int .i64 m']), .is (.bool rb), .is (.agg #[.int .u8 (k' : Int), .int .u32 (a' : Int), .int .u8 (K' : Int), .int .i64 P', .int .u32 (R' : Int), .int .u8 (B' : Int), .int .i64 M', .int .i32 S', .int .i64 F', .int .i64 G', .int .u32 (s' : Int), .int .i32 d', .int .u8 (ek' : Int), .int .i64 m']), .is (.bool rb), .is (.bool true), .is (.bool true), .is (.bool true)] : List Flw).getD i .any) (by kernel_rfl) (by kernel_rfl) rfl ?_ ?_
  · skip
    refine ⟨step_free rfl (fun aF wF hs hb => ?_), ?_⟩
    · obtain ⟨x0, -⟩ := hs
      have e0 : aF.eval (.tmp 2) = .pointer (some ⟨p, 0, none⟩) := x0
      exact opC_load e0 (LP wF hb) ⟨rfl, below_same wF⟩
    refine ⟨step_free rfl (fun aF wF hs hb => ?_), ?_⟩
    · obtain ⟨x0, -⟩ := hs
      have e0 : aF.eval (.tmp 15) = .agg #[.int .u8 (k : Int), .int .u32 (a : Int), .int .u8 (K : Int), .int .i64 P, .int .u32 (R : Int), .int .u8 (B : Int), .int .i64 M, .int .i32 S, .int .i64 F, .int .i64 G, .int .u32 (s : Int), .int .i32 d, .int .u8 (ek : Int), .int .i64 m] := x0
      exact opC_call (args := #[.agg #[.int .u8 (k : Int), .int .u32 (a : Int), .int .u8 (K : Int), .int .i64 P, .int .u32 (R : Int), .int .u8 (B : Int), .int .i64 M, .int .i32 S, .int .i64 F, .int .i64 G, .int .u32 (s : Int), .int .i32 d, .int .u8 (ek : Int), .int .i64 m]]) (enters9 Tryz.func11 (by kernel_rfl) rfl) (by simp [e0]) (kO1 wF) (fun _ h => ⟨rfl, h⟩)
    refine ⟨step_free rfl (fun aF wF hs hb => ?_), ?_⟩
    · obtain ⟨x0, -⟩ := hs
      have e0 : aF.eval (.tmp 16) = .agg #[.int .u8 (k : Int), .int .u32 (a : Int), .int .u8 (K : Int), .int .i64 P, .int .u32 (R : Int), .int .u8 (B : Int), .int .i64 M, .int .i64 S, .int .i64 F, .int .i64 G, .int .u32 (s : Int), .int .i64 d, .int .u8 (ek : Int), .int .i64 m] := x0
      exact opC_call (args := #[.agg #[.int .u8 (k : Int), .int .u32 (a : Int), .int .u8 (K : Int), .int .i64 P, .int .u32 (R : Int), .int .u8 (B : Int), .int .i64 M, .int .i64 S, .int .i64 F, .int .i64 G, .int .u32 (s : Int), .int .i64 d, .int .u8 (ek : Int), .int .i64 m]]) (enters9 Tryz.func10 (by kernel_rfl) rfl) (by simp [e0]) (kQ1 wF) (fun _ h => ⟨rfl, h⟩)
    refine ⟨step_free rfl (fun aF wF hs hb => ?_), ?_⟩
    · obtain ⟨x0, -⟩ := hs
      have e0 : aF.eval (.tmp 2) = .pointer (some ⟨p, 0, none⟩) := x0
      exact opC_load e0 (LP wF hb) ⟨rfl, below_same wF⟩
    refine ⟨step_free rfl (fun aF wF hs hb => ?_), ?_⟩
    · obtain ⟨x0, -⟩ := hs
      have e0 : aF.eval (.tmp 18) = .agg #[.int .u8 (k : Int), .int .u32 (a : Int), .int .u8 (K : Int), .int .i64 P, .int .u32 (R : Int), .int .u8 (B : Int), .int .i64 M, .int .i32 S, .int .i64 F, .int .i64 G, .int .u32 (s : Int), .int .i32 d, .int .u8 (ek : Int), .int .i64 m] := x0
      exact opC_call (args := #[.agg #[.int .u8 (k : Int), .int .u32 (a : Int), .int .u8 (K : Int), .int .i64 P, .int .u32 (R : Int), .int .u8 (B : Int), .int .i64 M, .int .i32 S, .int .i64 F, .int .i64 G, .int .u32 (s : Int), .int .i32 d, .int .u8 (ek : Int), .int .i64 m]]) (enters9 Tryz.func12 (by kernel_rfl) rfl) (by simp [e0]) (kR1 wF) (fun _ h => ⟨rfl, h⟩)
    refine ⟨step_free rfl (fun aF wF hs hb => ?_), ?_⟩
    · obtain ⟨x0, x1, -⟩ := hs
      have e0 : aF.eval (.tmp 17) = .bool ra := x0
      have e1 : aF.eval (.tmp 19) = .bool ra := x1
      refine opC_value (v := .bool true) ?_ ⟨rfl, below_same wF⟩
      have t0 := ev_of e0
      have t1 := ev_of e1
      simp [execOp, go_sem, t0, t1]
    refine ⟨step_free rfl (fun aF wF hs hb => ?_), ?_⟩
    · obtain ⟨x0, -⟩ := hs
      have e0 : aF.eval (.tmp 20) = .bool true := x0
      exact opC_move e0 ⟨rfl, below_same wF⟩
    refine ⟨step_yes 6 21 rfl rfl (fun _ _ h => h) (fun aF wF hs hb => ?_), ?_⟩
    · obtain ⟨x0, -⟩ := hs
      have e0 : aF.eval (.tmp 3) = .pointer (some ⟨q, 0, none⟩) := x0
      exact opC_load e0 (LQ wF hb) ⟨rfl, below_same wF⟩
    refine ⟨step_yes 6 21 rfl rfl (fun _ _ h => h) (fun aF wF hs hb => ?_), ?_⟩
    · obtain ⟨x0, -⟩ := hs
      have e0 : aF.eval (.tmp 22) = .agg #[.int .u8 (k' : Int), .int .u32 (a' : Int), .int .u8 (K' : Int), .int .i64 P', .int .u32 (R' : Int), .int .u8 (B' : Int), .int .i64 M', .int .i32 S', .int .i64 F', .int .i64 G', .int .u32 (s' : Int), .int .i32 d', .int .u8 (ek' : Int), .int .i64 m'] := x0
      exact opC_call (args := #[.agg #[.int .u8 (k' : Int), .int .u32 (a' : Int), .int .u8 (K' : Int), .int .i64 P', .int .u32 (R' : Int), .int .u8 (B' : Int), .int .i64 M', .int .i32 S', .int .i64 F', .int .i64 G', .int .u32 (s' : Int), .int .i32 d', .int .u8 (ek' : Int), .int .i64 m']]) (enters9 Tryz.func11 (by kernel_rfl) rfl) (by simp [e0]) (kO2 wF) (fun _ h => ⟨rfl, h⟩)
    refine ⟨step_yes 6 21 rfl rfl (fun _ _ h => h) (fun aF wF hs hb => ?_), ?_⟩
    · obtain ⟨x0, -⟩ := hs
      have e0 : aF.eval (.tmp 23) = .agg #[.int .u8 (k' : Int), .int .u32 (a' : Int), .int .u8 (K' : Int), .int .i64 P', .int .u32 (R' : Int), .int .u8 (B' : Int), .int .i64 M', .int .i64 S', .int .i64 F', .int .i64 G', .int .u32 (s' : Int), .int .i64 d', .int .u8 (ek' : Int), .int .i64 m'] := x0
      exact opC_call (args := #[.agg #[.int .u8 (k' : Int), .int .u32 (a' : Int), .int .u8 (K' : Int), .int .i64 P', .int .u32 (R' : Int), .int .u8 (B' : Int), .int .i64 M', .int .i64 S', .int .i64 F', .int .i64 G', .int .u32 (s' : Int), .int .i64 d', .int .u8 (ek' : Int), .int .i64 m']]) (enters9 Tryz.func10 (by kernel_rfl) rfl) (by simp [e0]) (kQ2 wF) (fun _ h => ⟨rfl, h⟩)
    refine ⟨step_yes 6 21 rfl rfl (fun _ _ h => h) (fun aF wF hs hb => ?_), ?_⟩
    · obtain ⟨x0, -⟩ := hs
      have e0 : aF.eval (.tmp 3) = .pointer (some ⟨q, 0, none⟩) := x0
      exact opC_load e0 (LQ wF hb) ⟨rfl, below_same wF⟩
    refine ⟨step_yes 6 21 rfl rfl (fun _ _ h => h) (fun aF wF hs hb => ?_), ?_⟩
    · obtain ⟨x0, -⟩ := hs
      have e0 : aF.eval (.tmp 25) = .agg #[.int .u8 (k' : Int), .int .u32 (a' : Int), .int .u8 (K' : Int), .int .i64 P', .int .u32 (R' : Int), .int .u8 (B' : Int), .int .i64 M', .int .i32 S', .int .i64 F', .int .i64 G', .int .u32 (s' : Int), .int .i32 d', .int .u8 (ek' : Int), .int .i64 m'] := x0
      exact opC_call (args := #[.agg #[.int .u8 (k' : Int), .int .u32 (a' : Int), .int .u8 (K' : Int), .int .i64 P', .int .u32 (R' : Int), .int .u8 (B' : Int), .int .i64 M', .int .i32 S', .int .i64 F', .int .i64 G', .int .u32 (s' : Int), .int .i32 d', .int .u8 (ek' : Int), .int .i64 m']]) (enters9 Tryz.func12 (by kernel_rfl) rfl) (by simp [e0]) (kR2 wF) (fun _ h => ⟨rfl, h⟩)
    refine ⟨step_yes 6 21 rfl rfl (fun _ _ h => h) (fun aF wF hs hb => ?_), ?_⟩
    · obtain ⟨x0, x1, -⟩ := hs
      have e0 : aF.eval (.tmp 24) = .bool rb := x0
      have e1 : aF.eval (.tmp 26) = .bool rb := x1
      refine opC_value (v := .bool true) ?_ ⟨rfl, below_same wF⟩
      have t0 := ev_of e0
      have t1 := ev_of e1
      simp [execOp, go_sem, t0, t1]
    refine ⟨step_free rfl (fun aF wF hs hb => ?_), ?_⟩
    · obtain ⟨x0, x1, -⟩ := hs
      have e0 : aF.eval (.tmp 21) = .bool true := x0
      have e1 : aF.eval (.tmp 27) = .bool true := x1
      refine opC_value (v := .bool true) ?_ ⟨rfl, below_same wF⟩
      have t0 := ev_of e0
      have t1 := ev_of e1
      simp [execOp, go_sem, t0, t1]
    refine ⟨step_free rfl (fun aF wF hs hb => ?_), ?_⟩
    · obtain ⟨x0, -⟩ := hs
      have e0 : aF.eval (.tmp 28) = .bool true := x0
      exact opC_assign e0 ⟨rfl, below_same wF⟩
    exact trivial
  · intro f w6 hf hb6
    have h9 : f 14 = .bool true := hf 14 4 rfl
    have HB6 := Lib.hid (HB2.out.trans (hb6.mono HB2.out.size))
    simp only [putF, Act.put, List.setIfInBounds_toArray, List.set_cons_zero, List.set_cons_succ]
    rw [h9]
    clear hf h9 hb6 LP LQ kO1 kO2 kQ1 kQ2 kR1 kR2
    go_wp2_with fail
    go_ret
    exact ⟨rfl, HB6.out⟩
set_option maxRecDepth 100000 in
set_option maxHeartbeats 4000000 in
theorem OApart_2 {k a K R B s ek k' a' K' R' B' s' ek' : Nat} {P M S F G d m P' M' S' F' G' d' m' : Int} {ra rb : Bool} (kS1 : ∀ W, Calls Tryz.prog 12 #[.agg #[.int .u8 (k : Int), .int .u32 (a : Int), .int .u8 (K : Int), .int .i64 P, .int .u32 (R : Int), .int .u8 (B : Int), .int .i64 M, .int .i32 S, .int .i64 F, .int .i64 G, .int .u32 (s : Int), .int .i32 d, .int .u8 (ek : Int), .int .i64 m]] W (Ret (.bool true) W)) (kS2 : ∀ W, Calls Tryz.prog 12 #[.agg #[.int .u8 (k' : Int), .int .u32 (a' : Int), .int .u8 (K' : Int), .int .i64 P', .int .u32 (R' : Int), .int .u8 (B' : Int), .int .i64 M', .int .i32 S', .int .i64 F', .int .i64 G', .int .u32 (s' : Int), .int .i32 d', .int .u8 (ek' : Int), .int .i64 m']] W (Ret (.bool false) W))
    (kO1 : ∀ W, Calls Tryz.prog 11 #[.agg #[.int .u8 (k : Int), .int .u32 (a : Int), .int .u8 (K : Int), .int .i64 P, .int .u32 (R : Int), .int .u8 (B : Int), .int .i64 M, .int .i32 S, .int .i64 F, .int .i64 G, .int .u32 (s : Int), .int .i32 d, .int .u8 (ek : Int), .int .i64 m]] W (Ret (.agg #[.int .u8 (k : Int), .int .u32 (a : Int), .int .u8 (K : Int), .int .i64 P, .int .u32 (R : Int), .int .u8 (B : Int), .int .i64 M, .int .i64 S, .int .i64 F, .int .i64 G, .int .u32 (s : Int), .int .i64 d, .int .u8 (ek : Int), .int .i64 m]) W)) (kO2 : ∀ W, Calls Tryz.prog 11 #[.agg #[.int .u8 (k' : Int), .int .u32 (a' : Int), .int .u8 (K' : Int), .int .i64 P', .int .u32 (R' : Int), .int .u8 (B' : Int), .int .i64 M', .int .i32 S', .int .i64 F', .int .i64 G', .int .u32 (s' : Int), .int .i32 d', .int .u8 (ek' : Int), .int .i64 m']] W (Ret (.agg #[.int .u8 (k' : Int), .int .u32 (a' : Int), .int .u8 (K' : Int), .int .i64 P', .int .u32 (R' : Int), .int .u8 (B' : Int), .int .i64 M', .int .i64 S', .int .i64 F', .int .i64 G', .int .u32 (s' : Int), .int .i64 d', .int .u8 (ek' : Int), .int .i64 m']) W))
    (kQ1 : ∀ W, Calls Tryz.prog 10 #[.agg #[.int .u8 (k : Int), .int .u32 (a : Int), .int .u8 (K : Int), .int .i64 P, .int .u32 (R : Int), .int .u8 (B : Int), .int .i64 M, .int .i64 S, .int .i64 F, .int .i64 G, .int .u32 (s : Int), .int .i64 d, .int .u8 (ek : Int), .int .i64 m]] W (Ret (.bool ra) W)) (kQ2 : ∀ W, Calls Tryz.prog 10 #[.agg #[.int .u8 (k' : Int), .int .u32 (a' : Int), .int .u8 (K' : Int), .int .i64 P', .int .u32 (R' : Int), .int .u8 (B' : Int), .int .i64 M', .int .i64 S', .int .i64 F', .int .i64 G', .int .u32 (s' : Int), .int .i64 d', .int .u8 (ek' : Int), .int .i64 m']] W (Ret (.bool rb) W))
    (kR1 : ∀ W, Calls Tryz.prog 12 #[.agg #[.int .u8 (k : Int), .int .u32 (a : Int), .int .u8 (K : Int), .int .i64 P, .int .u32 (R : Int), .int .u8 (B : Int), .int .i64 M, .int .i32 S, .int .i64 F, .int .i64 G, .int .u32 (s : Int), .int .i32 d, .int .u8 (ek : Int), .int .i64 m]] W (Ret (.bool ra) W)) (kR2 : ∀ W, Calls Tryz.prog 12 #[.agg #[.int .u8 (k' : Int), .int .u32 (a' : Int), .int .u8 (K' : Int), .int .i64 P', .int .u32 (R' : Int), .int .u8 (B' : Int), .int .i64 M', .int .i32 S', .int .i64 F', .int .i64 G', .int .u32 (s' : Int), .int .i32 d', .int .u8 (ek' : Int), .int .i64 m']] W (Ret (.bool rb) W))
    (w : World) (hl : TLd w) : Calls Tryz.prog 5 #[.agg #[.int .u8 (k : Int), .int .u32 (a : Int), .int .u8 (K : Int), .int .i64 P, .int .u32 (R : Int), .int .u8 (B : Int), .int .i64 M, .int .i32 S, .int .i64 F, .int .i64 G, .int .u32 (s : Int), .int .i32 d, .int .u8 (ek : Int), .int .i64 m], .agg #[.int .u8 (k' : Int), .int .u32 (a' : Int), .int .u8 (K' : Int), .int .i64 P', .int .u32 (R' : Int), .int .u8 (B' : Int), .int .i64 M', .int .i32 S', .int .i64 F', .int .i64 G', .int .u32 (s' : Int), .int .i32 d', .int .u8 (ek' : Int), .int .i64 m']] w (Ret (.bool true) w) := by
  have hw0 := b_alloc w (.cells #[.int .u8 (k : Int), .int .u32 (a : Int), .int .u8 (K : Int), .int .i64 P, .int .u32 (R : Int), .int .u8 (B : Int), .int .i64 M, .int .i32 S, .int .i64 F, .int .i64 G, .int .u32 (s : Int), .int .i32 d, .int .u8 (ek : Int), .int .i64 m] 32)
  have hp0 := (Blk.new w 32 #[.int .u8 (k : Int), .int .u32 (a : Int), .int .u8 (K : Int), .int .i64 P, .int .u32 (R : Int), .int .u8 (B : Int), .int .i64 M, .int .i32 S, .int .i64 F, .int .i64 G, .int .u32 (s : Int), .int .i32 d, .int .u8 (ek : Int), .int .i64 m]).alloc (.cells #[.int .u8 (k' : Int), .int .u32 (a' : Int), .int .u8 (K' : Int), .int .i64 P', .int .u32 (R' : Int), .int .u8 (B' : Int), .int .i64 M', .int .i32 S', .int .i64 F', .int .i64 G', .int .u32 (s' : Int), .int .i32 d', .int .u8 (ek' : Int), .int .i64 m'] 32)
  have hq0 := Blk.new (w.alloc (.cells #[.int .u8 (k : Int), .int .u32 (a : Int), .int .u8 (K : Int), .int .i64 P, .int .u32 (R : Int), .int .u8 (B : Int), .int .i64 M, .int .i32 S, .int .i64 F, .int .i64 G, .int .u32 (s : Int), .int .i32 d, .int .u8 (ek : Int), .int .i64 m] 32)) 32 #[.int .u8 (k' : Int), .int .u32 (a' : Int), .int .u8 (K' : Int), .int .i64 P', .int .u32 (R' : Int), .int .u8 (B' : Int), .int .i64 M', .int .i32 S', .int .i64 F', .int .i64 G', .int .u32 (s' : Int), .int .i32 d', .int .u8 (ek' : Int), .int .i64 m']
  rw [World.size_alloc] at hq0
  have HP0 := Lib.hid hp0
  have HQ0 := Lib.hid hq0
  have HB0 := Lib.hid (hw0.alloc hw0.size (.cells #[.int .u8 (k' : Int), .int .u32 (a' : Int), .int .u8 (K' : Int), .int .i64 P', .int .u32 (R' : Int), .int .u8 (B' : Int), .int .i64 M', .int .i32 S', .int .i64 F', .int .i64 G', .int .u32 (s' : Int), .int .i32 d', .int .u8 (ek' : Int), .int .i64 m'] 32))
  have HL := Lib.hid hl
  clear hw0 hp0 hq0 hl
  go_enter Tryz.func5, Tryz.ntmps5
  go_wp2_with fail
  refine (awake20 _ (HL.out.below HB0.out)).mono ?_
  rintro e w1 ⟨rfl, hb⟩
  have HP1 := Lib.hid (HP0.out.below hb HP0.out.lt)
  have HQ1 := Lib.hid (HQ0.out.below hb HQ0.out.lt)
  have HB1 := Lib.hid (HB0.out.trans (hb.mono HB0.out.size))
  clear hb HP0 HQ0 HB0
  obtain ⟨z0, z1, z2, z3, z4, z5, z6, z7, z8, z9, z10, z11, z12, z13⟩ := blk14 HP1.out
  go_wp2_with fail
  refine (kS1 _).mono ?_
  rintro e w2 ⟨rfl, hb⟩
  have HP2 := Lib.hid (HP1.out.below hb HP1.out.lt)
  have HQ2 := Lib.hid (HQ1.out.below hb HQ1.out.lt)
  have HB2 := Lib.hid (HB1.out.trans (hb.mono HB1.out.size))
  clear hb HP1 HQ1 HB1 kS1 z0 z1 z2 z3 z4 z5 z6 z7 z8 z9 z10 z11 z12 z13
  obtain ⟨z0, z1, z2, z3, z4, z5, z6, z7, z8, z9, z10, z11, z12, z13⟩ := blk14 HQ2.out
  go_wp2_with fail
  refine (kS2 _).mono ?_
  rintro e w3 ⟨rfl, hb⟩
  have HP3 := Lib.hid (HP2.out.below hb HP2.out.lt)
  have HQ3 := Lib.hid (HQ2.out.below hb HQ2.out.lt)
  have HB3 := Lib.hid (HB2.out.trans (hb.mono HB2.out.size))
  clear hb HP2 HQ2 HB2 kS2 z0 z1 z2 z3 z4 z5 z6 z7 z8 z9 z10 z11 z12 z13
  obtain ⟨p, hpp⟩ : ∃ p, w.heap.size = p := ⟨_, rfl⟩
  obtain ⟨q, hqq⟩ : ∃ q, w.heap.size + 1 = q := ⟨_, rfl⟩
  rw [hqq] at HQ3
  rw [hpp] at HP3
  rw [hqq, hpp]
  clear hpp hqq
  have LP : ∀ W', Below w3.heap.size w3 W' → (Instr.loadAt 32 (.pointer (some ⟨p, 0, none⟩))).run Tryz.prog W' = .ok (.agg #[.int .u8 (k : Int), .int .u32 (a : Int), .int .u8 (K : Int), .int .i64 P, .int .u32 (R : Int), .int .u8 (B : Int), .int .i64 M, .int .i32 S, .int .i64 F, .int .i64 G, .int .u32 (s : Int), .int .i32 d, .int .u8 (ek : Int), .int .i64 m]) W' := fun W' hb => run_loadB (HP3.out.below hb HP3.out.lt) _ 0 #[.int .u8 (k : Int), .int .u32 (a : Int), .int .u8 (K : Int), .int .i64 P, .int .u32 (R : Int), .int .u8 (B : Int), .int .i64 M, .int .i32 S, .int .i64 F, .int .i64 G, .int .u32 (s : Int), .int .i32 d, .int .u8 (ek : Int), .int .i64 m] (part_of (by rfl)) rowOr
  have LQ : ∀ W', Below w3.heap.size w3 W' → (Instr.loadAt 32 (.pointer (some ⟨q, 0, none⟩))).run Tryz.prog W' = .ok (.agg #[.int .u8 (k' : Int), .int .u32 (a' : Int), .int .u8 (K' : Int), .int .i64 P', .int .u32 (R' : Int), .int .u8 (B' : Int), .int .i64 M', .int .i32 S', .int .i64 F', .int .i64 G', .int .u32 (s' : Int), .int .i32 d', .int .u8 (ek' : Int), .int .i64 m']) W' := fun W' hb => run_loadB (HQ3.out.below hb HQ3.out.lt) _ 0 #[.int .u8 (k' : Int), .int .u32 (a' : Int), .int .u8 (K' : Int), .int .i64 P', .int .u32 (R' : Int), .int .u8 (B' : Int), .int .i64 M', .int .i32 S', .int .i64 F', .int .i64 G', .int .u32 (s' : Int), .int .i32 d', .int .u8 (ek' : Int), .int .i64 m'] (part_of (by rfl)) rowOr
  clear HP3 HQ3
  go_upto_region 4 with (fail)
  refine wp_region_flow [some 15, some 16, some 17, some 18, some 19, some 20, some 21, some 22, some 23, some 24, some 25, some 26, some 27, some 28, some 4] (fun i => ([.is (.agg #[.int .u8 (k : Int), .int .u32 (a : Int), .int .u8 (K : Int), .int .i64 P, .int .u32 (R : Int), .int .u8 (B : Int), .int .i64 M, .int .i32 S, .int .i64 F, .int .i64 G, .int .u32 (s : Int), .int .i32 d, .int .u8 (ek : Int), .int .i64 m]), .is (.agg #[.int .u8 (k : Int), .int .u32 (a : Int), .int .u8 (K : Int), .int .i64 P, .int .u32 (R : Int), .int .u8 (B : Int), .int .i64 M, .int .i64 S, .int .i64 F, .int .i64 G, .int .u32 (s : Int), .int .i64 d, .int .u8 (ek : Int), .int .i64 m]), .is (.bool ra), .is (.agg #[.int .u8 (k : Int), .int .u32 (a : Int), .int .u8 (K : Int), .int .i64 P, .int .u32 (R : Int), .int .u8 (B : Int), .int .i64 M, .int .i32 S, .int .i64 F, .int .i64 G, .int .u32 (s : Int), .int .i32 d, .int .u8 (ek : Int), .int .i64 m]), .is (.bool ra), .is (.bool true), .is (.bool true), .is (.agg #[.int .u8 (k' : Int), .int .u32 (a' : Int), .int .u8 (K' : Int), .int .i64 P', .int .u32 (R' : Int), .int .u8 (B' : Int), .int .i64 M', .int .i32 S', .int .i64 F', .int .i64 G', .int .u32 (s' : Int), .int .i32 d', .int .u8 (ek' : Int), .int .i64 m']), .is (.agg #[.int .u8 (k' : Int), .int .u32 (a' : Int), .int .u8 (K' : Int), .int .i64 P', .int .u32 (R' : Int), .int .u8 (B' : Int), .int .i64 M', .int .i64 S', .int .i64 F', .int .i64 G', .int .u32 (s' : Int), .int .i64 d', .int .u8 (ek' : Int), .int .i64 m']), .is (.bool rb), .is (.agg #[.int .u8 (k' : Int), .int .u32 (a' : Int), .int .u8 (K' : Int), .int .i64 P', .int .u32 (R' : Int), .int .u8 (B' : Int), .int .i64 M', .int .i32 S', .int .i64 F', .int .i64 G', .int .u32 (s' : Int), .int .i32 d', .int .u8 (ek' : Int), .int .i64 m']), .is (.bool rb), .is (.bool true), .is (.bool true), .is (.bool true)] : List Flw).getD i .any) (by kernel_rfl) (by kernel_rfl) rfl ?_ ?_
  · skip
    refine ⟨step_free rfl (fun aF wF hs hb => ?_), ?_⟩
    · obtain ⟨x0, -⟩ := hs
      have e0 : aF.eval (.tmp 2) = .pointer (some ⟨p, 0, none⟩) := x0
      exact opC_load e0 (LP wF hb) ⟨rfl, below_same wF⟩
    refine ⟨step_free rfl (fun aF wF hs hb => ?_), ?_⟩
    · obtain ⟨x0, -⟩ := hs
      have e0 : aF.eval (.tmp 15) = .agg #[.int .u8 (k : Int), .int .u32 (a : Int), .int .u8 (K : Int), .int .i64 P, .int .u32 (R : Int), .int .u8 (B : Int), .int .i64 M, .int .i32 S, .int .i64 F, .int .i64 G, .int .u32 (s : Int), .int .i32 d, .int .u8 (ek : Int), .int .i64 m] := x0
      exact opC_call (args := #[.agg #[.int .u8 (k : Int), .int .u32 (a : Int), .int .u8 (K : Int), .int .i64 P, .int .u32 (R : Int), .int .u8 (B : Int), .int .i64 M, .int .i32 S, .int .i64 F, .int .i64 G, .int .u32 (s : Int), .int .i32 d, .int .u8 (ek : Int), .int .i64 m]]) (enters9 Tryz.func11 (by kernel_rfl) rfl) (by simp [e0]) (kO1 wF) (fun _ h => ⟨rfl, h⟩)
    refine ⟨step_free rfl (fun aF wF hs hb => ?_), ?_⟩
    · obtain ⟨x0, -⟩ := hs
      have e0 : aF.eval (.tmp 16) = .agg #[.int .u8 (k : Int), .int .u32 (a : Int), .int .u8 (K : Int), .int .i64 P, .int .u32 (R : Int), .int .u8 (B : Int), .int .i64 M, .int .i64 S, .int .i64 F, .int .i64 G, .int .u32 (s : Int), .int .i64 d, .int .u8 (ek : Int), .int .i64 m] := x0
      exact opC_call (args := #[.agg #[.int .u8 (k : Int), .int .u32 (a : Int), .int .u8 (K : Int), .int .i64 P, .int .u32 (R : Int), .int .u8 (B : Int), .int .i64 M, .int .i64 S, .int .i64 F, .int .i64 G, .int .u32 (s : Int), .int .i64 d, .int .u8 (ek : Int), .int .i64 m]]) (enters9 Tryz.func10 (by kernel_rfl) rfl) (by simp [e0]) (kQ1 wF) (fun _ h => ⟨rfl, h⟩)
    refine ⟨step_free rfl (fun aF wF hs hb => ?_), ?_⟩
    · obtain ⟨x0, -⟩ := hs
      have e0 : aF.eval (.tmp 2) = .pointer (some ⟨p, 0, none⟩) := x0
      exact opC_load e0 (LP wF hb) ⟨rfl, below_same wF⟩
    refine ⟨step_free rfl (fun aF wF hs hb => ?_), ?_⟩
    · obtain ⟨x0, -⟩ := hs
      have e0 : aF.eval (.tmp 18) = .agg #[.int .u8 (k : Int), .int .u32 (a : Int), .int .u8 (K : Int), .int .i64 P, .int .u32 (R : Int), .int .u8 (B : Int), .int .i64 M, .int .i32 S, .int .i64 F, .int .i64 G, .int .u32 (s : Int), .int .i32 d, .int .u8 (ek : Int), .int .i64 m] := x0
      exact opC_call (args := #[.agg #[.int .u8 (k : Int), .int .u32 (a : Int), .int .u8 (K : Int), .int .i64 P, .int .u32 (R : Int), .int .u8 (B : Int), .int .i64 M, .int .i32 S, .int .i64 F, .int .i64 G, .int .u32 (s : Int), .int .i32 d, .int .u8 (ek : Int), .int .i64 m]]) (enters9 Tryz.func12 (by kernel_rfl) rfl) (by simp [e0]) (kR1 wF) (fun _ h => ⟨rfl, h⟩)
    refine ⟨step_free rfl (fun aF wF hs hb => ?_), ?_⟩
    · obtain ⟨x0, x1, -⟩ := hs
      have e0 : aF.eval (.tmp 17) = .bool ra := x0
      have e1 : aF.eval (.tmp 19) = .bool ra := x1
      refine opC_value (v := .bool true) ?_ ⟨rfl, below_same wF⟩
      have t0 := ev_of e0
      have t1 := ev_of e1
      simp [execOp, go_sem, t0, t1]
    refine ⟨step_free rfl (fun aF wF hs hb => ?_), ?_⟩
    · obtain ⟨x0, -⟩ := hs
      have e0 : aF.eval (.tmp 20) = .bool true := x0
      exact opC_move e0 ⟨rfl, below_same wF⟩
    refine ⟨step_yes 6 21 rfl rfl (fun _ _ h => h) (fun aF wF hs hb => ?_), ?_⟩
    · obtain ⟨x0, -⟩ := hs
      have e0 : aF.eval (.tmp 3) = .pointer (some ⟨q, 0, none⟩) := x0
      exact opC_load e0 (LQ wF hb) ⟨rfl, below_same wF⟩
    refine ⟨step_yes 6 21 rfl rfl (fun _ _ h => h) (fun aF wF hs hb => ?_), ?_⟩
    · obtain ⟨x0, -⟩ := hs
      have e0 : aF.eval (.tmp 22) = .agg #[.int .u8 (k' : Int), .int .u32 (a' : Int), .int .u8 (K' : Int), .int .i64 P', .int .u32 (R' : Int), .int .u8 (B' : Int), .int .i64 M', .int .i32 S', .int .i64 F', .int .i64 G', .int .u32 (s' : Int), .int .i32 d', .int .u8 (ek' : Int), .int .i64 m'] := x0
      exact opC_call (args := #[.agg #[.int .u8 (k' : Int), .int .u32 (a' : Int), .int .u8 (K' : Int), .int .i64 P', .int .u32 (R' : Int), .int .u8 (B' : Int), .int .i64 M', .int .i32 S', .int .i64 F', .int .i64 G', .int .u32 (s' : Int), .int .i32 d', .int .u8 (ek' : Int), .int .i64 m']]) (enters9 Tryz.func11 (by kernel_rfl) rfl) (by simp [e0]) (kO2 wF) (fun _ h => ⟨rfl, h⟩)
    refine ⟨step_yes 6 21 rfl rfl (fun _ _ h => h) (fun aF wF hs hb => ?_), ?_⟩
    · obtain ⟨x0, -⟩ := hs
      have e0 : aF.eval (.tmp 23) = .agg #[.int .u8 (k' : Int), .int .u32 (a' : Int), .int .u8 (K' : Int), .int .i64 P', .int .u32 (R' : Int), .int .u8 (B' : Int), .int .i64 M', .int .i64 S', .int .i64 F', .int .i64 G', .int .u32 (s' : Int), .int .i64 d', .int .u8 (ek' : Int), .int .i64 m'] := x0
      exact opC_call (args := #[.agg #[.int .u8 (k' : Int), .int .u32 (a' : Int), .int .u8 (K' : Int), .int .i64 P', .int .u32 (R' : Int), .int .u8 (B' : Int), .int .i64 M', .int .i64 S', .int .i64 F', .int .i64 G', .int .u32 (s' : Int), .int .i64 d', .int .u8 (ek' : Int), .int .i64 m']]) (enters9 Tryz.func10 (by kernel_rfl) rfl) (by simp [e0]) (kQ2 wF) (fun _ h => ⟨rfl, h⟩)
    refine ⟨step_yes 6 21 rfl rfl (fun _ _ h => h) (fun aF wF hs hb => ?_), ?_⟩
    · obtain ⟨x0, -⟩ := hs
      have e0 : aF.eval (.tmp 3) = .pointer (some ⟨q, 0, none⟩) := x0
      exact opC_load e0 (LQ wF hb) ⟨rfl, below_same wF⟩
    refine ⟨step_yes 6 21 rfl rfl (fun _ _ h => h) (fun aF wF hs hb => ?_), ?_⟩
    · obtain ⟨x0, -⟩ := hs
      have e0 : aF.eval (.tmp 25) = .agg #[.int .u8 (k' : Int), .int .u32 (a' : Int), .int .u8 (K' : Int), .int .i64 P', .int .u32 (R' : Int), .int .u8 (B' : Int), .int .i64 M', .int .i32 S', .int .i64 F', .int .i64 G', .int .u32 (s' : Int), .int .i32 d', .int .u8 (ek' : Int), .int .i64 m'] := x0
      exact opC_call (args := #[.agg #[.int .u8 (k' : Int), .int .u32 (a' : Int), .int .u8 (K' : Int), .int .i64 P', .int .u32 (R' : Int), .int .u8 (B' : Int), .int .i64 M', .int .i32 S', .int .i64 F', .int .i64 G', .int .u32 (s' : Int), .int .i32 d', .int .u8 (ek' : Int), .int .i64 m']]) (enters9 Tryz.func12 (by kernel_rfl) rfl) (by simp [e0]) (kR2 wF) (fun _ h => ⟨rfl, h⟩)
    refine ⟨step_yes 6 21 rfl rfl (fun _ _ h => h) (fun aF wF hs hb => ?_), ?_⟩
    · obtain ⟨x0, x1, -⟩ := hs
      have e0 : aF.eval (.tmp 24) = .bool rb := x0
      have e1 : aF.eval (.tmp 26) = .bool rb := x1
      refine opC_value (v := .bool true) ?_ ⟨rfl, below_same wF⟩
      have t0 := ev_of e0
      have t1 := ev_of e1
      simp [execOp, go_sem, t0, t1]
    refine ⟨step_free rfl (fun aF wF hs hb => ?_), ?_⟩
    · obtain ⟨x0, x1, -⟩ := hs
      have e0 : aF.eval (.tmp 21) = .bool true := x0
      have e1 : aF.eval (.tmp 27) = .bool true := x1
      refine opC_value (v := .bool true) ?_ ⟨rfl, below_same wF⟩
      have t0 := ev_of e0
      have t1 := ev_of e1
      simp [execOp, go_sem, t0, t1]
    refine ⟨step_free rfl (fun aF wF hs hb => ?_), ?_⟩
    · obtain ⟨x0, -⟩ := hs
      have e0 : aF.eval (.tmp 28) = .bool true := x0
      exact opC_assign e0 ⟨rfl, below_same wF⟩
    exact trivial
  · intro f w6 hf hb6
    have h9 : f 14 = .bool true := hf 14 4 rfl
    have HB6 := Lib.hid (HB3.out.trans (hb6.mono HB3.out.size))
    simp only [putF, Act.put, List.setIfInBounds_toArray, List.set_cons_zero, List.set_cons_succ]
    rw [h9]
    clear hf h9 hb6 LP LQ kO1 kO2 kQ1 kQ2 kR1 kR2
    go_wp2_with fail
    go_ret
    exact ⟨rfl, HB6.out⟩
set_option maxRecDepth 100000 in
set_option maxHeartbeats 4000000 in
theorem OApart_3 {k a K R B s ek k' a' K' R' B' s' ek' : Nat} {P M S F G d m P' M' S' F' G' d' m' : Int} {D : Bool} {L1 L2 : List UInt8} {sx sy : ByteArray} (kS1 : ∀ W, Calls Tryz.prog 12 #[.agg #[.int .u8 (k : Int), .int .u32 (a : Int), .int .u8 (K : Int), .int .i64 P, .int .u32 (R : Int), .int .u8 (B : Int), .int .i64 M, .int .i32 S, .int .i64 F, .int .i64 G, .int .u32 (s : Int), .int .i32 d, .int .u8 (ek : Int), .int .i64 m]] W (Ret (.bool true) W)) (kS2 : ∀ W, Calls Tryz.prog 12 #[.agg #[.int .u8 (k' : Int), .int .u32 (a' : Int), .int .u8 (K' : Int), .int .i64 P', .int .u32 (R' : Int), .int .u8 (B' : Int), .int .i64 M', .int .i32 S', .int .i64 F', .int .i64 G', .int .u32 (s' : Int), .int .i32 d', .int .u8 (ek' : Int), .int .i64 m']] W (Ret (.bool true) W))
    (cB1 : ∀ W, Calls Tryz.prog 9 #[.agg #[.int .u8 (k : Int), .int .u32 (a : Int), .int .u8 (K : Int), .int .i64 P, .int .u32 (R : Int), .int .u8 (B : Int), .int .i64 M, .int .i32 S, .int .i64 F, .int .i64 G, .int .u32 (s : Int), .int .i32 d, .int .u8 (ek : Int), .int .i64 m]] W (ToF (bySF L1) W)) (cB2 : ∀ W, Calls Tryz.prog 9 #[.agg #[.int .u8 (k' : Int), .int .u32 (a' : Int), .int .u8 (K' : Int), .int .i64 P', .int .u32 (R' : Int), .int .u8 (B' : Int), .int .i64 M', .int .i32 S', .int .i64 F', .int .i64 G', .int .u32 (s' : Int), .int .i32 d', .int .u8 (ek' : Int), .int .i64 m']] W (ToF (bySF L2) W))
    (kT1 : ∀ W, TLd W → Calls Tryz.prog 20 #[.agg #[.int .u8 (k : Int), .int .u32 (a : Int), .int .u8 (K : Int), .int .i64 P, .int .u32 (R : Int), .int .u8 (B : Int), .int .i64 M, .int .i32 S, .int .i64 F, .int .i64 G, .int .u32 (s : Int), .int .i32 d, .int .u8 (ek : Int), .int .i64 m]] W (Ret (.string sx) W)) (kT2 : ∀ W, TLd W → Calls Tryz.prog 20 #[.agg #[.int .u8 (k' : Int), .int .u32 (a' : Int), .int .u8 (K' : Int), .int .i64 P', .int .u32 (R' : Int), .int .u8 (B' : Int), .int .i64 M', .int .i32 S', .int .i64 F', .int .i64 G', .int .u32 (s' : Int), .int .i32 d', .int .u8 (ek' : Int), .int .i64 m']] W (Ret (.string sy) W))
    (cS : ∀ (A0 A1 : Option Addr) (c0 c1 : Nat) (W : World) (_ : Rd W W.heap.size A0 L1) (_ : Rd W W.heap.size A1 L2), Calls Tryz.prog 14 #[.slice A0 L1.length c0, .slice A1 L2.length c1] W fun e w' => e = .returned (.bool D) ∧ Below W.heap.size W w')
    (cE : ∀ W, (Op.equalIn 10000 32 (.agg #[.int .u8 (k : Int), .int .u32 (a : Int), .int .u8 (K : Int), .int .i64 P, .int .u32 (R : Int), .int .u8 (B : Int), .int .i64 M, .int .i32 S, .int .i64 F, .int .i64 G, .int .u32 (s : Int), .int .i32 d, .int .u8 (ek : Int), .int .i64 m]) (.agg #[.int .u8 (k' : Int), .int .u32 (a' : Int), .int .u8 (K' : Int), .int .i64 P', .int .u32 (R' : Int), .int .u8 (B' : Int), .int .i64 M', .int .i32 S', .int .i64 F', .int .i64 G', .int .u32 (s' : Int), .int .i32 d', .int .u8 (ek' : Int), .int .i64 m'])).run Tryz.prog W = .ok D W) (cX : (sx.toList == sy.toList) = D)
    (w : World) (hl : TLd w) : Calls Tryz.prog 5 #[.agg #[.int .u8 (k : Int), .int .u32 (a : Int), .int .u8 (K : Int), .int .i64 P, .int .u32 (R : Int), .int .u8 (B : Int), .int .i64 M, .int .i32 S, .int .i64 F, .int .i64 G, .int .u32 (s : Int), .int .i32 d, .int .u8 (ek : Int), .int .i64 m], .agg #[.int .u8 (k' : Int), .int .u32 (a' : Int), .int .u8 (K' : Int), .int .i64 P', .int .u32 (R' : Int), .int .u8 (B' : Int), .int .i64 M', .int .i32 S', .int .i64 F', .int .i64 G', .int .u32 (s' : Int), .int .i32 d', .int .u8 (ek' : Int), .int .i64 m']] w (Ret (.bool true) w) := by
  have hw0 := b_alloc w (.cells #[.int .u8 (k : Int), .int .u32 (a : Int), .int .u8 (K : Int), .int .i64 P, .int .u32 (R : Int), .int .u8 (B : Int), .int .i64 M, .int .i32 S, .int .i64 F, .int .i64 G, .int .u32 (s : Int), .int .i32 d, .int .u8 (ek : Int), .int .i64 m] 32)
  have hp0 := (Blk.new w 32 #[.int .u8 (k : Int), .int .u32 (a : Int), .int .u8 (K : Int), .int .i64 P, .int .u32 (R : Int), .int .u8 (B : Int), .int .i64 M, .int .i32 S, .int .i64 F, .int .i64 G, .int .u32 (s : Int), .int .i32 d, .int .u8 (ek : Int), .int .i64 m]).alloc (.cells #[.int .u8 (k' : Int), .int .u32 (a' : Int), .int .u8 (K' : Int), .int .i64 P', .int .u32 (R' : Int), .int .u8 (B' : Int), .int .i64 M', .int .i32 S', .int .i64 F', .int .i64 G', .int .u32 (s' : Int), .int .i32 d', .int .u8 (ek' : Int), .int .i64 m'] 32)
  have hq0 := Blk.new (w.alloc (.cells #[.int .u8 (k : Int), .int .u32 (a : Int), .int .u8 (K : Int), .int .i64 P, .int .u32 (R : Int), .int .u8 (B : Int), .int .i64 M, .int .i32 S, .int .i64 F, .int .i64 G, .int .u32 (s : Int), .int .i32 d, .int .u8 (ek : Int), .int .i64 m] 32)) 32 #[.int .u8 (k' : Int), .int .u32 (a' : Int), .int .u8 (K' : Int), .int .i64 P', .int .u32 (R' : Int), .int .u8 (B' : Int), .int .i64 M', .int .i32 S', .int .i64 F', .int .i64 G', .int .u32 (s' : Int), .int .i32 d', .int .u8 (ek' : Int), .int .i64 m']
  rw [World.size_alloc] at hq0
  have HP0 := Lib.hid hp0
  have HQ0 := Lib.hid hq0
  have HB0 := Lib.hid (hw0.alloc hw0.size (.cells #[.int .u8 (k' : Int), .int .u32 (a' : Int), .int .u8 (K' : Int), .int .i64 P', .int .u32 (R' : Int), .int .u8 (B' : Int), .int .i64 M', .int .i32 S', .int .i64 F', .int .i64 G', .int .u32 (s' : Int), .int .i32 d', .int .u8 (ek' : Int), .int .i64 m'] 32))
  have HL := Lib.hid hl
  clear hw0 hp0 hq0 hl
  go_enter Tryz.func5, Tryz.ntmps5
  go_wp2_with fail
  refine (awake20 _ (HL.out.below HB0.out)).mono ?_
  rintro e w1 ⟨rfl, hb⟩
  have HP1 := Lib.hid (HP0.out.below hb HP0.out.lt)
  have HQ1 := Lib.hid (HQ0.out.below hb HQ0.out.lt)
  have HB1 := Lib.hid (HB0.out.trans (hb.mono HB0.out.size))
  clear hb HP0 HQ0 HB0
  obtain ⟨z0, z1, z2, z3, z4, z5, z6, z7, z8, z9, z10, z11, z12, z13⟩ := blk14 HP1.out
  go_wp2_with fail
  refine (kS1 _).mono ?_
  rintro e w2 ⟨rfl, hb⟩
  have HP2 := Lib.hid (HP1.out.below hb HP1.out.lt)
  have HQ2 := Lib.hid (HQ1.out.below hb HQ1.out.lt)
  have HB2 := Lib.hid (HB1.out.trans (hb.mono HB1.out.size))
  clear hb HP1 HQ1 HB1 kS1 z0 z1 z2 z3 z4 z5 z6 z7 z8 z9 z10 z11 z12 z13
  obtain ⟨z0, z1, z2, z3, z4, z5, z6, z7, z8, z9, z10, z11, z12, z13⟩ := blk14 HQ2.out
  go_wp2_with fail
  refine (kS2 _).mono ?_
  rintro e w3 ⟨rfl, hb⟩
  have HP3 := Lib.hid (HP2.out.below hb HP2.out.lt)
  have HQ3 := Lib.hid (HQ2.out.below hb HQ2.out.lt)
  have HB3 := Lib.hid (HB2.out.trans (hb.mono HB2.out.size))
  clear hb HP2 HQ2 HB2 kS2 z0 z1 z2 z3 z4 z5 z6 z7 z8 z9 z10 z11 z12 z13
  obtain ⟨p, hpp⟩ : ∃ p, w.heap.size = p := ⟨_, rfl⟩
  obtain ⟨q, hqq⟩ : ∃ q, w.heap.size + 1 = q := ⟨_, rfl⟩
  rw [hqq] at HQ3
  rw [hpp] at HP3
  rw [hqq, hpp]
  clear hpp hqq
  have LP : ∀ W', Below w3.heap.size w3 W' → (Instr.loadAt 32 (.pointer (some ⟨p, 0, none⟩))).run Tryz.prog W' = .ok (.agg #[.int .u8 (k : Int), .int .u32 (a : Int), .int .u8 (K : Int), .int .i64 P, .int .u32 (R : Int), .int .u8 (B : Int), .int .i64 M, .int .i32 S, .int .i64 F, .int .i64 G, .int .u32 (s : Int), .int .i32 d, .int .u8 (ek : Int), .int .i64 m]) W' := fun W' hb => run_loadB (HP3.out.below hb HP3.out.lt) _ 0 #[.int .u8 (k : Int), .int .u32 (a : Int), .int .u8 (K : Int), .int .i64 P, .int .u32 (R : Int), .int .u8 (B : Int), .int .i64 M, .int .i32 S, .int .i64 F, .int .i64 G, .int .u32 (s : Int), .int .i32 d, .int .u8 (ek : Int), .int .i64 m] (part_of (by rfl)) rowOr
  have LQ : ∀ W', Below w3.heap.size w3 W' → (Instr.loadAt 32 (.pointer (some ⟨q, 0, none⟩))).run Tryz.prog W' = .ok (.agg #[.int .u8 (k' : Int), .int .u32 (a' : Int), .int .u8 (K' : Int), .int .i64 P', .int .u32 (R' : Int), .int .u8 (B' : Int), .int .i64 M', .int .i32 S', .int .i64 F', .int .i64 G', .int .u32 (s' : Int), .int .i32 d', .int .u8 (ek' : Int), .int .i64 m']) W' := fun W' hb => run_loadB (HQ3.out.below hb HQ3.out.lt) _ 0 #[.int .u8 (k' : Int), .int .u32 (a' : Int), .int .u8 (K' : Int), .int .i64 P', .int .u32 (R' : Int), .int .u8 (B' : Int), .int .i64 M', .int .i32 S', .int .i64 F', .int .i64 G', .int .u32 (s' : Int), .int .i32 d', .int .u8 (ek' : Int), .int .i64 m'] (part_of (by rfl)) rowOr
  have cT1 := fun W' (hb : Below w3.heap.size w3 W') => kT1 W' (HL.out.below (HB3.out.trans (hb.mono HB3.out.size)))
  have cT2 := fun W' (hb : Below w3.heap.size w3 W') => kT2 W' (HL.out.below (HB3.out.trans (hb.mono HB3.out.size)))
  clear kT1 kT2 HP3 HQ3
  go_upto_region 5 with (fail)
  refine wp_region_flow [some 29, some 30, some 31, some 32, some 33, some 34, some 35, some 36, some 37, some 38, some 39, some 40, some 41, some 42, some 43, some 44, some 45, some 46, some 47, some 48, some 4] (fun i => ([.is (.agg #[.int .u8 (k : Int), .int .u32 (a : Int), .int .u8 (K : Int), .int .i64 P, .int .u32 (R : Int), .int .u8 (B : Int), .int .i64 M, .int .i32 S, .int .i64 F, .int .i64 G, .int .u32 (s : Int), .int .i32 d, .int .u8 (ek : Int), .int .i64 m]), .is (.agg #[.int .u8 (k' : Int), .int .u32 (a' : Int), .int .u8 (K' : Int), .int .i64 P', .int .u32 (R' : Int), .int .u8 (B' : Int), .int .i64 M', .int .i32 S', .int .i64 F', .int .i64 G', .int .u32 (s' : Int), .int .i32 d', .int .u8 (ek' : Int), .int .i64 m']), .is (.bool D), .is (.agg #[.int .u8 (k : Int), .int .u32 (a : Int), .int .u8 (K : Int), .int .i64 P, .int .u32 (R : Int), .int .u8 (B : Int), .int .i64 M, .int .i32 S, .int .i64 F, .int .i64 G, .int .u32 (s : Int), .int .i32 d, .int .u8 (ek : Int), .int .i64 m]), (bySF L1), .is (.agg #[.int .u8 (k' : Int), .int .u32 (a' : Int), .int .u8 (K' : Int), .int .i64 P', .int .u32 (R' : Int), .int .u8 (B' : Int), .int .i64 M', .int .i32 S', .int .i64 F', .int .i64 G', .int .u32 (s' : Int), .int .i32 d', .int .u8 (ek' : Int), .int .i64 m']), (bySF L2), .is (.bool D), .is (.bool true), .is (.bool true), .is (.agg #[.int .u8 (k : Int), .int .u32 (a : Int), .int .u8 (K : Int), .int .i64 P, .int .u32 (R : Int), .int .u8 (B : Int), .int .i64 M, .int .i32 S, .int .i64 F, .int .i64 G, .int .u32 (s : Int), .int .i32 d, .int .u8 (ek : Int), .int .i64 m]), .is (.agg #[.int .u8 (k' : Int), .int .u32 (a' : Int), .int .u8 (K' : Int), .int .i64 P', .int .u32 (R' : Int), .int .u8 (B' : Int), .int .i64 M', .int .i32 S', .int .i64 F', .int .i64 G', .int .u32 (s' : Int), .int .i32 d', .int .u8 (ek' : Int), .int .i64 m']), .is (.bool D), .is (.agg #[.int .u8 (k : Int), .int .u32 (a : Int), .int .u8 (K : Int), .int .i64 P, .int .u32 (R : Int), .int .u8 (B : Int), .int .i64 M, .int .i32 S, .int .i64 F, .int .i64 G, .int .u32 (s : Int), .int .i32 d, .int .u8 (ek : Int), .int .i64 m]), .is (.string sx), .is (.agg #[.int .u8 (k' : Int), .int .u32 (a' : Int), .int .u8 (K' : Int), .int .i64 P', .int .u32 (R' : Int), .int .u8 (B' : Int), .int .i64 M', .int .i32 S', .int .i64 F', .int .i64 G', .int .u32 (s' : Int), .int .i32 d', .int .u8 (ek' : Int), .int .i64 m']), .is (.string sy), .is (.bool D), .is (.bool true), .is (.bool true), .is (.bool true)] : List Flw).getD i .any) (by kernel_rfl) (by kernel_rfl) rfl ?_ ?_
  · skip
    refine ⟨step_free rfl (fun aF wF hs hb => ?_), ?_⟩
    · obtain ⟨x0, -⟩ := hs
      have e0 : aF.eval (.tmp 2) = .pointer (some ⟨p, 0, none⟩) := x0
      exact opC_load e0 (LP wF hb) ⟨rfl, below_same wF⟩
    refine ⟨step_free rfl (fun aF wF hs hb => ?_), ?_⟩
    · obtain ⟨x0, -⟩ := hs
      have e0 : aF.eval (.tmp 3) = .pointer (some ⟨q, 0, none⟩) := x0
      exact opC_load e0 (LQ wF hb) ⟨rfl, below_same wF⟩
    refine ⟨step_free rfl (fun aF wF hs hb => ?_), ?_⟩
    · obtain ⟨x0, x1, -⟩ := hs
      have e0 : aF.eval (.tmp 29) = .agg #[.int .u8 (k : Int), .int .u32 (a : Int), .int .u8 (K : Int), .int .i64 P, .int .u32 (R : Int), .int .u8 (B : Int), .int .i64 M, .int .i32 S, .int .i64 F, .int .i64 G, .int .u32 (s : Int), .int .i32 d, .int .u8 (ek : Int), .int .i64 m] := x0
      have e1 : aF.eval (.tmp 30) = .agg #[.int .u8 (k' : Int), .int .u32 (a' : Int), .int .u8 (K' : Int), .int .i64 P', .int .u32 (R' : Int), .int .u8 (B' : Int), .int .i64 M', .int .i32 S', .int .i64 F', .int .i64 G', .int .u32 (s' : Int), .int .i32 d', .int .u8 (ek' : Int), .int .i64 m'] := x1
      refine opC_value (v := .bool D) ?_ ⟨rfl, below_same wF⟩
      simp [execOp, go_sem, ev_of e0, ev_of e1, cE]
    refine ⟨step_free rfl (fun aF wF hs hb => ?_), ?_⟩
    · obtain ⟨x0, -⟩ := hs
      have e0 : aF.eval (.tmp 2) = .pointer (some ⟨p, 0, none⟩) := x0
      exact opC_load e0 (LP wF hb) ⟨rfl, below_same wF⟩
    refine ⟨step_free rfl (fun aF wF hs hb => ?_), ?_⟩
    · obtain ⟨x0, -⟩ := hs
      have e0 : aF.eval (.tmp 32) = .agg #[.int .u8 (k : Int), .int .u32 (a : Int), .int .u8 (K : Int), .int .i64 P, .int .u32 (R : Int), .int .u8 (B : Int), .int .i64 M, .int .i32 S, .int .i64 F, .int .i64 G, .int .u32 (s : Int), .int .i32 d, .int .u8 (ek : Int), .int .i64 m] := x0
      exact opC_callF (args := #[.agg #[.int .u8 (k : Int), .int .u32 (a : Int), .int .u8 (K : Int), .int .i64 P, .int .u32 (R : Int), .int .u8 (B : Int), .int .i64 M, .int .i32 S, .int .i64 F, .int .i64 G, .int .u32 (s : Int), .int .i32 d, .int .u8 (ek : Int), .int .i64 m]]) (enters9 Tryz.func9 (by kernel_rfl) rfl) (by simp [e0]) (cB1 wF) (fun _ _ h1 h2 => ⟨h1, h2⟩)
    refine ⟨step_free rfl (fun aF wF hs hb => ?_), ?_⟩
    · obtain ⟨x0, -⟩ := hs
      have e0 : aF.eval (.tmp 3) = .pointer (some ⟨q, 0, none⟩) := x0
      exact opC_load e0 (LQ wF hb) ⟨rfl, below_same wF⟩
    refine ⟨step_free rfl (fun aF wF hs hb => ?_), ?_⟩
    · obtain ⟨x0, -⟩ := hs
      have e0 : aF.eval (.tmp 34) = .agg #[.int .u8 (k' : Int), .int .u32 (a' : Int), .int .u8 (K' : Int), .int .i64 P', .int .u32 (R' : Int), .int .u8 (B' : Int), .int .i64 M', .int .i32 S', .int .i64 F', .int .i64 G', .int .u32 (s' : Int), .int .i32 d', .int .u8 (ek' : Int), .int .i64 m'] := x0
      exact opC_callF (args := #[.agg #[.int .u8 (k' : Int), .int .u32 (a' : Int), .int .u8 (K' : Int), .int .i64 P', .int .u32 (R' : Int), .int .u8 (B' : Int), .int .i64 M', .int .i32 S', .int .i64 F', .int .i64 G', .int .u32 (s' : Int), .int .i32 d', .int .u8 (ek' : Int), .int .i64 m']]) (enters9 Tryz.func9 (by kernel_rfl) rfl) (by simp [e0]) (cB2 wF) (fun _ _ h1 h2 => ⟨h1, h2⟩)
    refine ⟨step_free rfl (fun aF wF hs hb => ?_), ?_⟩
    · obtain ⟨x0, y0, -⟩ := hs
      obtain ⟨A0, c0, e0, r0⟩ : (bySF L1).p (aF.eval (.tmp 33)) wF := x0
      obtain ⟨A1, c1, e1, r1⟩ : (bySF L2).p (aF.eval (.tmp 35)) wF := y0
      exact opC_call (args := #[.slice A0 L1.length c0, .slice A1 L2.length c1]) (enters9 Tryz.func14 (by kernel_rfl) rfl) (by simp [e0, e1]) (cS A0 A1 c0 c1 wF r0 r1) (fun _ h => ⟨rfl, h⟩)
    refine ⟨step_free rfl (fun aF wF hs hb => ?_), ?_⟩
    · obtain ⟨x0, x1, -⟩ := hs
      have e0 : aF.eval (.tmp 31) = .bool D := x0
      have e1 : aF.eval (.tmp 36) = .bool D := x1
      refine opC_value (v := .bool true) ?_ ⟨rfl, below_same wF⟩
      have t0 := ev_of e0
      have t1 := ev_of e1
      simp [execOp, go_sem, t0, t1]
    refine ⟨step_free rfl (fun aF wF hs hb => ?_), ?_⟩
    · obtain ⟨x0, -⟩ := hs
      have e0 : aF.eval (.tmp 37) = .bool true := x0
      exact opC_move e0 ⟨rfl, below_same wF⟩
    refine ⟨step_yes 9 38 rfl rfl (fun _ _ h => h) (fun aF wF hs hb => ?_), ?_⟩
    · obtain ⟨x0, -⟩ := hs
      have e0 : aF.eval (.tmp 2) = .pointer (some ⟨p, 0, none⟩) := x0
      exact opC_load e0 (LP wF hb) ⟨rfl, below_same wF⟩
    refine ⟨step_yes 9 38 rfl rfl (fun _ _ h => h) (fun aF wF hs hb => ?_), ?_⟩
    · obtain ⟨x0, -⟩ := hs
      have e0 : aF.eval (.tmp 3) = .pointer (some ⟨q, 0, none⟩) := x0
      exact opC_load e0 (LQ wF hb) ⟨rfl, below_same wF⟩
    refine ⟨step_yes 9 38 rfl rfl (fun _ _ h => h) (fun aF wF hs hb => ?_), ?_⟩
    · obtain ⟨x0, x1, -⟩ := hs
      have e0 : aF.eval (.tmp 39) = .agg #[.int .u8 (k : Int), .int .u32 (a : Int), .int .u8 (K : Int), .int .i64 P, .int .u32 (R : Int), .int .u8 (B : Int), .int .i64 M, .int .i32 S, .int .i64 F, .int .i64 G, .int .u32 (s : Int), .int .i32 d, .int .u8 (ek : Int), .int .i64 m] := x0
      have e1 : aF.eval (.tmp 40) = .agg #[.int .u8 (k' : Int), .int .u32 (a' : Int), .int .u8 (K' : Int), .int .i64 P', .int .u32 (R' : Int), .int .u8 (B' : Int), .int .i64 M', .int .i32 S', .int .i64 F', .int .i64 G', .int .u32 (s' : Int), .int .i32 d', .int .u8 (ek' : Int), .int .i64 m'] := x1
      refine opC_value (v := .bool D) ?_ ⟨rfl, below_same wF⟩
      simp [execOp, go_sem, ev_of e0, ev_of e1, cE]
    refine ⟨step_yes 9 38 rfl rfl (fun _ _ h => h) (fun aF wF hs hb => ?_), ?_⟩
    · obtain ⟨x0, -⟩ := hs
      have e0 : aF.eval (.tmp 2) = .pointer (some ⟨p, 0, none⟩) := x0
      exact opC_load e0 (LP wF hb) ⟨rfl, below_same wF⟩
    refine ⟨step_yes 9 38 rfl rfl (fun _ _ h => h) (fun aF wF hs hb => ?_), ?_⟩
    · obtain ⟨x0, -⟩ := hs
      have e0 : aF.eval (.tmp 42) = .agg #[.int .u8 (k : Int), .int .u32 (a : Int), .int .u8 (K : Int), .int .i64 P, .int .u32 (R : Int), .int .u8 (B : Int), .int .i64 M, .int .i32 S, .int .i64 F, .int .i64 G, .int .u32 (s : Int), .int .i32 d, .int .u8 (ek : Int), .int .i64 m] := x0
      exact opC_call (args := #[.agg #[.int .u8 (k : Int), .int .u32 (a : Int), .int .u8 (K : Int), .int .i64 P, .int .u32 (R : Int), .int .u8 (B : Int), .int .i64 M, .int .i32 S, .int .i64 F, .int .i64 G, .int .u32 (s : Int), .int .i32 d, .int .u8 (ek : Int), .int .i64 m]]) (enters9 Tryz.func20 (by kernel_rfl) rfl) (by simp [e0]) (cT1 wF hb) (fun _ h => ⟨rfl, h⟩)
    refine ⟨step_yes 9 38 rfl rfl (fun _ _ h => h) (fun aF wF hs hb => ?_), ?_⟩
    · obtain ⟨x0, -⟩ := hs
      have e0 : aF.eval (.tmp 3) = .pointer (some ⟨q, 0, none⟩) := x0
      exact opC_load e0 (LQ wF hb) ⟨rfl, below_same wF⟩
    refine ⟨step_yes 9 38 rfl rfl (fun _ _ h => h) (fun aF wF hs hb => ?_), ?_⟩
    · obtain ⟨x0, -⟩ := hs
      have e0 : aF.eval (.tmp 44) = .agg #[.int .u8 (k' : Int), .int .u32 (a' : Int), .int .u8 (K' : Int), .int .i64 P', .int .u32 (R' : Int), .int .u8 (B' : Int), .int .i64 M', .int .i32 S', .int .i64 F', .int .i64 G', .int .u32 (s' : Int), .int .i32 d', .int .u8 (ek' : Int), .int .i64 m'] := x0
      exact opC_call (args := #[.agg #[.int .u8 (k' : Int), .int .u32 (a' : Int), .int .u8 (K' : Int), .int .i64 P', .int .u32 (R' : Int), .int .u8 (B' : Int), .int .i64 M', .int .i32 S', .int .i64 F', .int .i64 G', .int .u32 (s' : Int), .int .i32 d', .int .u8 (ek' : Int), .int .i64 m']]) (enters9 Tryz.func20 (by kernel_rfl) rfl) (by simp [e0]) (cT2 wF hb) (fun _ h => ⟨rfl, h⟩)
    refine ⟨step_yes 9 38 rfl rfl (fun _ _ h => h) (fun aF wF hs hb => ?_), ?_⟩
    · obtain ⟨x0, x1, -⟩ := hs
      have e0 : aF.eval (.tmp 43) = .string sx := x0
      have e1 : aF.eval (.tmp 45) = .string sy := x1
      refine opC_value (v := .bool D) ?_ ⟨rfl, below_same wF⟩
      simp [execOp, go_sem, ev_of e0, ev_of e1, cX]
    refine ⟨step_yes 9 38 rfl rfl (fun _ _ h => h) (fun aF wF hs hb => ?_), ?_⟩
    · obtain ⟨x0, x1, -⟩ := hs
      have e0 : aF.eval (.tmp 41) = .bool D := x0
      have e1 : aF.eval (.tmp 46) = .bool D := x1
      refine opC_value (v := .bool true) ?_ ⟨rfl, below_same wF⟩
      have t0 := ev_of e0
      have t1 := ev_of e1
      simp [execOp, go_sem, t0, t1]
    refine ⟨step_free rfl (fun aF wF hs hb => ?_), ?_⟩
    · obtain ⟨x0, x1, -⟩ := hs
      have e0 : aF.eval (.tmp 38) = .bool true := x0
      have e1 : aF.eval (.tmp 47) = .bool true := x1
      refine opC_value (v := .bool true) ?_ ⟨rfl, below_same wF⟩
      have t0 := ev_of e0
      have t1 := ev_of e1
      simp [execOp, go_sem, t0, t1]
    refine ⟨step_free rfl (fun aF wF hs hb => ?_), ?_⟩
    · obtain ⟨x0, -⟩ := hs
      have e0 : aF.eval (.tmp 48) = .bool true := x0
      exact opC_assign e0 ⟨rfl, below_same wF⟩
    exact trivial
  · intro f w6 hf hb6
    have h9 : f 20 = .bool true := hf 20 4 rfl
    have HB6 := Lib.hid (HB3.out.trans (hb6.mono HB3.out.size))
    simp only [putF, Act.put, List.setIfInBounds_toArray, List.set_cons_zero, List.set_cons_succ]
    rw [h9]
    clear hf h9 hb6 LP LQ cT1 cT2 cB1 cB2 cS cE cX
    go_wp2_with fail
    go_ret
    exact ⟨rfl, HB6.out⟩
theorem OApart_any (o p : Ord) (hi : o.In) (hj : p.In) (w : World) (hl : TLd w) : Calls Tryz.prog 5 #[o.v, p.v] w (Ret (.bool true) w) := by
  have kO1 := fun W => own20 o hi W
  have kO2 := fun W => own20 p hj W
  by_cases ho : o.Right
  · by_cases hp : p.Right
    · have kS1 := fun W => ORight_true ho W
      have kS2 := fun W => ORight_true hp W
      have cB1 := fun W => oBytesF hi ho W
      have cB2 := fun W => oBytesF hj hp W
      have kT1 := fun W h => OText_yes hi ho W h
      have kT2 := fun W h => OText_yes hj hp W h
      haveI := Classical.propDecidable (o = p)
      have cE := fun W => eqO o p W
      have hE : decide (layO o = layO p) = decide (o = p) := by
        rw [decide_eq_decide]
        exact ⟨fun h => layO_inj hi hj ho hp h, fun h => by rw [h]⟩
      have hl1 := layO_len hi ho
      have hl2 := layO_len hj hp
      have cX : (o.text.toList == p.text.toList) = decide (o = p) := by
        by_cases h : o = p
        · have h9 : o.text = p.text := congrArg Ord.text h
          rw [decide_eq_true h, h9, beq_self_eq_true]
        · rw [decide_eq_false h, beq_eq_false_iff_ne]
          intro e
          rw [Go.Lib.toList_data, Go.Lib.toList_data] at e
          exact h (otext_inj ho hp (ByteArray.ext (Array.toList_inj.1 e)))
      have cS : ∀ (A0 A1 : Option Addr) (c0 c1 : Nat) (W : World) (_ : Rd W W.heap.size A0 (layO o)) (_ : Rd W W.heap.size A1 (layO p)), Calls Tryz.prog 14 #[.slice A0 (layO o).length c0, .slice A1 (layO p).length c1] W fun e w' => e = .returned (.bool (decide (o = p))) ∧ Below W.heap.size W w' := fun A0 A1 c0 c1 W r0 r1 => (Same_any A0 A1 (layO o).length c0 W.heap.size (layO p).length c1 W.heap.size (layO o) (layO p) W r0 rfl (by unfold maxLen; omega) r1 rfl (by unfold maxLen; omega)).mono fun e w' hh => by rw [← hE]; exact below_all hh
      generalize decide (o = p) = D at *
      generalize layO o = L1 at *
      generalize layO p = L2 at *
      generalize o.text = sx at *
      generalize p.text = sy at *
      obtain ⟨k, a, ⟨K, P, R, B, M, S, F, G⟩, s, d, ek, m⟩ := o
      obtain ⟨k', a', ⟨K', P', R', B', M', S', F', G'⟩, s', d', ek', m'⟩ := p
      exact OApart_3 kS1 kS2 cB1 cB2 kT1 kT2 cS cE cX w hl
    · have kS1 := fun W => ORight_true ho W
      have kS2 := fun W => ORight_false hp W
      have kQ1 := fun W => RR_any o hi true (by simp [ho]) W
      have kQ2 := fun W => RR_any p hj false (by simp [hp]) W
      obtain ⟨k, a, ⟨K, P, R, B, M, S, F, G⟩, s, d, ek, m⟩ := o
      obtain ⟨k', a', ⟨K', P', R', B', M', S', F', G'⟩, s', d', ek', m'⟩ := p
      exact OApart_2 kS1 kS2 kO1 kO2 kQ1 kQ2 kS1 kS2 w hl
  · have kS1 := fun W => ORight_false ho W
    have kQ1 := fun W => RR_any o hi false (by simp [ho]) W
    by_cases hp : p.Right
    · have kS2 := fun W => ORight_true hp W
      have kQ2 := fun W => RR_any p hj true (by simp [hp]) W
      obtain ⟨k, a, ⟨K, P, R, B, M, S, F, G⟩, s, d, ek, m⟩ := o
      obtain ⟨k', a', ⟨K', P', R', B', M', S', F', G'⟩, s', d', ek', m'⟩ := p
      exact OApart_1 kS1 kO1 kO2 kQ1 kQ2 kS1 kS2 w hl
    · have kS2 := fun W => ORight_false hp W
      have kQ2 := fun W => RR_any p hj false (by simp [hp]) W
      obtain ⟨k, a, ⟨K, P, R, B, M, S, F, G⟩, s, d, ek, m⟩ := o
      obtain ⟨k', a', ⟨K', P', R', B', M', S', F', G'⟩, s', d', ek', m'⟩ := p
      exact OApart_1 kS1 kO1 kO2 kQ1 kQ2 kS1 kS2 w hl
end Go.Proofs.YtjlajnackecfgaaGreatDoor
