/-
Orders' bytes and words tell the order: the plain mathematics. Condition: the orders may be.
What the listed variable strconv.ErrRange gives a walk. No condition.
OrderApart: the law's walk. Conditions: the numbers' kinds, what is laid.
-/
import Derived.Test.YtjlajnackecfgaaGreatDoorOdKW9
import Derived.Test.YtjlajnackecfgaaGreatDoorOpOW9
import Derived.Stop.LaidErr
import Derived.Test.YtjlajnackecfgaaGreatDoorOdMW9
import Derived.Test.YtjlajnackecfgaaGreatDoorOdRW9
import Derived.Test.YtjlajnackecfgaaGreatDoorOdTW9
import Derived.Test.YtjlajnackecfgaaGreatDoorByFW9
import Derived.Test.YtjlajnackecfgaaGreatDoorSameW9
namespace Go.Proofs.YtjlajnackecfgaaGreatDoor
open Go.ChangeShapes Go.WideShapes Go.ChangeAt Go.RowKit
theorem kindS_inj {a b : Nat} (ha : 4 ≤ a ∧ a ≤ 7) (hb : 4 ≤ b ∧ b ≤ 7) (h : kindS a = kindS b) : a = b := by
  have h1 := ek_kind (k := a) (by omega)
  have h2 := ek_kind (k := b) (by omega)
  rw [h, h2] at h1
  exact h1.symm
/-- The first word of an order's text. -/
def Ord.w1 (o : Ord) : ByteArray := if o.k = 1 then boardS else if o.k = 3 then revS else if o.k = 4 then stepS else kindS o.e.k
/-- What stands behind the loan. -/
def Ord.w3 (o : Ord) : ByteArray := if o.k = 1 then o.t.text else if o.k = 3 then dec o.e.s else if o.k = 4 then ⟨#[]⟩ else if o.e.k = 7 then sps [dec o.e.s, dayText o.e.d] else sps [dec o.e.s, dayText o.e.d, textC o.e.m]
theorem text_c (o : Ord) : c1 o.text = o.w1 ∧ (o.k ≠ 4 → c1 (c2 o.text) = dec o.a) ∧ c2 (c2 o.text) = o.w3 := by
  have ha := dec_ok o.a
  unfold Ord.text Ord.w1 Ord.w3
  by_cases k1 : o.k = 1
  · rw [if_pos k1, if_pos k1, if_pos k1]
    obtain ⟨q1, q2⟩ := c_sps boardS (dec o.a) [o.t.text] (by decide)
    obtain ⟨q3, q4⟩ := c_sps (dec o.a) o.t.text [] ha
    rw [q1, q2, q3, q4, sps_one]
    exact ⟨rfl, fun _ => rfl, rfl⟩
  rw [if_neg k1, if_neg k1, if_neg k1]
  by_cases k3 : o.k = 3
  · rw [if_pos k3, if_pos k3, if_pos k3]
    obtain ⟨q1, q2⟩ := c_sps revS (dec o.a) [dec o.e.s] (by decide)
    obtain ⟨q3, q4⟩ := c_sps (dec o.a) (dec o.e.s) [] ha
    rw [q1, q2, q3, q4, sps_one]
    exact ⟨rfl, fun _ => rfl, rfl⟩
  rw [if_neg k3, if_neg k3, if_neg k3]
  by_cases k4 : o.k = 4
  · rw [if_pos k4, if_pos k4, if_pos k4]
    obtain ⟨q1, q2⟩ := c_one stepS (by decide)
    rw [q1, q2, c_empty.2]
    exact ⟨rfl, fun h => absurd k4 h, rfl⟩
  rw [if_neg k4, if_neg k4, if_neg k4]
  by_cases k7 : o.e.k = 7
  · rw [if_pos k7, if_pos k7]
    obtain ⟨q1, q2⟩ := c_sps (kindS o.e.k) (dec o.a) [dec o.e.s, dayText o.e.d] (kindS_ok _)
    obtain ⟨q3, q4⟩ := c_sps (dec o.a) (dec o.e.s) [dayText o.e.d] ha
    rw [q1, q2, q3, q4]
    exact ⟨rfl, fun _ => rfl, rfl⟩
  · rw [if_neg k7, if_neg k7]
    obtain ⟨q1, q2⟩ := c_sps (kindS o.e.k) (dec o.a) [dec o.e.s, dayText o.e.d, textC o.e.m] (kindS_ok _)
    obtain ⟨q3, q4⟩ := c_sps (dec o.a) (dec o.e.s) [dayText o.e.d, textC o.e.m] ha
    rw [q1, q2, q3, q4]
    exact ⟨rfl, fun _ => rfl, rfl⟩
theorem w1_k {o p : Ord} (ho : o.Right) (hp : p.Right) (h : o.w1 = p.w1) : o.k = p.k := by
  obtain ⟨-, -, h2, h3, h4⟩ := ho
  obtain ⟨-, -, g2, g3, g4⟩ := hp
  have key : ∀ q : Ord, (q.k = 2 → q.e.Right) → 1 ≤ q.k → q.k ≤ 4 → (q.k = 1 ∧ q.w1.data.toList = [98, 111, 97, 114, 100]) ∨ (q.k = 3 ∧ q.w1.data.toList = [114, 101, 118, 101, 114, 115, 101]) ∨ (q.k = 4 ∧ q.w1.data.toList = [115, 116, 101, 112]) ∨ (q.k = 2 ∧ q.w1.data.toList ≠ [98, 111, 97, 114, 100] ∧ q.w1.data.toList ≠ [114, 101, 118, 101, 114, 115, 101] ∧ q.w1.data.toList ≠ [115, 116, 101, 112]) := fun q hq2 hq3 hq4 => by
    unfold Ord.w1
    by_cases k1 : q.k = 1
    · rw [if_pos k1]; exact .inl ⟨k1, rfl⟩
    by_cases k3 : q.k = 3
    · rw [if_neg k1, if_pos k3]; exact .inr (.inl ⟨k3, rfl⟩)
    by_cases k4 : q.k = 4
    · rw [if_neg k1, if_neg k3, if_pos k4]; exact .inr (.inr (.inl ⟨k4, rfl⟩))
    have k2 : q.k = 2 := by omega
    have hk := (hq2 k2).k
    rw [if_neg k1, if_neg k3, if_neg k4]
    exact .inr (.inr (.inr ⟨k2, kind_words (by omega)⟩))
  have a := key o h2 h3 h4
  have b := key p g2 g3 g4
  rw [h] at a
  rcases a with ⟨a, b1⟩ | ⟨a, b1⟩ | ⟨a, b1⟩ | ⟨a, b1, b2, b3⟩ <;> rcases b with ⟨b, d1⟩ | ⟨b, d1⟩ | ⟨b, d1⟩ | ⟨b, d1, d2, d3⟩ <;> first | omega | (exfalso; simp_all)
theorem otext_inj {o p : Ord} (ho : o.Right) (hp : p.Right) (h : o.text = p.text) : o = p := by
  obtain ⟨a1, a2, a3⟩ := text_c o
  obtain ⟨b1, b2, b3⟩ := text_c p
  rw [h] at a1 a2 a3
  have hk := w1_k ho hp (a1.symm.trans b1)
  have hw : o.w3 = p.w3 := a3.symm.trans b3
  have hw1 : o.w1 = p.w1 := a1.symm.trans b1
  have ha : o.k ≠ 4 → o.a = p.a := fun h4 => dec_inj ((a2 h4).symm.trans (b2 (by omega)))
  obtain ⟨h0, h1, h2, h3, h4⟩ := ho
  obtain ⟨g0, g1, g2, g3, g4⟩ := hp
  clear a1 a2 a3 b1 b2 b3 h
  unfold Ord.w3 at hw
  rw [h0, g0]
  unfold Ord.named
  rw [← hk] at hw g1 g2 ⊢
  by_cases k1 : o.k = 1
  · rw [if_pos k1, if_pos k1] at hw
    rw [if_pos k1, if_pos k1, ha (by omega), text_inj (h1 k1) (g1 k1) hw]
  rw [if_neg k1, if_neg k1] at hw
  rw [if_neg k1, if_neg k1]
  by_cases k3 : o.k = 3
  · rw [if_pos k3, if_pos k3] at hw
    rw [if_neg (by omega), if_pos k3, if_neg (by omega), if_pos k3, ha (by omega), dec_inj hw]
  rw [if_neg k3, if_neg k3] at hw
  by_cases k4 : o.k = 4
  · rw [if_neg (by omega), if_neg k3, if_neg (by omega), if_neg k3]
  rw [if_neg k4, if_neg k4] at hw
  have k2 : o.k = 2 := by omega
  rw [if_pos k2, if_pos k2, ha k4]
  have hoe := h2 k2
  have hpe := g2 k2
  obtain ⟨hd, hek⟩ := hoe
  obtain ⟨gd, gek⟩ := hpe
  have hkk : o.e.k = p.e.k := by
    unfold Ord.w1 at hw1
    rw [← hk, if_neg k1, if_neg k3, if_neg k4, if_neg k1, if_neg k3, if_neg k4] at hw1
    exact kindS_inj (by omega) (by omega) hw1
  have fin : o.e = p.e → (⟨2, p.a, Trm.zero, o.e⟩ : Ord) = ⟨2, p.a, Trm.zero, p.e⟩ := fun h => by rw [h]
  apply fin
  rw [evt_ext]
  have hso := dec_ok o.e.s
  have hsp := dec_ok p.e.s
  by_cases k7 : o.e.k = 7
  · rw [if_pos k7, if_pos (by omega)] at hw
    obtain ⟨q1, q2⟩ := c_sps (dec o.e.s) (dayText o.e.d) [] hso
    obtain ⟨r1, r2⟩ := c_sps (dec p.e.s) (dayText p.e.d) [] hsp
    rw [sps_one] at q2 r2
    rw [hw] at q1 q2
    have e1 := dec_inj (q1.symm.trans r1)
    have e2 := day_inj hd gd (q2.symm.trans r2)
    omega
  · rw [if_neg k7, if_neg (by omega)] at hw
    obtain ⟨q1, q2⟩ := c_sps (dec o.e.s) (dayText o.e.d) [textC o.e.m] hso
    obtain ⟨r1, r2⟩ := c_sps (dec p.e.s) (dayText p.e.d) [textC p.e.m] hsp
    rw [hw] at q1 q2
    have e1 := dec_inj (q1.symm.trans r1)
    have e2 := q2.symm.trans r2
    obtain ⟨q3, q4⟩ := c_sps (dayText o.e.d) (textC o.e.m) [] (day_ok _)
    obtain ⟨r3, r4⟩ := c_sps (dayText p.e.d) (textC p.e.m) [] (day_ok _)
    rw [sps_one] at q4 r4
    rw [e2] at q3 q4
    have e3 := day_inj hd gd (q3.symm.trans r3)
    have e4 := textC_inj (q4.symm.trans r4)
    omega
end Go.Proofs.YtjlajnackecfgaaGreatDoor
namespace Go.Proofs.YtjlajnackecfgaaGreatDoor
open Go.ChangeShapes Go.WideShapes Go.ChangeAt Go.RowKit

theorem str_row : ∀ u, Tryz.prog.typeName? 3 u = some "*errors.errorString" → u = 217 := by
  have e : ("*errors.errorString" : String) = "*" ++ "errors.errorString" := by decide +kernel
  rw [e]
  exact typeName_ptr_named (by kernel_rfl) (by kernel_rfl) (by decide +kernel)
theorem sentinel_mem {W : World} {text : List UInt8} {f : Field} {n : String} {g : Nat} (hg : Tryz.prog.globalNamed n = some g) (ht : (Tryz.prog.globals[g]?).map (·.type) = some 47)
    (he : Tryz.prog.underlying 219 = some (.struct #[f])) (hft : f.type = 9) (hfo : f.offset = 0) :
    ∀ {L : List (String × DataW Unit)}, laidMet Tryz.prog L W → (n, (.iface "*errors.errorString" (.ptr (.agg [.lit (.string text)])) : DataW Unit)) ∈ L → ∃ a : Addr, W.var? Tryz.prog n = some #[.iface 217 (.pointer (some a))]
  | [], _, hm => by cases hm
  | x :: r, h, hm => by
    rcases List.mem_cons.1 hm with e | hm
    · subst e
      obtain ⟨a, s, hv, _⟩ := laid_sentinel h hg ht Tryz.underlying47 str_row Tryz.underlying217 he hft hfo Tryz.underlying9 (by kernel_rfl) (by kernel_rfl)
      exact ⟨a, hv⟩
    · exact sentinel_mem hg ht he hft hfo h.tail hm
theorem errR_str {L : List (String × DataW Unit)} {W : World} (h : laidMetH Tryz.prog L W) (hm : ("strconv.ErrRange", Rows.laid_strconv_ErrRange) ∈ L.filter fun x => x.2.handleName?.isNone) :
    ∃ a : Addr, W.cell? ⟨1, 0, none⟩ = some (.iface 217 (.pointer (some a))) := by
  obtain ⟨a, hv⟩ := sentinel_mem errR_named errR_typed Tryz.underlying219 rfl rfl (plain_laid h) hm
  exact ⟨a, by rw [World.var?_cell errR_named hv 0]; rfl⟩
end Go.Proofs.YtjlajnackecfgaaGreatDoor
namespace Go.Proofs.YtjlajnackecfgaaGreatDoor
open Go.ChangeShapes Go.WideShapes Go.ChangeAt Go.RowKit Go.Shelf
theorem layO_len {o : Ord} (hi : o.In) (h : o.Right) : (layO o).length ≤ 200 := by
  have i1 := hi.k
  have i2 := hi.a
  have i3 := hi.e.s
  have i4 := hi.e.k
  have i5 := hi.e.m
  have i6 := hi.e.d
  have n1 := layN_le 0 o.k (by omega)
  have n2 := layN_le 0 o.a (by omega)
  have n3 := layN_le 0 o.e.s (by omega)
  have n4 := layN_le 0 o.e.d.toNat (by omega)
  have n5 := layN_le 0 o.e.k (by omega)
  have n6 := layN_le 0 o.e.m.toNat (by omega)
  unfold layO
  by_cases k1 : o.k = 1
  · have l1 := layTm_len (h.2.1 k1)
    have n7 := layN_le 0 (layTm o.t).length (by omega)
    rw [if_pos k1]
    unfold layT
    simp only [List.length_append, List.length_nil]
    omega
  rw [if_neg k1]
  split
  · simp only [List.length_append, List.length_nil]
    omega
  · split
    · simp only [List.length_append, List.length_nil]
      omega
    · simp only [List.length_append, List.length_nil]
      omega
theorem oBytesF {o : Ord} (hi : o.In) (h : o.Right) (w : World) : Calls Tryz.prog 9 #[o.v] w (ToF (bySF (layO o)) w) := by
  refine (OBytes_yes hi h w).mono ?_
  rintro e w' ⟨⟨A, g, rfl, h1, h2, h3⟩, hb⟩
  exact ⟨_, rfl, ⟨A, _, rfl, h3.rd⟩, hb⟩
set_option maxRecDepth 100000 in
set_option maxHeartbeats 4000000 in
theorem OApart_1 {k a K R B s ek k' a' K' R' B' s' ek' : Nat} {P M S F G d m P' M' S' F' G' d' m' : Int} {ra rb : Bool} (kS1 : ∀ W, Calls Tryz.prog 12 #[.agg #[.int .u8 (k : Int), .int .u32 (a : Int), .int .u8 (K : Int), .int .i64 P, .int .u32 (R : Int), .int .u8 (B : Int), .int .i64 M, .int .i32 S, .int .i64 F, .int .i64 G, .int .u32 (s : Int), .int .i32 d, .int .u8 (ek : Int), .int .i64 m]] W (Ret (.bool false) W))
    (kO1 : ∀ W, Calls Tryz.prog 11 #[.agg #[.int .u8 (k : Int), .int .u32 (a : Int), .int .u8 (K : Int), .int .i64 P, .int .u32 (R : Int), .int .u8 (B : Int), .int .i64 M, .int .i32 S, .int .i64 F, .int .i64 G, .int .u32 (s : Int), .int .i32 d, .int .u8 (ek : Int), .int .i64 m]] W (Ret (.agg #[.int .u8 (k : Int), .int .u32 (a : Int), .int .u8 (K : Int), .int .i64 P, .int .u32 (R : Int), .int .u8 (B : Int), .int .i64 M, .int .i64 S, .int .i64 F, .int .i64 G, .int .u32 (s : Int), .int .i64 d, .int .u8 (ek : Int), .int .i64 m]) W)) (kO2 : ∀ W, Calls Tryz.prog 11 #[.agg #[.int .u8 (k' : Int), .int .u32 (a' : Int), .int .u8 (K' : Int), .int .i64 P', .int .u32 (R' : Int), .int .u8 (B' : Int), .int .i64 M', .int .i32 S', .int .i64 F', .int .i64 G', .int .u32 (s' : Int), .int .i32 d', .int .u8 (ek' : Int), .int .i64 m']] W (Ret (.agg #[.int .u8 (k' : Int), .int .u32 (a' : Int), .int .u8 (K' : Int), .int .i64 P', .int .u32 (R' : Int), .int .u8 (B' : Int), .int .i64 M', .int .i64 S', .int .i64 F', .int .i64 G', .int .u32 (s' : Int), .int .i64 d', .int .u8 (ek' : Int), .int .i64 m']) W))
    (kQ1 : ∀ W, Calls Tryz.prog 10 #[.agg #[.int .u8 (k : Int), .int .u32 (a : Int), .int .u8 (K : Int), .int .i64 P, .int .u32 (R : Int), .int .u8 (B : Int), .int .i64 M, .int .i64 S, .int .i64 F, .int .i64 G, .int .u32 (s : Int), .int .i64 d, .int .u8 (ek : Int), .int .i64 m]] W (Ret (.bool ra) W)) (kQ2 : ∀ W, Calls Tryz.prog 10 #[.agg #[.int .u8 (k' : Int), .int .u32 (a' : Int), .int .u8 (K' : Int), .int .i64 P', .int .u32 (R' : Int), .int .u8 (B' : Int), .int .i64 M', .int .i64 S', .int .i64 F', .int .i64 G', .int .u32 (s' : Int), .int .i64 d', .int .u8 (ek' : Int), .int .i64 m']] W (Ret (.bool rb) W))
    (kR1 : ∀ W, Calls Tryz.prog 12 #[.agg #[.int .u8 (k : Int), .int .u32 (a : Int), .int .u8 (K : Int), .int .i64 P, .int .u32 (R : Int), .int .u8 (B : Int), .int .i64 M, .int .i32 S, .int .i64 F, .int .i64 G, .int .u32 (s : Int), .int .i32 d, .int .u8 (ek : Int), .int .i64 m]] W (Ret (.bool ra) W)) (kR2 : ∀ W, Calls Tryz.prog 12 #[.agg #[.int .u8 (k' : Int), .int .u32 (a' : Int), .int .u8 (K' : Int), .int .i64 P', .int .u32 (R' : Int), .int .u8 (B' : Int), .int .i64 M', .int .i32 S', .int .i64 F', .int .i64 G', .int .u32 (s' : Int), .int .i32 d', .int .u8 (ek' : Int), .int .i64 m']] W (Ret (.bool rb) W))
    (w : World) (hl : TLd w) : Calls Tryz.prog 5 #[.agg #[.int .u8 (k : Int), .int .u32 (a : Int), .int .u8 (K : Int), .int .i64 P, .int .u32 (R : Int), .int .u8 (B : Int), .int .i64 M, .int .i32 S, .int .i64 F, .int .i64 G, .int .u32 (s : Int), .int .i32 d, .int .u8 (ek : Int), .int .i64 m], .agg #[.int .u8 (k' : Int), .int .u32 (a' : Int), .int .u8 (K' : Int), .int .i64 P', .int .u32 (R' : Int), .int .u8 (B' : Int), .int .i64 M', .int .i32 S', .int .i64 F', .int .i64 G', .int .u32 (s' : Int), .int .i32 d', .int .u8 (ek' : Int), .int .i64 m']] w (Ret (.bool true) w) := by
  have hw0 := b_alloc w (.cells #[.int .u8 (k : Int), .int .u32 (a : Int), .int .u8 (K : Int), .int .i64 P, .int .u32 (R : Int), .int .u8 (B : Int), .int .i64 M, .int .i32 S, .int .i64 F, .int .i64 G, .int .u32 (s : Int), .int .i32 d, .int .u8 (ek : Int), .int .i64 m] 32)
  have hp0 := (Blk.new w 32 #[.int .u8 (k : Int), .int .u32 (a : Int), .int .u8 (K : Int), .int .i64 P, .int .u32 (R : Int), .int .u8 (B : Int), .int .i64 M, .int .i32 S, .int .i64 F, .int .i64 G, .int .u32 (s : Int), .int .i32 d, .int .u8 (ek : Int), .int .i64 m]).alloc (.cells #[.int .u8 (k' : Int), .int .u32 (a' : Int), .int .u8 (K' : Int), .int .i64 P', .int .u32 (R' : Int), .int .u8 (B' : Int), .int .i64 M', .int .i32 S', .int .i64 F', .int .i64 G', .int .u32 (s' : Int), .int .i32 d', .int .u8 (ek' : Int), .int .i64 m'] 32)
  have hq0 := Blk.new (w.alloc (.cells #[.int .u8 (k : Int), .int .u32 (a : Int), .int .u8 (K : Int), .int .i64 P, .int .u32 (R : Int), .int .u8 (B : Int), .int .i64 M, .int .i32 S, .int .i64 F, .int .i64 G, .int .u32 (s : Int), .int .i32 d, .int .u8 (ek : Int), .int .i64 m] 32)) 32 #[.int .u8 (k' : Int), .int .u32 (a' : Int), .int .u8 (K' : Int), .int .i64 P', .int .u32 (R' : Int), .int .u8 (B' : Int), .int .i64 M', .int .i32 S', .int .i64 F', .int .i64 G', .int .u32 (s' : Int), .int .i32 d', .int .u8 (ek' : Int), .int .i64 m']
  rw [World.size_alloc] at hq0
  have HP0 := Lib.hid hp0
  have HQ0 := Lib.hid hq0
  have HB0 := Lib.hid (hw0.alloc hw0.size (.cells #[.int .u8 (k' : Int), .int .u32 (a' : Int), .int .u8 (K' : Int), .int .i64 P', .int .u32 (R' : Int), .int .u8 (B' : Int), .int .i64 M', .int .i32 S', .int .i64 F', .int .i64 G', .int .u32 (s' : Int), .int .i32 d', .int .u8 (ek' : Int), .int .i64 m'] 32))
  have HL := Lib.hid hl
  clear hw0 hp0 hq0 hl
  go_enter Tryz.func5, Tryz.ntmps5
  go_wp2_with fail
  refine (awake20 _ (HL.out.below HB0.out)).mono ?_
  rintro e w1 ⟨rfl, hb⟩
  have HP1 := Lib.hid (HP0.out.below hb HP0.out.lt)
  have HQ1 := Lib.hid (HQ0.out.below hb HQ0.out.lt)
  have HB1 := Lib.hid (HB0.out.trans (hb.mono HB0.out.size))
  clear hb HP0 HQ0 HB0
  obtain ⟨z0, z1, z2, z3, z4, z5, z6, z7, z8, z9, z10, z11, z12, z13⟩ := blk14 HP1.out
  go_wp2_with fail
  refine (kS1 _).mono ?_
  rintro e w2 ⟨rfl, hb⟩
  have HP2 := Lib.hid (HP1.out.below hb HP1.out.lt)
  have HQ2 := Lib.hid (HQ1.out.below hb HQ1.out.lt)
  have HB2 := Lib.hid (HB1.out.trans (hb.mono HB1.out.size))
  clear hb HP1 HQ1 HB1 kS1 z0 z1 z2 z3 z4 z5 z6 z7 z8 z9 z10 z11 z12 z13
  obtain ⟨p, hpp⟩ : ∃ p, w.heap.size = p := ⟨_, rfl⟩
  obtain ⟨q, hqq⟩ : ∃ q, w.heap.size + 1 = q := ⟨_, rfl⟩
  rw [hqq] at HQ2
  rw [hpp] at HP2
  rw [hqq, hpp]
  clear hpp hqq
  have LP : ∀ W', Below w2.heap.size w2 W' → (Instr.loadAt 32 (.pointer (some ⟨p, 0, none⟩))).run Tryz.prog W' = .ok (.agg #[.int .u8 (k : Int), .int .u32 (a : Int), .int .u8 (K : Int), .int .i64 P, .int .u32 (R : Int), .int .u8 (B : Int), .int .i64 M, .int .i32 S, .int .i64 F, .int .i64 G, .int .u32 (s : Int), .int .i32 d, .int .u8 (ek : Int), .int .i64 m]) W' := fun W' hb => run_loadB (HP2.out.below hb HP2.out.lt) _ 0 #[.int .u8 (k : Int), .int .u32 (a : Int), .int .u8 (K : Int), .int .i64 P, .int .u32 (R : Int), .int .u8 (B : Int), .int .i64 M, .int .i32 S, .int .i64 F, .int .i64 G, .int .u32 (s : Int), .int .i32 d, .int .u8 (ek : Int), .int .i64 m] (part_of (by rfl)) rowOr
  have LQ : ∀ W', Below w2.heap.size w2 W' → (Instr.loadAt 32 (.pointer (some ⟨q, 0, none⟩))).run Tryz.prog W' = .ok (.agg #[.int .u8 (k' : Int), .int .u32 (a' : Int), .int .u8 (K' : Int), .int .i64 P', .int .u32 (R' : Int), .int .u8 (B' : Int), .int .i64 M', .int .i32 S', .int .i64 F', .int .i64 G', .int .u32 (s' : Int), .int .i32 d', .int .u8 (ek' : Int), .int .i64 m']) W' := fun W' hb => run_loadB (HQ2.out.below hb HQ2.out.lt) _ 0 #[.int .u8 (k' : Int), .int .u32 (a' : Int), .int .u8 (K' : Int), .int .i64 P', .int .u32 (R' : Int), .int .u8 (B' : Int), .int .i64 M', .int .i32 S', .int .i64 F', .int .i64 G', .int .u32 (s' : Int), .int .i32 d', .int .u8 (ek' : Int), .int .i64 m'] (part_of (by rfl)) rowOr
  clear HP2 HQ2
  go_upto_region 4 with (fail)
  refine wp_region_flow [some 15, some 16, some 17, some 18, some 19, some 20, some 21, some 22, some 23, some 24, some 25, some 26, some 27, some 28, some 4] (fun i => ([.is (.agg #[.int .u8 (k : Int), .int .u32 (a : Int), .int .u8 (K : Int), .int .i64 P, .int .u32 (R : Int), .int .u8 (B : Int), .int .i64 M, .int .i32 S, .int .i64 F, .int .i64 G, .int .u32 (s : Int), .int .i32 d, .int .u8 (ek : Int), .int .i64 m]), .is (.agg #[.int .u8 (k : Int), .int .u32 (a : Int), .int .u8 (K : Int), .int .i64 P, .int .u32 (R : Int), .int .u8 (B : Int), .int .i64 M, .int .i64 S, .int .i64 F, .int .i64 G, .int .u32 (s : Int), .int .i64 d, .int .u8 (ek : Int), .int .i64 m]), .is (.bool ra), .is (.agg #[.int .u8 (k : Int), .int .u32 (a : Int), .int .u8 (K : Int), .int .i64 P, .int .u32 (R : Int), .int .u8 (B : Int), .int .i64 M, .int .i32 S, .int .i64 F, .int .i64 G, .int .u32 (s : Int), .int .i32 d, .int .u8 (ek : Int), .int .i64 m]), .is (.bool ra), .is (.bool true), .is (.bool true), .is (.agg #[.int .u8 (k' : Int), .int .u32 (a' : Int), .int .u8 (K' : Int), .int .i64 P', .int .u32 (R' : Int), .int .u8 (B' : Int), .int .i64 M', .int .i32 S', .int .i64 F', .int .i64 G', .int .u32 (s' : Int), .int .i32 d', .int .u8 (ek' : Int), .int .i64 m']), .is (.agg #[.int .u8 (k' : Int), .int .u32 (a' : Int), .int .u8 (K' : Int), .int .i64 P', .int .u32 (R' : Int), .int .u8 (B' : Int), .int .i64 M', .int .i64 S', .int .i64 F', .int .i64 G', .int .u32 (s' : Int), .int .i64 d', .int .u8 (ek' : Int), .int .i64 m']), .is (.bool rb), .is (.agg #[.int .u8 (k' : Int), .int .u32 (a' : Int), .int .u8 (K' : Int), .int .i64 P', .int .u32 (R' : Int), .int .u8 (B' : Int), .int .i64 M', .int .i32 S', .int .i64 F', .int .i64 G', .int .u32 (s' : Int), .int .i32 d', .int .u8 (ek' : Int), .int .i64 m']), .is (.bool rb), .is (.bool true), .is (.bool true), .is (.bool true)] : List Flw).getD i .any) (by kernel_rfl) (by kernel_rfl) rfl ?_ ?_
  · skip
    refine ⟨step_free rfl (fun aF wF hs hb => ?_), ?_⟩
    · obtain ⟨x0, -⟩ := hs
      have e0 : aF.eval (.tmp 2) = .pointer (some ⟨p, 0, none⟩) := x0
      exact opC_load e0 (LP wF hb) ⟨rfl, below_same wF⟩
    refine ⟨step_free rfl (fun aF wF hs hb => ?_), ?_⟩
    · obtain ⟨x0, -⟩ := hs
      have e0 : aF.eval (.tmp 15) = .agg #[.int .u8 (k : Int), .int .u32 (a : Int), .int .u8 (K : Int), .int .i64 P, .int .u32 (R : Int), .int .u8 (B : Int), .int .i64 M, .int .i32 S, .int .i64 F, .int .i64 G, .int .u32 (s : Int), .int .i32 d, .int .u8 (ek : Int), .int .i64 m] := x0
      exact opC_call (args := #[.agg #[.int .u8 (k : Int), .int .u32 (a : Int), .int .u8 (K : Int), .int .i64 P, .int .u32 (R : Int), .int .u8 (B : Int), .int .i64 M, .int .i32 S, .int .i64 F, .int .i64 G, .int .u32 (s : Int), .int .i32 d, .int .u8 (ek : Int), .int .i64 m]]) (enters9 Tryz.func11 (by kernel_rfl) rfl) (by simp [e0]) (kO1 wF) (fun _ h => ⟨rfl, h⟩)
    refine ⟨step_free rfl (fun aF wF hs hb => ?_), ?_⟩
    · obtain ⟨x0, -⟩ := hs
      have e0 : aF.eval (.tmp 16) = .agg #[.int .u8 (k : Int), .int .u32 (a : Int), .int .u8 (K : Int), .int .i64 P, .int .u32 (R : Int), .int .u8 (B : Int), .int .i64 M, .int .i64 S, .int .i64 F, .int .i64 G, .int .u32 (s : Int), .int .i64 d, .int .u8 (ek : Int), .int .i64 m] := x0
      exact opC_call (args := #[.agg #[.int .u8 (k : Int), .int .u32 (a : Int), .int .u8 (K : Int), .int .i64 P, .int .u32 (R : Int), .int .u8 (B : Int), .int .i64 M, .int .i64 S, .int .i64 F, .int .i64 G, .int .u32 (s : Int), .int .i64 d, .int .u8 (ek : Int), .int .i64 m]]) (enters9 Tryz.func10 (by kernel_rfl) rfl) (by simp [e0]) (kQ1 wF) (fun _ h => ⟨rfl, h⟩)
    refine ⟨step_free rfl (fun aF wF hs hb => ?_), ?_⟩
    · obtain ⟨x0, -⟩ := hs
      have e0 : aF.eval (.tmp 2) = .pointer (some ⟨p, 0, none⟩) := x0
      exact opC_load e0 (LP wF hb) ⟨rfl, below_same wF⟩
    refine ⟨step_free rfl (fun aF wF hs hb => ?_), ?_⟩
    · obtain ⟨x0, -⟩ := hs
      have e0 : aF.eval (.tmp 18) = .agg #[.int .u8 (k : Int), .int .u32 (a : Int), .int .u8 (K : Int), .int .i64 P, .int .u32 (R : Int), .int .u8 (B : Int), .int .i64 M, .int .i32 S, .int .i64 F, .int .i64 G, .int .u32 (s : Int), .int .i32 d, .int .u8 (ek : Int), .int .i64 m] := x0
      exact opC_call (args := #[.agg #[.int .u8 (k : Int), .int .u32 (a : Int), .int .u8 (K : Int), .int .i64 P, .int .u32 (R : Int), .int .u8 (B : Int), .int .i64 M, .int .i32 S, .int .i64 F, .int .i64 G, .int .u32 (s : Int), .int .i32 d, .int .u8 (ek : Int), .int .i64 m]]) (enters9 Tryz.func12 (by kernel_rfl) rfl) (by simp [e0]) (kR1 wF) (fun _ h => ⟨rfl, h⟩)
    refine ⟨step_free rfl (fun aF wF hs hb => ?_), ?_⟩
    · obtain ⟨x0, x1, -⟩ := hs
      have e0 : aF.eval (.tmp 17) = .bool ra := x0
      have e1 : aF.eval (.tmp 19) = .bool ra := x1
      refine opC_value (v := .bool true) ?_ ⟨rfl, below_same wF⟩
      have t0 := ev_of e0
      have t1 := ev_of e1
      simp [execOp, go_sem, t0, t1]
    refine ⟨step_free rfl (fun aF wF hs hb => ?_), ?_⟩
    · obtain ⟨x0, -⟩ := hs
      have e0 : aF.eval (.tmp 20) = .bool true := x0
      exact opC_move e0 ⟨rfl, below_same wF⟩
    refine ⟨step_yes 6 21 rfl rfl (fun _ _ h => h) (fun aF wF hs hb => ?_), ?_⟩
    · obtain ⟨x0, -⟩ := hs
      have e0 : aF.eval (.tmp 3) = .pointer (some ⟨q, 0, none⟩) := x0
      exact opC_load e0 (LQ wF hb) ⟨rfl, below_same wF⟩
    refine ⟨step_yes 6 21 rfl rfl (fun _ _ h => h) (fun aF wF hs hb => ?_), ?_⟩
    · obtain ⟨x0, -⟩ := hs
      have e0 : aF.eval (.tmp 22) = .agg #[.int .u8 (k' : Int), .int .u32 (a' : Int), .int .u8 (K' : Int), .int .i64 P', .int .u32 (R' : Int), .int .u8 (B' : Int), .int .i64 M', .int .i32 S', .int .i64 F', .int .i64 G', .int .u32 (s' : Int), .int .i32 d', .int .u8 (ek' : Int), .int .i64 m'] := x0
      exact opC_call (args := #[.agg #[.int .u8 (k' : Int), .int .u32 (a' : Int), .int .u8 (K' : Int), .int .i64 P', .int .u32 (R' : Int), .int .u8 (B' : Int), .int .i64 M', .int .i32 S', .int .i64 F', .int .i64 G', .int .u32 (s' : Int), .int .i32 d', .int .u8 (ek' : Int), .int .i64 m']]) (enters9 Tryz.func11 (by kernel_rfl) rfl) (by simp [e0]) (kO2 wF) (fun _ h => ⟨rfl, h⟩)
    refine ⟨step_yes 6 21 rfl rfl (fun _ _ h => h) (fun aF wF hs hb => ?_), ?_⟩
    · obtain ⟨x0, -⟩ := hs
      have e0 : aF.eval (.tmp 23) = .agg #[.int .u8 (k' : Int), .int .u32 (a' : Int), .int .u8 (K' : Int), .int .i64 P', .int .u32 (R' : Int), .int .u8 (B' : Int), .int .i64 M', .int .i64 S', .int .i64 F', .int .i64 G', .int .u32 (s' : Int), .int .i64 d', .int .u8 (ek' : Int), .int .i64 m'] := x0
      exact opC_call (args := #[.agg #[.int .u8 (k' : Int), .int .u32 (a' : Int), .int .u8 (K' : Int), .int .i64 P', .int .u32 (R' : Int), .int .u8 (B' : Int), .int .i64 M', .int .i64 S', .int .i64 F', .int .i64 G', .int .u32 (s' : Int), .int .i64 d', .int .u8 (ek' : Int), .int .i64 m']]) (enters9 Tryz.func10 (by kernel_rfl) rfl) (by simp [e0]) (kQ2 wF) (fun _ h => ⟨rfl, h⟩)
    refine ⟨step_yes 6 21 rfl rfl (fun _ _ h => h) (fun aF wF hs hb => ?_), ?_⟩
    · obtain ⟨x0, -⟩ := hs
      have e0 : aF.eval (.tmp 3) = .pointer (some ⟨q, 0, none⟩) := x0
      exact opC_load e0 (LQ wF hb) ⟨rfl, below_same wF⟩
    refine ⟨step_yes 6 21 rfl rfl (fun _ _ h => h) (fun aF wF hs hb => ?_), ?_⟩
    · obtain ⟨x0, -⟩ := hs
      have e0 : aF.eval (.tmp 25) = .agg #[.int .u8 (k' : Int), .int .u32 (a' : Int), .int .u8 (K' : Int), .int .i64 P', .int .u32 (R' : Int), .int .u8 (B' : Int), .int .i64 M', .int .i32 S', .int .i64 F', .int .i64 G', .int .u32 (s' : Int), .int .i32 d', .int .u8 (ek' : Int), .int .i64 m'] := x0
      exact opC_call (args := #[.agg #[.int .u8 (k' : Int), .int .u32 (a' : Int), .int .u8 (K' : Int), .int .i64 P', .int .u32 (R' : Int), .int .u8 (B' : Int), .int .i64 M', .int .i32 S', .int .i64 F', .int .i64 G', .int .u32 (s' : Int), .int .i32 d', .int .u8 (ek' : Int), .int .i64 m']]) (enters9 Tryz.func12 (by kernel_rfl) rfl) (by simp [e0]) (kR2 wF) (fun _ h => ⟨rfl, h⟩)
    refine ⟨step_yes 6 21 rfl rfl (fun _ _ h => h) (fun aF wF hs hb => ?_), ?_⟩
    · obtain ⟨x0, x1, -⟩ := hs
      have e0 : aF.eval (.tmp 24) = .bool rb := x0
      have e1 : aF.eval (.tmp 26) = .bool rb := x1
      refine opC_value (v := .bool true) ?_ ⟨rfl, below_same wF⟩
      have t0 := ev_of e0
      have t1 := ev_of e1
      simp [execOp, go_sem, t0, t1]
    refine ⟨step_free rfl (fun aF wF hs hb => ?_), ?_⟩
    · obtain ⟨x0, x1, -⟩ := hs
      have e0 : aF.eval (.tmp 21) = .bool true := x0
      have e1 : aF.eval (.tmp 27) = .bool true := x1
      refine opC_value (v := .bool true) ?_ ⟨rfl, below_same wF⟩
      have t0 := ev_of e0
      have t1 := ev_of e1
      simp [execOp, go_sem, t0, t1]
    refine ⟨step_free rfl (fun aF wF hs hb => ?_), ?_⟩
    · obtain ⟨x0, -⟩ := hs
      have e0 : aF.eval (.tmp 28) = .bool true := x0
      exact opC_assign e0 ⟨rfl, below_same wF⟩
    exact trivial
  · intro f w6 hf hb6
    have h9 : f 14 = .bool true := hf 14 4 rfl
    have HB6 := Lib.hid (HB2.out.trans (hb6.mono HB2.out.size))
    simp only [putF, Act.put, List.setIfInBounds_toArray, List.set_cons_zero, List.set_cons_succ]
    rw [h9]
    clear hf h9 hb6 LP LQ kO1 kO2 kQ1 kQ2 kR1 kR2
    go_wp2_with fail
    go_ret
    exact ⟨rfl, HB6.out⟩
set_option maxRecDepth 100000 in
set_option maxHeartbeats 4000000 in
theorem OApart_2 {k a K R B s ek k' a' K' R' B' s' ek' : Nat} {P M S F G d m P' M' S' F' G' d' m' : Int} {ra rb : Bool} (kS1 : ∀ W, Calls Tryz.prog 12 #[.agg #[.int .u8 (k : Int), .int .u32 (a : Int), .int .u8 (K : Int), .int .i64 P, .int .u32 (R : Int), .int .u8 (B : Int), .int .i64 M, .int .i32 S, .int .i64 F, .int .i64 G, .int .u32 (s : Int), .int .i32 d, .int .u8 (ek : Int), .int .i64 m]] W (Ret (.bool true) W)) (kS2 : ∀ W, Calls Tryz.prog 12 #[.agg #[.int .u8 (k' : Int), .int .u32 (a' : Int), .int .u8 (K' : Int), .int .i64 P', .int .u32 (R' : Int), .int .u8 (B' : Int), .int .i64 M', .int .i32 S', .int .i64 F', .int .i64 G', .int .u32 (s' : Int), .int .i32 d', .int .u8 (ek' : Int), .int .i64 m']] W (Ret (.bool false) W))
    (kO1 : ∀ W, Calls Tryz.prog 11 #[.agg #[.int .u8 (k : Int), .int .u32 (a : Int), .int .u8 (K : Int), .int .i64 P, .int .u32 (R : Int), .int .u8 (B : Int), .int .i64 M, .int .i32 S, .int .i64 F, .int .i64 G, .int .u32 (s : Int), .int .i32 d, .int .u8 (ek : Int), .int .i64 m]] W (Ret (.agg #[.int .u8 (k : Int), .int .u32 (a : Int), .int .u8 (K : Int), .int .i64 P, .int .u32 (R : Int), .int .u8 (B : Int), .int .i64 M, .int .i64 S, .int .i64 F, .int .i64 G, .int .u32 (s : Int), .int .i64 d, .int .u8 (ek : Int), .int .i64 m]) W)) (kO2 : ∀ W, Calls Tryz.prog 11 #[.agg #[.int .u8 (k' : Int), .int .u32 (a' : Int), .int .u8 (K' : Int), .int .i64 P', .int .u32 (R' : Int), .int .u8 (B' : Int), .int .i64 M', .int .i32 S', .int .i64 F', .int .i64 G', .int .u32 (s' : Int), .int .i32 d', .int .u8 (ek' : Int), .int .i64 m']] W (Ret (.agg #[.int .u8 (k' : Int), .int .u32 (a' : Int), .int .u8 (K' : Int), .int .i64 P', .int .u32 (R' : Int), .int .u8 (B' : Int), .int .i64 M', .int .i64 S', .int .i64 F', .int .i64 G', .int .u32 (s' : Int), .int .i64 d', .int .u8 (ek' : Int), .int .i64 m']) W))
    (kQ1 : ∀ W, Calls Tryz.prog 10 #[.agg #[.int .u8 (k : Int), .int .u32 (a : Int), .int .u8 (K : Int), .int .i64 P, .int .u32 (R : Int), .int .u8 (B : Int), .int .i64 M, .int .i64 S, .int .i64 F, .int .i64 G, .int .u32 (s : Int), .int .i64 d, .int .u8 (ek : Int), .int .i64 m]] W (Ret (.bool ra) W)) (kQ2 : ∀ W, Calls Tryz.prog 10 #[.agg #[.int .u8 (k' : Int), .int .u32 (a' : Int), .int .u8 (K' : Int), .int .i64 P', .int .u32 (R' : Int), .int .u8 (B' : Int), .int .i64 M', .int .i64 S', .int .i64 F', .int .i64 G', .int .u32 (s' : Int), .int .i64 d', .int .u8 (ek' : Int), .int .i64 m']] W (Ret (.bool rb) W))
    (kR1 : ∀ W, Calls Tryz.prog 12 #[.agg #[.int .u8 (k : Int), .int .u32 (a : Int), .int .u8 (K : Int), .int .i64 P, .int .u32 (R : Int), .int .u8 (B : Int), .int .i64 M, .int .i32 S, .int .i64 F, .int .i64 G, .int .u32 (s : Int), .int .i32 d, .int .u8 (ek : Int), .int .i64 m]] W (Ret (.bool ra) W)) (kR2 : ∀ W, Calls Tryz.prog 12 #[.agg #[.int .u8 (k' : Int), .int .u32 (a' : Int), .int .u8 (K' : Int), .int .i64 P', .int .u32 (R' : Int), .int .u8 (B' : Int), .int .i64 M', .int .i32 S', .int .i64 F', .int .i64 G', .int .u32 (s' : Int), .int .i32 d', .int .u8 (ek' : Int), .int .i64 m']] W (Ret (.bool rb) W))
    (w : World) (hl : TLd w) : Calls Tryz.prog 5 #[.agg #[.int .u8 (k : Int), .int .u32 (a : Int), .int .u8 (K : Int), .int .i64 P, .int .u32 (R : Int), .int .u8 (B : Int), .int .i64 M, .int .i32 S, .int .i64 F, .int .i64 G, .int .u32 (s : Int), .int .i32 d, .int .u8 (ek : Int), .int .i64 m], .agg #[.int .u8 (k' : Int), .int .u32 (a' : Int), .int .u8 (K' : Int), .int .i64 P', .int .u32 (R' : Int), .int .u8 (B' : Int), .int .i64 M', .int .i32 S', .int .i64 F', .int .i64 G', .int .u32 (s' : Int), .int .i32 d', .int .u8 (ek' : Int), .int .i64 m']] w (Ret (.bool true) w) := by
  have hw0 := b_alloc w (.cells #[.int .u8 (k : Int), .int .u32 (a : Int), .int .u8 (K : Int), .int .i64 P, .int .u32 (R : Int), .int .u8 (B : Int), .int .i64 M, .int .i32 S, .int .i64 F, .int .i64 G, .int .u32 (s : Int), .int .i32 d, .int .u8 (ek : Int), .int .i64 m] 32)
  have hp0 := (Blk.new w 32 #[.int .u8 (k : Int), .int .u32 (a : Int), .int .u8 (K : Int), .int .i64 P, .int .u32 (R : Int), .int .u8 (B : Int), .int .i64 M, .int .i32 S, .int .i64 F, .int .i64 G, .int .u32 (s : Int), .int .i32 d, .int .u8 (ek : Int), .int .i64 m]).alloc (.cells #[.int .u8 (k' : Int), .int .u32 (a' : Int), .int .u8 (K' : Int), .int .i64 P', .int .u32 (R' : Int), .int .u8 (B' : Int), .int .i64 M', .int .i32 S', .int .i64 F', .int .i64 G', .int .u32 (s' : Int), .int .i32 d', .int .u8 (ek' : Int), .int .i64 m'] 32)
  have hq0 := Blk.new (w.alloc (.cells #[.int .u8 (k : Int), .int .u32 (a : Int), .int .u8 (K : Int), .int .i64 P, .int .u32 (R : Int), .int .u8 (B : Int), .int .i64 M, .int .i32 S, .int .i64 F, .int .i64 G, .int .u32 (s : Int), .int .i32 d, .int .u8 (ek : Int), .int .i64 m] 32)) 32 #[.int .u8 (k' : Int), .int .u32 (a' : Int), .int .u8 (K' : Int), .int .i64 P', .int .u32 (R' : Int), .int .u8 (B' : Int), .int .i64 M', .int .i32 S', .int .i64 F', .int .i64 G', .int .u32 (s' : Int), .int .i32 d', .int .u8 (ek' : Int), .int .i64 m']
  rw [World.size_alloc] at hq0
  have HP0 := Lib.hid hp0
  have HQ0 := Lib.hid hq0
  have HB0 := Lib.hid (hw0.alloc hw0.size (.cells #[.int .u8 (k' : Int), .int .u32 (a' : Int), .int .u8 (K' : Int), .int .i64 P', .int .u32 (R' : Int), .int .u8 (B' : Int), .int .i64 M', .int .i32 S', .int .i64 F', .int .i64 G', .int .u32 (s' : Int), .int .i32 d', .int .u8 (ek' : Int), .int .i64 m'] 32))
  have HL := Lib.hid hl
  clear hw0 hp0 hq0 hl
  go_enter Tryz.func5, Tryz.ntmps5
  go_wp2_with fail
  refine (awake20 _ (HL.out.below HB0.out)).mono ?_
  rintro e w1 ⟨rfl, hb⟩
  have HP1 := Lib.hid (HP0.out.below hb HP0.out.lt)
  have HQ1 := Lib.hid (HQ0.out.below hb HQ0.out.lt)
  have HB1 := Lib.hid (HB0.out.trans (hb.mono HB0.out.size))
  clear hb HP0 HQ0 HB0
  obtain ⟨z0, z1, z2, z3, z4, z5, z6, z7, z8, z9, z10, z11, z12, z13⟩ := blk14 HP1.out
  go_wp2_with fail
  refine (kS1 _).mono ?_
  rintro e w2 ⟨rfl, hb⟩
  have HP2 := Lib.hid (HP1.out.below hb HP1.out.lt)
  have HQ2 := Lib.hid (HQ1.out.below hb HQ1.out.lt)
  have HB2 := Lib.hid (HB1.out.trans (hb.mono HB1.out.size))
  clear hb HP1 HQ1 HB1 kS1 z0 z1 z2 z3 z4 z5 z6 z7 z8 z9 z10 z11 z12 z13
  obtain ⟨z0, z1, z2, z3, z4, z5, z6, z7, z8, z9, z10, z11, z12, z13⟩ := blk14 HQ2.out
  go_wp2_with fail
  refine (kS2 _).mono ?_
  rintro e w3 ⟨rfl, hb⟩
  have HP3 := Lib.hid (HP2.out.below hb HP2.out.lt)
  have HQ3 := Lib.hid (HQ2.out.below hb HQ2.out.lt)
  have HB3 := Lib.hid (HB2.out.trans (hb.mono HB2.out.size))
  clear hb HP2 HQ2 HB2 kS2 z0 z1 z2 z3 z4 z5 z6 z7 z8 z9 z10 z11 z12 z13
  obtain ⟨p, hpp⟩ : ∃ p, w.heap.size = p := ⟨_, rfl⟩
  obtain ⟨q, hqq⟩ : ∃ q, w.heap.size + 1 = q := ⟨_, rfl⟩
  rw [hqq] at HQ3
  rw [hpp] at HP3
  rw [hqq, hpp]
  clear hpp hqq
  have LP : ∀ W', Below w3.heap.size w3 W' → (Instr.loadAt 32 (.pointer (some ⟨p, 0, none⟩))).run Tryz.prog W' = .ok (.agg #[.int .u8 (k : Int), .int .u32 (a : Int), .int .u8 (K : Int), .int .i64 P, .int .u32 (R : Int), .int .u8 (B : Int), .int .i64 M, .int .i32 S, .int .i64 F, .int .i64 G, .int .u32 (s : Int), .int .i32 d, .int .u8 (ek : Int), .int .i64 m]) W' := fun W' hb => run_loadB (HP3.out.below hb HP3.out.lt) _ 0 #[.int .u8 (k : Int), .int .u32 (a : Int), .int .u8 (K : Int), .int .i64 P, .int .u32 (R : Int), .int .u8 (B : Int), .int .i64 M, .int .i32 S, .int .i64 F, .int .i64 G, .int .u32 (s : Int), .int .i32 d, .int .u8 (ek : Int), .int .i64 m] (part_of (by rfl)) rowOr
  have LQ : ∀ W', Below w3.heap.size w3 W' → (Instr.loadAt 32 (.pointer (some ⟨q, 0, none⟩))).run Tryz.prog W' = .ok (.agg #[.int .u8 (k' : Int), .int .u32 (a' : Int), .int .u8 (K' : Int), .int .i64 P', .int .u32 (R' : Int), .int .u8 (B' : Int), .int .i64 M', .int .i32 S', .int .i64 F', .int .i64 G', .int .u32 (s' : Int), .int .i32 d', .int .u8 (ek' : Int), .int .i64 m']) W' := fun W' hb => run_loadB (HQ3.out.below hb HQ3.out.lt) _ 0 #[.int .u8 (k' : Int), .int .u32 (a' : Int), .int .u8 (K' : Int), .int .i64 P', .int .u32 (R' : Int), .int .u8 (B' : Int), .int .i64 M', .int .i32 S', .int .i64 F', .int .i64 G', .int .u32 (s' : Int), .int .i32 d', .int .u8 (ek' : Int), .int .i64 m'] (part_of (by rfl)) rowOr
  clear HP3 HQ3
  go_upto_region 4 with (fail)
  refine wp_region_flow [some 15, some 16, some 17, some 18, some 19, some 20, some 21, some 22, some 23, some 24, some 25, some 26, some 27, some 28, some 4] (fun i => ([.is (.agg #[.int .u8 (k : Int), .int .u32 (a : Int), .int .u8 (K : Int), .int .i64 P, .int .u32 (R : Int), .int .u8 (B : Int), .int .i64 M, .int .i32 S, .int .i64 F, .int .i64 G, .int .u32 (s : Int), .int .i32 d, .int .u8 (ek : Int), .int .i64 m]), .is (.agg #[.int .u8 (k : Int), .int .u32 (a : Int), .int .u8 (K : Int), .int .i64 P, .int .u32 (R : Int), .int .u8 (B : Int), .int .i64 M, .int .i64 S, .int .i64 F, .int .i64 G, .int .u32 (s : Int), .int .i64 d, .int .u8 (ek : Int), .int .i64 m]), .is (.bool ra), .is (.agg #[.int .u8 (k : Int), .int .u32 (a : Int), .int .u8 (K : Int), .int .i64 P, .int .u32 (R : Int), .int .u8 (B : Int), .int .i64 M, .int .i32 S, .int .i64 F, .int .i64 G, .int .u32 (s : Int), .int .i32 d, .int .u8 (ek : Int), .int .i64 m]), .is (.bool ra), .is (.bool true), .is (.bool true), .is (.agg #[.int .u8 (k' : Int), .int .u32 (a' : Int), .int .u8 (K' : Int), .int .i64 P', .int .u32 (R' : Int), .int .u8 (B' : Int), .int .i64 M', .int .i32 S', .int .i64 F', .int .i64 G', .int .u32 (s' : Int), .int .i32 d', .int .u8 (ek' : Int), .int .i64 m']), .is (.agg #[.int .u8 (k' : Int), .int .u32 (a' : Int), .int .u8 (K' : Int), .int .i64 P', .int .u32 (R' : Int), .int .u8 (B' : Int), .int .i64 M', .int .i64 S', .int .i64 F', .int .i64 G', .int .u32 (s' : Int), .int .i64 d', .int .u8 (ek' : Int), .int .i64 m']), .is (.bool rb), .is (.agg #[.int .u8 (k' : Int), .int .u32 (a' : Int), .int .u8 (K' : Int), .int .i64 P', .int .u32 (R' : Int), .int .u8 (B' : Int), .int .i64 M', .int .i32 S', .int .i64 F', .int .i64 G', .int .u32 (s' : Int), .int .i32 d', .int .u8 (ek' : Int), .int .i64 m']), .is (.bool rb), .is (.bool true), .is (.bool true), .is (.bool true)] : List Flw).getD i .any) (by kernel_rfl) (by kernel_rfl) rfl ?_ ?_
  · skip
    refine ⟨step_free rfl (fun aF wF hs hb => ?_), ?_⟩
    · obtain ⟨x0, -⟩ := hs
      have e0 : aF.eval (.tmp 2) = .pointer (some ⟨p, 0, none⟩) := x0
      exact opC_load e0 (LP wF hb) ⟨rfl, below_same wF⟩
    refine ⟨step_free rfl (fun aF wF hs hb => ?_), ?_⟩
    · obtain ⟨x0, -⟩ := hs
      have e0 : aF.eval (.tmp 15) = .agg #[.int .u8 (k : Int), .int .u32 (a : Int), .int .u8 (K : Int), .int .i64 P, .int .u32 (R : Int), .int .u8 (B : Int), .int .i64 M, .int .i32 S, .int .i64 F, .int .i64 G, .int .u32 (s : Int), .int .i32 d, .int .u8 (ek : Int), .int .i64 m] := x0
      exact opC_call (args := #[.agg #[.int .u8 (k : Int), .int .u32 (a : Int), .int .u8 (K : Int), .int .i64 P, .int .u32 (R : Int), .int .u8 (B : Int), .int .i64 M, .int .i32 S, .int .i64 F, .int .i64 G, .int .u32 (s : Int), .int .i32 d, .int .u8 (ek : Int), .int .i64 m]]) (enters9 Tryz.func11 (by kernel_rfl) rfl) (by simp [e0]) (kO1 wF) (fun _ h => ⟨rfl, h⟩)
    refine ⟨step_free rfl (fun aF wF hs hb => ?_), ?_⟩
    · obtain ⟨x0, -⟩ := hs
      have e0 : aF.eval (.tmp 16) = .agg #[.int .u8 (k : Int), .int .u32 (a : Int), .int .u8 (K : Int), .int .i64 P, .int .u32 (R : Int), .int .u8 (B : Int), .int .i64 M, .int .i64 S, .int .i64 F, .int .i64 G, .int .u32 (s : Int), .int .i64 d, .int .u8 (ek : Int), .int .i64 m] := x0
      exact opC_call (args := #[.agg #[.int .u8 (k : Int), .int .u32 (a : Int), .int .u8 (K : Int), .int .i64 P, .int .u32 (R : Int), .int .u8 (B : Int), .int .i64 M, .int .i64 S, .int .i64 F, .int .i64 G, .int .u32 (s : Int), .int .i64 d, .int .u8 (ek : Int), .int .i64 m]]) (enters9 Tryz.func10 (by kernel_rfl) rfl) (by simp [e0]) (kQ1 wF) (fun _ h => ⟨rfl, h⟩)
    refine ⟨step_free rfl (fun aF wF hs hb => ?_), ?_⟩
    · obtain ⟨x0, -⟩ := hs
      have e0 : aF.eval (.tmp 2) = .pointer (some ⟨p, 0, none⟩) := x0
      exact opC_load e0 (LP wF hb) ⟨rfl, below_same wF⟩
    refine ⟨step_free rfl (fun aF wF hs hb => ?_), ?_⟩
    · obtain ⟨x0, -⟩ := hs
      have e0 : aF.eval (.tmp 18) = .agg #[.int .u8 (k : Int), .int .u32 (a : Int), .int .u8 (K : Int), .int .i64 P, .int .u32 (R : Int), .int .u8 (B : Int), .int .i64 M, .int .i32 S, .int .i64 F, .int .i64 G, .int .u32 (s : Int), .int .i32 d, .int .u8 (ek : Int), .int .i64 m] := x0
      exact opC_call (args := #[.agg #[.int .u8 (k : Int), .int .u32 (a : Int), .int .u8 (K : Int), .int .i64 P, .int .u32 (R : Int), .int .u8 (B : Int), .int .i64 M, .int .i32 S, .int .i64 F, .int .i64 G, .int .u32 (s : Int), .int .i32 d, .int .u8 (ek : Int), .int .i64 m]]) (enters9 Tryz.func12 (by kernel_rfl) rfl) (by simp [e0]) (kR1 wF) (fun _ h => ⟨rfl, h⟩)
    refine ⟨step_free rfl (fun aF wF hs hb => ?_), ?_⟩
    · obtain ⟨x0, x1, -⟩ := hs
      have e0 : aF.eval (.tmp 17) = .bool ra := x0
      have e1 : aF.eval (.tmp 19) = .bool ra := x1
      refine opC_value (v := .bool true) ?_ ⟨rfl, below_same wF⟩
      have t0 := ev_of e0
      have t1 := ev_of e1
      simp [execOp, go_sem, t0, t1]
    refine ⟨step_free rfl (fun aF wF hs hb => ?_), ?_⟩
    · obtain ⟨x0, -⟩ := hs
      have e0 : aF.eval (.tmp 20) = .bool true := x0
      exact opC_move e0 ⟨rfl, below_same wF⟩
    refine ⟨step_yes 6 21 rfl rfl (fun _ _ h => h) (fun aF wF hs hb => ?_), ?_⟩
    · obtain ⟨x0, -⟩ := hs
      have e0 : aF.eval (.tmp 3) = .pointer (some ⟨q, 0, none⟩) := x0
      exact opC_load e0 (LQ wF hb) ⟨rfl, below_same wF⟩
    refine ⟨step_yes 6 21 rfl rfl (fun _ _ h => h) (fun aF wF hs hb => ?_), ?_⟩
    · obtain ⟨x0, -⟩ := hs
      have e0 : aF.eval (.tmp 22) = .agg #[.int .u8 (k' : Int), .int .u32 (a' : Int), .int .u8 (K' : Int), .int .i64 P', .int .u32 (R' : Int), .int .u8 (B' : Int), .int .i64 M', .int .i32 S', .int .i64 F', .int .i64 G', .int .u32 (s' : Int), .int .i32 d', .int .u8 (ek' : Int), .int .i64 m'] := x0
      exact opC_call (args := #[.agg #[.int .u8 (k' : Int), .int .u32 (a' : Int), .int .u8 (K' : Int), .int .i64 P', .int .u32 (R' : Int), .int .u8 (B' : Int), .int .i64 M', .int .i32 S', .int .i64 F', .int .i64 G', .int .u32 (s' : Int), .int .i32 d', .int .u8 (ek' : Int), .int .i64 m']]) (enters9 Tryz.func11 (by kernel_rfl) rfl) (by simp [e0]) (kO2 wF) (fun _ h => ⟨rfl, h⟩)
    refine ⟨step_yes 6 21 rfl rfl (fun _ _ h => h) (fun aF wF hs hb => ?_), ?_⟩
    · obtain ⟨x0, -⟩ := hs
      have e0 : aF.eval (.tmp 23) = .agg #[.int .u8 (k' : Int), .int .u32 (a' : Int), .int .u8 (K' : Int), .int .i64 P', .int .u32 (R' : Int), .int .u8 (B' : Int), .int .i64 M', .int .i64 S', .int .i64 F', .int .i64 G', .int .u32 (s' : Int), .int .i64 d', .int .u8 (ek' : Int), .int .i64 m'] := x0
      exact opC_call (args := #[.agg #[.int .u8 (k' : Int), .int .u32 (a' : Int), .int .u8 (K' : Int), .int .i64 P', .int .u32 (R' : Int), .int .u8 (B' : Int), .int .i64 M', .int .i64 S', .int .i64 F', .int .i64 G', .int .u32 (s' : Int), .int .i64 d', .int .u8 (ek' : Int), .int .i64 m']]) (enters9 Tryz.func10 (by kernel_rfl) rfl) (by simp [e0]) (kQ2 wF) (fun _ h => ⟨rfl, h⟩)
    refine ⟨step_yes 6 21 rfl rfl (fun _ _ h => h) (fun aF wF hs hb => ?_), ?_⟩
    · obtain ⟨x0, -⟩ := hs
      have e0 : aF.eval (.tmp 3) = .pointer (some ⟨q, 0, none⟩) := x0
      exact opC_load e0 (LQ wF hb) ⟨rfl, below_same wF⟩
    refine ⟨step_yes 6 21 rfl rfl (fun _ _ h => h) (fun aF wF hs hb => ?_), ?_⟩
    · obtain ⟨x0, -⟩ := hs
      have e0 : aF.eval (.tmp 25) = .agg #[.int .u8 (k' : Int), .int .u32 (a' : Int), .int .u8 (K' : Int), .int .i64 P', .int .u32 (R' : Int), .int .u8 (B' : Int), .int .i64 M', .int .i32 S', .int .i64 F', .int .i64 G', .int .u32 (s' : Int), .int .i32 d', .int .u8 (ek' : Int), .int .i64 m'] := x0
      exact opC_call (args := #[.agg #[.int .u8 (k' : Int), .int .u32 (a' : Int), .int .u8 (K' : Int), .int .i64 P', .int .u32 (R' : Int), .int .u8 (B' : Int), .int .i64 M', .int .i32 S', .int .i64 F', .int .i64 G', .int .u32 (s' : Int), .int .i32 d', .int .u8 (ek' : Int), .int .i64 m']]) (enters9 Tryz.func12 (by kernel_rfl) rfl) (by simp [e0]) (kR2 wF) (fun _ h => ⟨rfl, h⟩)
    refine ⟨step_yes 6 21 rfl rfl (fun _ _ h => h) (fun aF wF hs hb => ?_), ?_⟩
    · obtain ⟨x0, x1, -⟩ := hs
      have e0 : aF.eval (.tmp 24) = .bool rb := x0
      have e1 : aF.eval (.tmp 26) = .bool rb := x1
      refine opC_value (v := .bool true) ?_ ⟨rfl, below_same wF⟩
      have t0 := ev_of e0
      have t1 := ev_of e1
      simp [execOp, go_sem, t0, t1]
    refine ⟨step_free rfl (fun aF wF hs hb => ?_), ?_⟩
    · obtain ⟨x0, x1, -⟩ := hs
      have e0 : aF.eval (.tmp 21) = .bool true := x0
      have e1 : aF.eval (.tmp 27) = .bool true := x1
      refine opC_value (v := .bool true) ?_ ⟨rfl, below_same wF⟩
      have t0 := ev_of e0
      have t1 := ev_of e1
      simp [execOp, go_sem, t0, t1]
    refine ⟨step_free rfl (fun aF wF hs hb => ?_), ?_⟩
    · obtain ⟨x0, -⟩ := hs
      have e0 : aF.eval (.tmp 28) = .bool true := x0
      exact opC_assign e0 ⟨rfl, below_same wF⟩
    exact trivial
  · intro f w6 hf hb6
    have h9 : f 14 = .bool true := hf 14 4 rfl
    have HB6 := Lib.hid (HB3.out.trans (hb6.mono HB3.out.size))
    simp only [putF, Act.put, List.setIfInBounds_toArray, List.set_cons_zero, List.set_cons_succ]
    rw [h9]
    clear hf h9 hb6 LP LQ kO1 kO2 kQ1 kQ2 kR1 kR2
    go_wp2_with fail
    go_ret
    exact ⟨rfl, HB6.out⟩
set_option maxRecDepth 100000 in
set_option maxHeartbeats 4000000 in
theorem OApart_3 {k a K R B s ek k' a' K' R' B' s' ek' : Nat} {P M S F G d m P' M' S' F' G' d' m' : Int} {D : Bool} {L1 L2 : List UInt8} {sx sy : ByteArray} (kS1 : ∀ W, Calls Tryz.prog 12 #[.agg #[.int .u8 (k : Int), .int .u32 (a : Int), .int .u8 (K : Int), .int .i64 P, .int .u32 (R : Int), .int .u8 (B : Int), .int .i64 M, .int .i32 S, .int .i64 F, .int .i64 G, .int .u32 (s : Int), .int .i32 d, .int .u8 (ek : Int), .int .i64 m]] W (Ret (.bool true) W)) (kS2 : ∀ W, Calls Tryz.prog 12 #[.agg #[.int .u8 (k' : Int), .int .u32 (a' : Int), .int .u8 (K' : Int), .int .i64 P', .int .u32 (R' : Int), .int .u8 (B' : Int), .int .i64 M', .int .i32 S', .int .i64 F', .int .i64 G', .int .u32 (s' : Int), .int .i32 d', .int .u8 (ek' : Int), .int .i64 m']] W (Ret (.bool true) W))
    (cB1 : ∀ W, Calls Tryz.prog 9 #[.agg #[.int .u8 (k : Int), .int .u32 (a : Int), .int .u8 (K : Int), .int .i64 P, .int .u32 (R : Int), .int .u8 (B : Int), .int .i64 M, .int .i32 S, .int .i64 F, .int .i64 G, .int .u32 (s : Int), .int .i32 d, .int .u8 (ek : Int), .int .i64 m]] W (ToF (bySF L1) W)) (cB2 : ∀ W, Calls Tryz.prog 9 #[.agg #[.int .u8 (k' : Int), .int .u32 (a' : Int), .int .u8 (K' : Int), .int .i64 P', .int .u32 (R' : Int), .int .u8 (B' : Int), .int .i64 M', .int .i32 S', .int .i64 F', .int .i64 G', .int .u32 (s' : Int), .int .i32 d', .int .u8 (ek' : Int), .int .i64 m']] W (ToF (bySF L2) W))
    (kT1 : ∀ W, TLd W → Calls Tryz.prog 20 #[.agg #[.int .u8 (k : Int), .int .u32 (a : Int), .int .u8 (K : Int), .int .i64 P, .int .u32 (R : Int), .int .u8 (B : Int), .int .i64 M, .int .i32 S, .int .i64 F, .int .i64 G, .int .u32 (s : Int), .int .i32 d, .int .u8 (ek : Int), .int .i64 m]] W (Ret (.string sx) W)) (kT2 : ∀ W, TLd W → Calls Tryz.prog 20 #[.agg #[.int .u8 (k' : Int), .int .u32 (a' : Int), .int .u8 (K' : Int), .int .i64 P', .int .u32 (R' : Int), .int .u8 (B' : Int), .int .i64 M', .int .i32 S', .int .i64 F', .int .i64 G', .int .u32 (s' : Int), .int .i32 d', .int .u8 (ek' : Int), .int .i64 m']] W (Ret (.string sy) W))
    (cS : ∀ (A0 A1 : Option Addr) (c0 c1 : Nat) (W : World) (_ : Rd W W.heap.size A0 L1) (_ : Rd W W.heap.size A1 L2), Calls Tryz.prog 14 #[.slice A0 L1.length c0, .slice A1 L2.length c1] W fun e w' => e = .returned (.bool D) ∧ Below W.heap.size W w')
    (cE : ∀ W, (Op.equalIn 10000 32 (.agg #[.int .u8 (k : Int), .int .u32 (a : Int), .int .u8 (K : Int), .int .i64 P, .int .u32 (R : Int), .int .u8 (B : Int), .int .i64 M, .int .i32 S, .int .i64 F, .int .i64 G, .int .u32 (s : Int), .int .i32 d, .int .u8 (ek : Int), .int .i64 m]) (.agg #[.int .u8 (k' : Int), .int .u32 (a' : Int), .int .u8 (K' : Int), .int .i64 P', .int .u32 (R' : Int), .int .u8 (B' : Int), .int .i64 M', .int .i32 S', .int .i64 F', .int .i64 G', .int .u32 (s' : Int), .int .i32 d', .int .u8 (ek' : Int), .int .i64 m'])).run Tryz.prog W = .ok D W) (cX : (sx.toList == sy.toList) = D)
    (w : World) (hl : TLd w) : Calls Tryz.prog 5 #[.agg #[.int .u8 (k : Int), .int .u32 (a : Int), .int .u8 (K : Int), .int .i64 P, .int .u32 (R : Int), .int .u8 (B : Int), .int .i64 M, .int .i32 S, .int .i64 F, .int .i64 G, .int .u32 (s : Int), .int .i32 d, .int .u8 (ek : Int), .int .i64 m], .agg #[.int .u8 (k' : Int), .int .u32 (a' : Int), .int .u8 (K' : Int), .int .i64 P', .int .u32 (R' : Int), .int .u8 (B' : Int), .int .i64 M', .int .i32 S', .int .i64 F', .int .i64 G', .int .u32 (s' : Int), .int .i32 d', .int .u8 (ek' : Int), .int .i64 m']] w (Ret (.bool true) w) := by
  have hw0 := b_alloc w (.cells #[.int .u8 (k : Int), .int .u32 (a : Int), .int .u8 (K : Int), .int .i64 P, .int .u32 (R : Int), .int .u8 (B : Int), .int .i64 M, .int .i32 S, .int .i64 F, .int .i64 G, .int .u32 (s : Int), .int .i32 d, .int .u8 (ek : Int), .int .i64 m] 32)
  have hp0 := (Blk.new w 32 #[.int .u8 (k : Int), .int .u32 (a : Int), .int .u8 (K : Int), .int .i64 P, .int .u32 (R : Int), .int .u8 (B : Int), .int .i64 M, .int .i32 S, .int .i64 F, .int .i64 G, .int .u32 (s : Int), .int .i32 d, .int .u8 (ek : Int), .int .i64 m]).alloc (.cells #[.int .u8 (k' : Int), .int .u32 (a' : Int), .int .u8 (K' : Int), .int .i64 P', .int .u32 (R' : Int), .int .u8 (B' : Int), .int .i64 M', .int .i32 S', .int .i64 F', .int .i64 G', .int .u32 (s' : Int), .int .i32 d', .int .u8 (ek' : Int), .int .i64 m'] 32)
  have hq0 := Blk.new (w.alloc (.cells #[.int .u8 (k : Int), .int .u32 (a : Int), .int .u8 (K : Int), .int .i64 P, .int .u32 (R : Int), .int .u8 (B : Int), .int .i64 M, .int .i32 S, .int .i64 F, .int .i64 G, .int .u32 (s : Int), .int .i32 d, .int .u8 (ek : Int), .int .i64 m] 32)) 32 #[.int .u8 (k' : Int), .int .u32 (a' : Int), .int .u8 (K' : Int), .int .i64 P', .int .u32 (R' : Int), .int .u8 (B' : Int), .int .i64 M', .int .i32 S', .int .i64 F', .int .i64 G', .int .u32 (s' : Int), .int .i32 d', .int .u8 (ek' : Int), .int .i64 m']
  rw [World.size_alloc] at hq0
  have HP0 := Lib.hid hp0
  have HQ0 := Lib.hid hq0
  have HB0 := Lib.hid (hw0.alloc hw0.size (.cells #[.int .u8 (k' : Int), .int .u32 (a' : Int), .int .u8 (K' : Int), .int .i64 P', .int .u32 (R' : Int), .int .u8 (B' : Int), .int .i64 M', .int .i32 S', .int .i64 F', .int .i64 G', .int .u32 (s' : Int), .int .i32 d', .int .u8 (ek' : Int), .int .i64 m'] 32))
  have HL := Lib.hid hl
  clear hw0 hp0 hq0 hl
  go_enter Tryz.func5, Tryz.ntmps5
  go_wp2_with fail
  refine (awake20 _ (HL.out.below HB0.out)).mono ?_
  rintro e w1 ⟨rfl, hb⟩
  have HP1 := Lib.hid (HP0.out.below hb HP0.out.lt)
  have HQ1 := Lib.hid (HQ0.out.below hb HQ0.out.lt)
  have HB1 := Lib.hid (HB0.out.trans (hb.mono HB0.out.size))
  clear hb HP0 HQ0 HB0
  obtain ⟨z0, z1, z2, z3, z4, z5, z6, z7, z8, z9, z10, z11, z12, z13⟩ := blk14 HP1.out
  go_wp2_with fail
  refine (kS1 _).mono ?_
  rintro e w2 ⟨rfl, hb⟩
  have HP2 := Lib.hid (HP1.out.below hb HP1.out.lt)
  have HQ2 := Lib.hid (HQ1.out.below hb HQ1.out.lt)
  have HB2 := Lib.hid (HB1.out.trans (hb.mono HB1.out.size))
  clear hb HP1 HQ1 HB1 kS1 z0 z1 z2 z3 z4 z5 z6 z7 z8 z9 z10 z11 z12 z13
  obtain ⟨z0, z1, z2, z3, z4, z5, z6, z7, z8, z9, z10, z11, z12, z13⟩ := blk14 HQ2.out
  go_wp2_with fail
  refine (kS2 _).mono ?_
  rintro e w3 ⟨rfl, hb⟩
  have HP3 := Lib.hid (HP2.out.below hb HP2.out.lt)
  have HQ3 := Lib.hid (HQ2.out.below hb HQ2.out.lt)
  have HB3 := Lib.hid (HB2.out.trans (hb.mono HB2.out.size))
  clear hb HP2 HQ2 HB2 kS2 z0 z1 z2 z3 z4 z5 z6 z7 z8 z9 z10 z11 z12 z13
  obtain ⟨p, hpp⟩ : ∃ p, w.heap.size = p := ⟨_, rfl⟩
  obtain ⟨q, hqq⟩ : ∃ q, w.heap.size + 1 = q := ⟨_, rfl⟩
  rw [hqq] at HQ3
  rw [hpp] at HP3
  rw [hqq, hpp]
  clear hpp hqq
  have LP : ∀ W', Below w3.heap.size w3 W' → (Instr.loadAt 32 (.pointer (some ⟨p, 0, none⟩))).run Tryz.prog W' = .ok (.agg #[.int .u8 (k : Int), .int .u32 (a : Int), .int .u8 (K : Int), .int .i64 P, .int .u32 (R : Int), .int .u8 (B : Int), .int .i64 M, .int .i32 S, .int .i64 F, .int .i64 G, .int .u32 (s : Int), .int .i32 d, .int .u8 (ek : Int), .int .i64 m]) W' := fun W' hb => run_loadB (HP3.out.below hb HP3.out.lt) _ 0 #[.int .u8 (k : Int), .int .u32 (a : Int), .int .u8 (K : Int), .int .i64 P, .int .u32 (R : Int), .int .u8 (B : Int), .int .i64 M, .int .i32 S, .int .i64 F, .int .i64 G, .int .u32 (s : Int), .int .i32 d, .int .u8 (ek : Int), .int .i64 m] (part_of (by rfl)) rowOr
  have LQ : ∀ W', Below w3.heap.size w3 W' → (Instr.loadAt 32 (.pointer (some ⟨q, 0, none⟩))).run Tryz.prog W' = .ok (.agg #[.int .u8 (k' : Int), .int .u32 (a' : Int), .int .u8 (K' : Int), .int .i64 P', .int .u32 (R' : Int), .int .u8 (B' : Int), .int .i64 M', .int .i32 S', .int .i64 F', .int .i64 G', .int .u32 (s' : Int), .int .i32 d', .int .u8 (ek' : Int), .int .i64 m']) W' := fun W' hb => run_loadB (HQ3.out.below hb HQ3.out.lt) _ 0 #[.int .u8 (k' : Int), .int .u32 (a' : Int), .int .u8 (K' : Int), .int .i64 P', .int .u32 (R' : Int), .int .u8 (B' : Int), .int .i64 M', .int .i32 S', .int .i64 F', .int .i64 G', .int .u32 (s' : Int), .int .i32 d', .int .u8 (ek' : Int), .int .i64 m'] (part_of (by rfl)) rowOr
  have cT1 := fun W' (hb : Below w3.heap.size w3 W') => kT1 W' (HL.out.below (HB3.out.trans (hb.mono HB3.out.size)))
  have cT2 := fun W' (hb : Below w3.heap.size w3 W') => kT2 W' (HL.out.below (HB3.out.trans (hb.mono HB3.out.size)))
  clear kT1 kT2 HP3 HQ3
  go_upto_region 5 with (fail)
  refine wp_region_flow [some 29, some 30, some 31, some 32, some 33, some 34, some 35, some 36, some 37, some 38, some 39, some 40, some 41, some 42, some 43, some 44, some 45, some 46, some 47, some 48, some 4] (fun i => ([.is (.agg #[.int .u8 (k : Int), .int .u32 (a : Int), .int .u8 (K : Int), .int .i64 P, .int .u32 (R : Int), .int .u8 (B : Int), .int .i64 M, .int .i32 S, .int .i64 F, .int .i64 G, .int .u32 (s : Int), .int .i32 d, .int .u8 (ek : Int), .int .i64 m]), .is (.agg #[.int .u8 (k' : Int), .int .u32 (a' : Int), .int .u8 (K' : Int), .int .i64 P', .int .u32 (R' : Int), .int .u8 (B' : Int), .int .i64 M', .int .i32 S', .int .i64 F', .int .i64 G', .int .u32 (s' : Int), .int .i32 d', .int .u8 (ek' : Int), .int .i64 m']), .is (.bool D), .is (.agg #[.int .u8 (k : Int), .int .u32 (a : Int), .int .u8 (K : Int), .int .i64 P, .int .u32 (R : Int), .int .u8 (B : Int), .int .i64 M, .int .i32 S, .int .i64 F, .int .i64 G, .int .u32 (s : Int), .int .i32 d, .int .u8 (ek : Int), .int .i64 m]), (bySF L1), .is (.agg #[.int .u8 (k' : Int), .int .u32 (a' : Int), .int .u8 (K' : Int), .int .i64 P', .int .u32 (R' : Int), .int .u8 (B' : Int), .int .i64 M', .int .i32 S', .int .i64 F', .int .i64 G', .int .u32 (s' : Int), .int .i32 d', .int .u8 (ek' : Int), .int .i64 m']), (bySF L2), .is (.bool D), .is (.bool true), .is (.bool true), .is (.agg #[.int .u8 (k : Int), .int .u32 (a : Int), .int .u8 (K : Int), .int .i64 P, .int .u32 (R : Int), .int .u8 (B : Int), .int .i64 M, .int .i32 S, .int .i64 F, .int .i64 G, .int .u32 (s : Int), .int .i32 d, .int .u8 (ek : Int), .int .i64 m]), .is (.agg #[.int .u8 (k' : Int), .int .u32 (a' : Int), .int .u8 (K' : Int), .int .i64 P', .int .u32 (R' : Int), .int .u8 (B' : Int), .int .i64 M', .int .i32 S', .int .i64 F', .int .i64 G', .int .u32 (s' : Int), .int .i32 d', .int .u8 (ek' : Int), .int .i64 m']), .is (.bool D), .is (.agg #[.int .u8 (k : Int), .int .u32 (a : Int), .int .u8 (K : Int), .int .i64 P, .int .u32 (R : Int), .int .u8 (B : Int), .int .i64 M, .int .i32 S, .int .i64 F, .int .i64 G, .int .u32 (s : Int), .int .i32 d, .int .u8 (ek : Int), .int .i64 m]), .is (.string sx), .is (.agg #[.int .u8 (k' : Int), .int .u32 (a' : Int), .int .u8 (K' : Int), .int .i64 P', .int .u32 (R' : Int), .int .u8 (B' : Int), .int .i64 M', .int .i32 S', .int .i64 F', .int .i64 G', .int .u32 (s' : Int), .int .i32 d', .int .u8 (ek' : Int), .int .i64 m']), .is (.string sy), .is (.bool D), .is (.bool true), .is (.bool true), .is (.bool true)] : List Flw).getD i .any) (by kernel_rfl) (by kernel_rfl) rfl ?_ ?_
  · skip
    refine ⟨step_free rfl (fun aF wF hs hb => ?_), ?_⟩
    · obtain ⟨x0, -⟩ := hs
      have e0 : aF.eval (.tmp 2) = .pointer (some ⟨p, 0, none⟩) := x0
      exact opC_load e0 (LP wF hb) ⟨rfl, below_same wF⟩
    refine ⟨step_free rfl (fun aF wF hs hb => ?_), ?_⟩
    · obtain ⟨x0, -⟩ := hs
      have e0 : aF.eval (.tmp 3) = .pointer (some ⟨q, 0, none⟩) := x0
      exact opC_load e0 (LQ wF hb) ⟨rfl, below_same wF⟩
    refine ⟨step_free rfl (fun aF wF hs hb => ?_), ?_⟩
    · obtain ⟨x0, x1, -⟩ := hs
      have e0 : aF.eval (.tmp 29) = .agg #[.int .u8 (k : Int), .int .u32 (a : Int), .int .u8 (K : Int), .int .i64 P, .int .u32 (R : Int), .int .u8 (B : Int), .int .i64 M, .int .i32 S, .int .i64 F, .int .i64 G, .int .u32 (s : Int), .int .i32 d, .int .u8 (ek : Int), .int .i64 m] := x0
      have e1 : aF.eval (.tmp 30) = .agg #[.int .u8 (k' : Int), .int .u32 (a' : Int), .int .u8 (K' : Int), .int .i64 P', .int .u32 (R' : Int), .int .u8 (B' : Int), .int .i64 M', .int .i32 S', .int .i64 F', .int .i64 G', .int .u32 (s' : Int), .int .i32 d', .int .u8 (ek' : Int), .int .i64 m'] := x1
      refine opC_value (v := .bool D) ?_ ⟨rfl, below_same wF⟩
      simp [execOp, go_sem, ev_of e0, ev_of e1, cE]
    refine ⟨step_free rfl (fun aF wF hs hb => ?_), ?_⟩
    · obtain ⟨x0, -⟩ := hs
      have e0 : aF.eval (.tmp 2) = .pointer (some ⟨p, 0, none⟩) := x0
      exact opC_load e0 (LP wF hb) ⟨rfl, below_same wF⟩
    refine ⟨step_free rfl (fun aF wF hs hb => ?_), ?_⟩
    · obtain ⟨x0, -⟩ := hs
      have e0 : aF.eval (.tmp 32) = .agg #[.int .u8 (k : Int), .int .u32 (a : Int), .int .u8 (K : Int), .int .i64 P, .int .u32 (R : Int), .int .u8 (B : Int), .int .i64 M, .int .i32 S, .int .i64 F, .int .i64 G, .int .u32 (s : Int), .int .i32 d, .int .u8 (ek : Int), .int .i64 m] := x0
      exact opC_callF (args := #[.agg #[.int .u8 (k : Int), .int .u32 (a : Int), .int .u8 (K : Int), .int .i64 P, .int .u32 (R : Int), .int .u8 (B : Int), .int .i64 M, .int .i32 S, .int .i64 F, .int .i64 G, .int .u32 (s : Int), .int .i32 d, .int .u8 (ek : Int), .int .i64 m]]) (enters9 Tryz.func9 (by kernel_rfl) rfl) (by simp [e0]) (cB1 wF) (fun _ _ h1 h2 => ⟨h1, h2⟩)
    refine ⟨step_free rfl (fun aF wF hs hb => ?_), ?_⟩
    · obtain ⟨x0, -⟩ := hs
      have e0 : aF.eval (.tmp 3) = .pointer (some ⟨q, 0, none⟩) := x0
      exact opC_load e0 (LQ wF hb) ⟨rfl, below_same wF⟩
    refine ⟨step_free rfl (fun aF wF hs hb => ?_), ?_⟩
    · obtain ⟨x0, -⟩ := hs
      have e0 : aF.eval (.tmp 34) = .agg #[.int .u8 (k' : Int), .int .u32 (a' : Int), .int .u8 (K' : Int), .int .i64 P', .int .u32 (R' : Int), .int .u8 (B' : Int), .int .i64 M', .int .i32 S', .int .i64 F', .int .i64 G', .int .u32 (s' : Int), .int .i32 d', .int .u8 (ek' : Int), .int .i64 m'] := x0
      exact opC_callF (args := #[.agg #[.int .u8 (k' : Int), .int .u32 (a' : Int), .int .u8 (K' : Int), .int .i64 P', .int .u32 (R' : Int), .int .u8 (B' : Int), .int .i64 M', .int .i32 S', .int .i64 F', .int .i64 G', .int .u32 (s' : Int), .int .i32 d', .int .u8 (ek' : Int), .int .i64 m']]) (enters9 Tryz.func9 (by kernel_rfl) rfl) (by simp [e0]) (cB2 wF) (fun _ _ h1 h2 => ⟨h1, h2⟩)
    refine ⟨step_free rfl (fun aF wF hs hb => ?_), ?_⟩
    · obtain ⟨x0, y0, -⟩ := hs
      obtain ⟨A0, c0, e0, r0⟩ : (bySF L1).p (aF.eval (.tmp 33)) wF := x0
      obtain ⟨A1, c1, e1, r1⟩ : (bySF L2).p (aF.eval (.tmp 35)) wF := y0
      exact opC_call (args := #[.slice A0 L1.length c0, .slice A1 L2.length c1]) (enters9 Tryz.func14 (by kernel_rfl) rfl) (by simp [e0, e1]) (cS A0 A1 c0 c1 wF r0 r1) (fun _ h => ⟨rfl, h⟩)
    refine ⟨step_free rfl (fun aF wF hs hb => ?_), ?_⟩
    · obtain ⟨x0, x1, -⟩ := hs
      have e0 : aF.eval (.tmp 31) = .bool D := x0
      have e1 : aF.eval (.tmp 36) = .bool D := x1
      refine opC_value (v := .bool true) ?_ ⟨rfl, below_same wF⟩
      have t0 := ev_of e0
      have t1 := ev_of e1
      simp [execOp, go_sem, t0, t1]
    refine ⟨step_free rfl (fun aF wF hs hb => ?_), ?_⟩
    · obtain ⟨x0, -⟩ := hs
      have e0 : aF.eval (.tmp 37) = .bool true := x0
      exact opC_move e0 ⟨rfl, below_same wF⟩
    refine ⟨step_yes 9 38 rfl rfl (fun _ _ h => h) (fun aF wF hs hb => ?_), ?_⟩
    · obtain ⟨x0, -⟩ := hs
      have e0 : aF.eval (.tmp 2) = .pointer (some ⟨p, 0, none⟩) := x0
      exact opC_load e0 (LP wF hb) ⟨rfl, below_same wF⟩
    refine ⟨step_yes 9 38 rfl rfl (fun _ _ h => h) (fun aF wF hs hb => ?_), ?_⟩
    · obtain ⟨x0, -⟩ := hs
      have e0 : aF.eval (.tmp 3) = .pointer (some ⟨q, 0, none⟩) := x0
      exact opC_load e0 (LQ wF hb) ⟨rfl, below_same wF⟩
    refine ⟨step_yes 9 38 rfl rfl (fun _ _ h => h) (fun aF wF hs hb => ?_), ?_⟩
    · obtain ⟨x0, x1, -⟩ := hs
      have e0 : aF.eval (.tmp 39) = .agg #[.int .u8 (k : Int), .int .u32 (a : Int), .int .u8 (K : Int), .int .i64 P, .int .u32 (R : Int), .int .u8 (B : Int), .int .i64 M, .int .i32 S, .int .i64 F, .int .i64 G, .int .u32 (s : Int), .int .i32 d, .int .u8 (ek : Int), .int .i64 m] := x0
      have e1 : aF.eval (.tmp 40) = .agg #[.int .u8 (k' : Int), .int .u32 (a' : Int), .int .u8 (K' : Int), .int .i64 P', .int .u32 (R' : Int), .int .u8 (B' : Int), .int .i64 M', .int .i32 S', .int .i64 F', .int .i64 G', .int .u32 (s' : Int), .int .i32 d', .int .u8 (ek' : Int), .int .i64 m'] := x1
      refine opC_value (v := .bool D) ?_ ⟨rfl, below_same wF⟩
      simp [execOp, go_sem, ev_of e0, ev_of e1, cE]
    refine ⟨step_yes 9 38 rfl rfl (fun _ _ h => h) (fun aF wF hs hb => ?_), ?_⟩
    · obtain ⟨x0, -⟩ := hs
      have e0 : aF.eval (.tmp 2) = .pointer (some ⟨p, 0, none⟩) := x0
      exact opC_load e0 (LP wF hb) ⟨rfl, below_same wF⟩
    refine ⟨step_yes 9 38 rfl rfl (fun _ _ h => h) (fun aF wF hs hb => ?_), ?_⟩
    · obtain ⟨x0, -⟩ := hs
      have e0 : aF.eval (.tmp 42) = .agg #[.int .u8 (k : Int), .int .u32 (a : Int), .int .u8 (K : Int), .int .i64 P, .int .u32 (R : Int), .int .u8 (B : Int), .int .i64 M, .int .i32 S, .int .i64 F, .int .i64 G, .int .u32 (s : Int), .int .i32 d, .int .u8 (ek : Int), .int .i64 m] := x0
      exact opC_call (args := #[.agg #[.int .u8 (k : Int), .int .u32 (a : Int), .int .u8 (K : Int), .int .i64 P, .int .u32 (R : Int), .int .u8 (B : Int), .int .i64 M, .int .i32 S, .int .i64 F, .int .i64 G, .int .u32 (s : Int), .int .i32 d, .int .u8 (ek : Int), .int .i64 m]]) (enters9 Tryz.func20 (by kernel_rfl) rfl) (by simp [e0]) (cT1 wF hb) (fun _ h => ⟨rfl, h⟩)
    refine ⟨step_yes 9 38 rfl rfl (fun _ _ h => h) (fun aF wF hs hb => ?_), ?_⟩
    · obtain ⟨x0, -⟩ := hs
      have e0 : aF.eval (.tmp 3) = .pointer (some ⟨q, 0, none⟩) := x0
      exact opC_load e0 (LQ wF hb) ⟨rfl, below_same wF⟩
    refine ⟨step_yes 9 38 rfl rfl (fun _ _ h => h) (fun aF wF hs hb => ?_), ?_⟩
    · obtain ⟨x0, -⟩ := hs
      have e0 : aF.eval (.tmp 44) = .agg #[.int .u8 (k' : Int), .int .u32 (a' : Int), .int .u8 (K' : Int), .int .i64 P', .int .u32 (R' : Int), .int .u8 (B' : Int), .int .i64 M', .int .i32 S', .int .i64 F', .int .i64 G', .int .u32 (s' : Int), .int .i32 d', .int .u8 (ek' : Int), .int .i64 m'] := x0
      exact opC_call (args := #[.agg #[.int .u8 (k' : Int), .int .u32 (a' : Int), .int .u8 (K' : Int), .int .i64 P', .int .u32 (R' : Int), .int .u8 (B' : Int), .int .i64 M', .int .i32 S', .int .i64 F', .int .i64 G', .int .u32 (s' : Int), .int .i32 d', .int .u8 (ek' : Int), .int .i64 m']]) (enters9 Tryz.func20 (by kernel_rfl) rfl) (by simp [e0]) (cT2 wF hb) (fun _ h => ⟨rfl, h⟩)
    refine ⟨step_yes 9 38 rfl rfl (fun _ _ h => h) (fun aF wF hs hb => ?_), ?_⟩
    · obtain ⟨x0, x1, -⟩ := hs
      have e0 : aF.eval (.tmp 43) = .string sx := x0
      have e1 : aF.eval (.tmp 45) = .string sy := x1
      refine opC_value (v := .bool D) ?_ ⟨rfl, below_same wF⟩
      simp [execOp, go_sem, ev_of e0, ev_of e1, cX]
    refine ⟨step_yes 9 38 rfl rfl (fun _ _ h => h) (fun aF wF hs hb => ?_), ?_⟩
    · obtain ⟨x0, x1, -⟩ := hs
      have e0 : aF.eval (.tmp 41) = .bool D := x0
      have e1 : aF.eval (.tmp 46) = .bool D := x1
      refine opC_value (v := .bool true) ?_ ⟨rfl, below_same wF⟩
      have t0 := ev_of e0
      have t1 := ev_of e1
      simp [execOp, go_sem, t0, t1]
    refine ⟨step_free rfl (fun aF wF hs hb => ?_), ?_⟩
    · obtain ⟨x0, x1, -⟩ := hs
      have e0 : aF.eval (.tmp 38) = .bool true := x0
      have e1 : aF.eval (.tmp 47) = .bool true := x1
      refine opC_value (v := .bool true) ?_ ⟨rfl, below_same wF⟩
      have t0 := ev_of e0
      have t1 := ev_of e1
      simp [execOp, go_sem, t0, t1]
    refine ⟨step_free rfl (fun aF wF hs hb => ?_), ?_⟩
    · obtain ⟨x0, -⟩ := hs
      have e0 : aF.eval (.tmp 48) = .bool true := x0
      exact opC_assign e0 ⟨rfl, below_same wF⟩
    exact trivial
  · intro f w6 hf hb6
    have h9 : f 20 = .bool true := hf 20 4 rfl
    have HB6 := Lib.hid (HB3.out.trans (hb6.mono HB3.out.size))
    simp only [putF, Act.put, List.setIfInBounds_toArray, List.set_cons_zero, List.set_cons_succ]
    rw [h9]
    clear hf h9 hb6 LP LQ cT1 cT2 cB1 cB2 cS cE cX
    go_wp2_with fail
    go_ret
    exact ⟨rfl, HB6.out⟩
theorem OApart_any (o p : Ord) (hi : o.In) (hj : p.In) (w : World) (hl : TLd w) : Calls Tryz.prog 5 #[o.v, p.v] w (Ret (.bool true) w) := by
  have kO1 := fun W => own20 o hi W
  have kO2 := fun W => own20 p hj W
  by_cases ho : o.Right
  · by_cases hp : p.Right
    · have kS1 := fun W => ORight_true ho W
      have kS2 := fun W => ORight_true hp W
      have cB1 := fun W => oBytesF hi ho W
      have cB2 := fun W => oBytesF hj hp W
      have kT1 := fun W h => OText_yes hi ho W h
      have kT2 := fun W h => OText_yes hj hp W h
      haveI := Classical.propDecidable (o = p)
      have cE := fun W => eqO o p W
      have hE : decide (layO o = layO p) = decide (o = p) := by
        rw [decide_eq_decide]
        exact ⟨fun h => layO_inj hi hj ho hp h, fun h => by rw [h]⟩
      have hl1 := layO_len hi ho
      have hl2 := layO_len hj hp
      have cX : (o.text.toList == p.text.toList) = decide (o = p) := by
        by_cases h : o = p
        · have h9 : o.text = p.text := congrArg Ord.text h
          rw [decide_eq_true h, h9, beq_self_eq_true]
        · rw [decide_eq_false h, beq_eq_false_iff_ne]
          intro e
          rw [Go.Lib.toList_data, Go.Lib.toList_data] at e
          exact h (otext_inj ho hp (ByteArray.ext (Array.toList_inj.1 e)))
      have cS : ∀ (A0 A1 : Option Addr) (c0 c1 : Nat) (W : World) (_ : Rd W W.heap.size A0 (layO o)) (_ : Rd W W.heap.size A1 (layO p)), Calls Tryz.prog 14 #[.slice A0 (layO o).length c0, .slice A1 (layO p).length c1] W fun e w' => e = .returned (.bool (decide (o = p))) ∧ Below W.heap.size W w' := fun A0 A1 c0 c1 W r0 r1 => (Same_any A0 A1 (layO o).length c0 W.heap.size (layO p).length c1 W.heap.size (layO o) (layO p) W r0 rfl (by unfold maxLen; omega) r1 rfl (by unfold maxLen; omega)).mono fun e w' hh => by rw [← hE]; exact below_all hh
      generalize decide (o = p) = D at *
      generalize layO o = L1 at *
      generalize layO p = L2 at *
      generalize o.text = sx at *
      generalize p.text = sy at *
      obtain ⟨k, a, ⟨K, P, R, B, M, S, F, G⟩, s, d, ek, m⟩ := o
      obtain ⟨k', a', ⟨K', P', R', B', M', S', F', G'⟩, s', d', ek', m'⟩ := p
      exact OApart_3 kS1 kS2 cB1 cB2 kT1 kT2 cS cE cX w hl
    · have kS1 := fun W => ORight_true ho W
      have kS2 := fun W => ORight_false hp W
      have kQ1 := fun W => RR_any o hi true (by simp [ho]) W
      have kQ2 := fun W => RR_any p hj false (by simp [hp]) W
      obtain ⟨k, a, ⟨K, P, R, B, M, S, F, G⟩, s, d, ek, m⟩ := o
      obtain ⟨k', a', ⟨K', P', R', B', M', S', F', G'⟩, s', d', ek', m'⟩ := p
      exact OApart_2 kS1 kS2 kO1 kO2 kQ1 kQ2 kS1 kS2 w hl
  · have kS1 := fun W => ORight_false ho W
    have kQ1 := fun W => RR_any o hi false (by simp [ho]) W
    by_cases hp : p.Right
    · have kS2 := fun W => ORight_true hp W
      have kQ2 := fun W => RR_any p hj true (by simp [hp]) W
      obtain ⟨k, a, ⟨K, P, R, B, M, S, F, G⟩, s, d, ek, m⟩ := o
      obtain ⟨k', a', ⟨K', P', R', B', M', S', F', G'⟩, s', d', ek', m'⟩ := p
      exact OApart_1 kS1 kO1 kO2 kQ1 kQ2 kS1 kS2 w hl
    · have kS2 := fun W => ORight_false hp W
      have kQ2 := fun W => RR_any p hj false (by simp [hp]) W
      obtain ⟨k, a, ⟨K, P, R, B, M, S, F, G⟩, s, d, ek, m⟩ := o
      obtain ⟨k', a', ⟨K', P', R', B', M', S', F', G'⟩, s', d', ek', m'⟩ := p
      exact OApart_1 kS1 kO1 kO2 kQ1 kQ2 kS1 kS2 w hl
end Go.Proofs.YtjlajnackecfgaaGreatDoor
