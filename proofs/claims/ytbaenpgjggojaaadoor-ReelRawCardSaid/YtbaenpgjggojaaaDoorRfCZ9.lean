/-
The references' Join. Conditions: the bytes are there, and not more than memory bears.
The reference's Word. Conditions: a number of 32 bits.
The reference's Check is the program's: bit by bit. Conditions: the bytes are there.
-/
import Derived.Test.YtbaenpgjggojaaaDoorSameRZ9
import Derived.Test.YtbaenpgjggojaaaDoorFrmZ9
namespace Go.Proofs.YtbaenpgjggojaaaDoor
open Go.RowKit

/-- A slice's parts: its address, its capacity, its bytes. -/
structure Seg where
  at_ : Option Addr
  cap : Nat
  l : List UInt8
def Seg.val (g : Seg) : Value := .slice g.at_ g.l.length g.cap
def glue : List Seg → List UInt8
  | [] => []
  | g :: gs => g.l ++ glue gs
theorem glue_snoc (gs : List Seg) (g : Seg) : glue (gs ++ [g]) = glue gs ++ g.l := by
  induction gs with
  | nil => simp [glue]
  | cons x gs ih => simp [glue, ih]
theorem glue_take (gs : List Seg) (k : Nat) (hk : k < gs.length) : glue (gs.take (k + 1)) = glue (gs.take k) ++ (gs[k]).l := by
  rw [List.take_succ_eq_append_getElem hk, glue_snoc]
theorem glue_take_le (gs : List Seg) (k : Nat) : (glue (gs.take k)).length ≤ (glue gs).length := by
  induction gs generalizing k with
  | nil => simp [glue]
  | cons g gs ih =>
    cases k with
    | zero => simp [glue]
    | succ k =>
      have := ih k
      simp only [List.take_succ_cons, glue, List.length_append]
      omega
/-- The cells of a slice of slices of bytes. -/
def Segs (w : World) (B b o : Nat) (gs : List Seg) : Prop := ∀ (j : Nat) g, gs[j]? = some g → w.cell? ⟨b, o + j, none⟩ = some (.slice g.at_ g.l.length g.cap) ∧ Rd w B g.at_ g.l

def OwnPost (B : Nat) (w : World) (l : List UInt8) (e : Ending) (w' : World) : Prop := ∃ v, e = .returned v ∧ OwnB w' B v l.length l ∧ Below B w w'
theorem OwnPost.cut {B : Nat} {w w' : World} {l : List UInt8} {e : Ending} (h : OwnPost B w l e w') : CutPost B w l e w' := by
  obtain ⟨v, rfl, ho, hb⟩ := h
  obtain ⟨hl, A', c', hv, hc1, hc2, hrd⟩ := own_form ho
  exact ⟨A', c', by rw [← hv], hc1, hc2, hrd, hb⟩

set_option maxHeartbeats 1000000 in
theorem Join_own (b o c B : Nat) (gs : List Seg) (n : Nat) (w : World) (hS : Segs w B b o gs) (hbB : b < B) (hB : B ≤ w.heap.size) (hn : gs.length = n) (hnm : n ≤ 140737488355328) (hm : (glue gs).length ≤ 140737488355328) :
    Calls Tryd.prog 59 #[.slice (some ⟨b, o, none⟩) n c] w (OwnPost w.heap.size w (glue gs)) := by
  subst hn
  go_enter Tryd.func59, Tryd.ntmps59
  go_wp2
  go_loopw [3, 8] (fun v i wr => ∃ k : Nat, k ≤ gs.length ∧ i = .int .i64 k ∧ OwnB wr w.heap.size v (glue (gs.take k)).length (glue (gs.take k)) ∧ Below w.heap.size w wr) (fun _ i _ => gs.length - (intOf i).toNat)
  case atStart => exact ⟨0, Nat.zero_le _, rfl, OwnB.nil_ _ _, Below.refl _ _⟩
  case round =>
    obtain ⟨k, hk, rfl, hown, hbl⟩ := hrel
    have hsz := hbl.size
    by_cases hlt : k < gs.length
    · obtain ⟨hc0, hr0⟩ := hS k _ (List.getElem?_eq_getElem hlt)
      have hc := (hbl.cell (p := ⟨b, o + k, none⟩) (by exact Nat.lt_of_lt_of_le hbB hB)).trans hc0
      have hr := Lib.hid ((hr0.more hB).below hbl)
      have HT := Lib.hid (glue_take gs k hlt)
      have hle := glue_take_le gs (k + 1)
      rw [HT.out, List.length_append] at hle
      have HO := Lib.hid hown
      clear hown hr0 hc0
      generalize glue (gs.take k) = sofar at HT HO hle
      generalize gs[k] = g at hc hr HT hle
      go_wp2_with (with_reducible refine wpList_append_bytes (o := ⟨some 14, _, _, _, _, _⟩) rfl (.tmp 12) (.tmp 13) rfl w.heap.size _ sofar.length sofar ?h1 HO.out w.heap.size g.at_ g.l.length g.cap g.l ?h2 hr.out rfl ?h3 hsz ?_)
      case h1 => rfl
      case h2 => rfl
      case h3 => omega
      intro v' w1 hown' hg
      have hbl' := hg.below HO.out hbl (Nat.le_refl _) hsz
      have HO' := Lib.hid hown'
      clear hown' hg
      go_wp2
      go_roundw
      case rel => exact ⟨k + 1, by omega, by go_num, by rw [HT.out, List.length_append]; exact HO'.out, hbl'⟩
      case measure => simp [intOf]; omega
    · obtain rfl : k = gs.length := by omega
      rw [List.take_of_length_le (Nat.le_refl _)] at hown
      have HO := Lib.hid hown
      clear hown
      go_wp2
      go_ret
      exact ⟨_, rfl, HO.out, hbl⟩
theorem Join_any (b o c B : Nat) (gs : List Seg) (n : Nat) (w : World) (hS : Segs w B b o gs) (hbB : b < B) (hB : B ≤ w.heap.size) (hn : gs.length = n) (hnm : n ≤ 140737488355328) (hm : (glue gs).length ≤ 140737488355328) :
    Calls Tryd.prog 59 #[.slice (some ⟨b, o, none⟩) n c] w (CutPost w.heap.size w (glue gs)) := (Join_own b o c B gs n w hS hbB hB hn hnm hm).mono fun _ _ h => h.cut

theorem seg_rd {w : World} {B : Nat} {A : Option Addr} {l : List UInt8} (h : Rd w B A l) (hB : B ≤ w.heap.size) (o : Obj) : Rd (w.alloc o) (w.heap.size + 1) A l := (h.alloc hB o).more (by omega)
/-- Join of two. -/
theorem Join_two (A1 A2 : Option Addr) (n1 n2 c1 c2 B1 B2 : Nat) (l1 l2 : List UInt8) (w : World) (h1 : Rd w B1 A1 l1) (hB1 : B1 ≤ w.heap.size) (h2 : Rd w B2 A2 l2) (hB2 : B2 ≤ w.heap.size) (hn1 : l1.length = n1) (hn2 : l2.length = n2) (hm : n1 + n2 ≤ 140737488355328) :
    Calls Tryd.prog 59 #[.slice (some ⟨w.heap.size, 0, none⟩) 2 2] (w.alloc (.cells #[.slice A1 n1 c1, .slice A2 n2 c2] 23)) (CutPost w.heap.size w (l1 ++ l2)) := by
  subst hn1 hn2
  have h := Join_any w.heap.size 0 2 (w.heap.size + 1) [⟨A1, c1, l1⟩, ⟨A2, c2, l2⟩] 2 (w.alloc (.cells #[.slice A1 l1.length c1, .slice A2 l2.length c2] 23)) (fun j g hg => by
      rcases j with _ | _ | j
      · simp only [List.getElem?_cons_zero, Option.some.injEq] at hg
        subst hg
        exact ⟨by simp [go_sem], seg_rd h1 hB1 _⟩
      · simp only [List.getElem?_cons_succ, List.getElem?_cons_zero, Option.some.injEq] at hg
        subst hg
        exact ⟨by simp [go_sem], seg_rd h2 hB2 _⟩
      · simp at hg) (by omega) (by simp) rfl (by decide) (by simp [glue]; omega)
  refine h.mono fun e w' hp => ?_
  obtain ⟨A, c, he, hc1, hc2, hr, hb⟩ := hp
  have e1 : glue [⟨A1, c1, l1⟩, ⟨A2, c2, l2⟩] = l1 ++ l2 := by simp [glue]
  rw [e1] at he hc1 hr
  exact ⟨A, c, he, hc1, hc2, hr, ((Below.refl _ w).alloc (Nat.le_refl _) _).trans (hb.mono (by simp))⟩
/-- Join of one. -/
theorem Join_one_own (A1 : Option Addr) (n1 c1 B1 : Nat) (l1 : List UInt8) (w : World) (h1 : Rd w B1 A1 l1) (hB1 : B1 ≤ w.heap.size) (hn1 : l1.length = n1) (hm : n1 ≤ 140737488355328) :
    Calls Tryd.prog 59 #[.slice (some ⟨w.heap.size, 0, none⟩) 1 1] (w.alloc (.cells #[.slice A1 n1 c1] 23)) (OwnPost w.heap.size w l1) := by
  subst hn1
  have h := Join_own w.heap.size 0 1 (w.heap.size + 1) [⟨A1, c1, l1⟩] 1 (w.alloc (.cells #[.slice A1 l1.length c1] 23)) (fun j g hg => by
      rcases j with _ | j
      · simp only [List.getElem?_cons_zero, Option.some.injEq] at hg
        subst hg
        exact ⟨by simp [go_sem], seg_rd h1 hB1 _⟩
      · simp at hg) (by omega) (by simp) rfl (by decide) (by simp [glue]; omega)
  refine h.mono fun e w' hp => ?_
  obtain ⟨v, he, ho, hb⟩ := hp
  have e1 : glue [⟨A1, c1, l1⟩] = l1 := by simp [glue]
  rw [e1] at ho
  refine ⟨v, he, ⟨ho.1, ?_⟩, ((Below.refl _ w).alloc (Nat.le_refl _) _).trans (hb.mono (by simp))⟩
  rcases ho.2 with h | ⟨g, cap, cur, ha, hg, hr⟩
  · exact .inl h
  · refine .inr ⟨g, cap, cur, ha, ?_, hr⟩
    have : (w.alloc (.cells #[.slice A1 l1.length c1] 23)).heap.size = w.heap.size + 1 := by simp
    omega
theorem Join_one (A1 : Option Addr) (n1 c1 B1 : Nat) (l1 : List UInt8) (w : World) (h1 : Rd w B1 A1 l1) (hB1 : B1 ≤ w.heap.size) (hn1 : l1.length = n1) (hm : n1 ≤ 140737488355328) :
    Calls Tryd.prog 59 #[.slice (some ⟨w.heap.size, 0, none⟩) 1 1] (w.alloc (.cells #[.slice A1 n1 c1] 23)) (CutPost w.heap.size w l1) := (Join_one_own A1 n1 c1 B1 l1 w h1 hB1 hn1 hm).mono fun _ _ h => h.cut
end Go.Proofs.YtbaenpgjggojaaaDoor
namespace Go.Proofs.YtbaenpgjggojaaaDoor
open Go.RowKit

/-- Four bytes in a block of their own. -/
theorem four_rdR (w : World) (a b c d : UInt8) : Rd (w.alloc (.cells #[.int .u8 (a.toNat : Int), .int .u8 (b.toNat : Int), .int .u8 (c.toNat : Int), .int .u8 (d.toNat : Int)] 5)) (w.heap.size + 1) (some ⟨w.heap.size, 0, none⟩) [a, b, c, d] := fun _ =>
  ⟨w.heap.size, 0, rfl, by omega, fun j u hu => by
    rcases j with _ | _ | _ | _ | j
    all_goals first
      | (simp only [List.getElem?_cons_zero, List.getElem?_cons_succ, Option.some.injEq] at hu; subst hu; simp [go_sem]; done)
      | (simp at hu; done)⟩

set_option maxHeartbeats 1000000 in
theorem Word_any (n : Nat) (w : World) (hn : n < 4294967296) : Calls Tryd.prog 31 #[.int .u64 n] w (CutPost w.heap.size w (Crc.wrd n)) := by
  have h0 : ((UInt8.ofNat n).toNat : Int) = (n : Int) % 256 := by rw [Crc.ofNat_toNat]; omega
  have h1 : ((UInt8.ofNat (n / 256)).toNat : Int) = (n : Int) / 256 % 256 := by rw [Crc.ofNat_toNat]; omega
  have h2 : ((UInt8.ofNat (n / 65536)).toNat : Int) = (n : Int) / 65536 % 256 := by rw [Crc.ofNat_toNat]; omega
  have h3 : ((UInt8.ofNat (n / 16777216)).toNat : Int) = (n : Int) / 16777216 % 256 := by rw [Crc.ofNat_toNat]; omega
  have HR := Lib.hid (four_rdR w (UInt8.ofNat n) (UInt8.ofNat (n / 256)) (UInt8.ofNat (n / 65536)) (UInt8.ofNat (n / 16777216)))
  rw [h0, h1, h2, h3] at HR
  clear h0 h1 h2 h3
  go_enter Tryd.func31, Tryd.ntmps31
  go_wp2
  go_ret
  refine ⟨some ⟨w.heap.size, 0, none⟩, 4, rfl, by rw [Crc.wrd_length]; decide, by decide, ?_, (Below.refl _ w).alloc (Nat.le_refl _) _⟩
  exact HR.out.more (by simp)

theorem xor_onesR (d : Nat) (hd : d < 4294967296) : 4294967295 ^^^ d = 4294967295 - d := by
  have e : (4294967295 : Nat) - d = 2 ^ 32 - (d + 1) := by omega
  apply Nat.eq_of_testBit_eq
  intro i
  rw [e, Nat.testBit_two_pow_sub_succ hd, Nat.testBit_xor, show (4294967295 : Nat) = 2 ^ 32 - 1 from rfl, Nat.testBit_two_pow_sub_one]
  rcases Nat.lt_or_ge i 32 with h | h
  · simp [h]
  · have : d.testBit i = false := Nat.testBit_lt_two_pow (Nat.lt_of_lt_of_le hd (Nat.pow_le_pow_right (n := 2) (by decide) h))
    simp [this, show ¬ i < 32 by omega]

/-- The reference's register behind i of a byte's bits. -/
def bitRf (X b i : Nat) : Nat := Crc.stpN i X ^^^ b / 2 ^ i
theorem bitRf_lt {X b i : Nat} (hX : X < 4294967296) (hb : b < 256) : bitRf X b i < 4294967296 :=
  Crc.xor_lt (Crc.stpN_lt i hX) (Nat.lt_of_le_of_lt (Nat.div_le_self ..) (by omega))
theorem bitRf_end (X b : Nat) (hb : b < 256) : bitRf X b 8 = Crc.stpN 8 X := by
  unfold bitRf
  rw [show b / 2 ^ 8 = 0 from by omega, Nat.xor_zero]
theorem xor_halfR (a b : Nat) : (a ^^^ b) / 2 = a / 2 ^^^ b / 2 := by
  have := Nat.xor_div_two_pow (a := a) (b := b) (n := 1)
  simpa using this
theorem xor_oddR (a b : Nat) : (a ^^^ b) % 2 = (a % 2 + b % 2) % 2 := by
  have := Nat.xor_mod_two_pow (a := a) (b := b) (n := 1)
  rw [show (2 : Nat) ^ 1 = 2 from rfl] at this
  rw [this]
  rcases Nat.mod_two_eq_zero_or_one a with ha | ha <;> rcases Nat.mod_two_eq_zero_or_one b with hb | hb <;> simp [ha, hb]
/-- One bit: whether the polynomial comes in, and what is left. -/
theorem bitRf_odd (X b i : Nat) : (bitRf X b i % 2 + b / 2 ^ i) % 2 = Crc.stpN i X % 2 := by
  unfold bitRf
  rw [xor_oddR]
  omega
theorem bitRf_next (X b i : Nat) : bitRf X b (i + 1) = if Crc.stpN i X % 2 = 1 then bitRf X b i / 2 ^^^ 3988292384 else bitRf X b i / 2 := by
  unfold bitRf
  rw [Crc.stpN_succ', xor_halfR, Nat.div_div_eq_div_mul, ← Nat.pow_succ]
  unfold Crc.stp
  split
  · simp [Nat.xor_comm, Crc.xor_lc]
  · simp
end Go.Proofs.YtbaenpgjggojaaaDoor
namespace Go.Proofs.YtbaenpgjggojaaaDoor
open Go.RowKit

theorem all_appendR (s : Nat) (l : List UInt8) : Crc.dvd (Crc.dvd 4294967295 (Crc.wrd s)) l = Crc.dvd 4294967295 (Crc.wrd s ++ l) := (Crc.dvd_append _ _ _).symm

theorem poly_walkR {y : Nat} (hy : y < 4294967296) : bits .xor .u64 ((y : Int) / 2) 3988292384 = ((y / 2 ^^^ 3988292384 : Nat) : Int) := by
  rw [u64_xor _ _ (by omega) (by omega) (by omega) (by omega)]
  have e : ((y : Int) / 2).toNat = y / 2 := by omega
  rw [e]
  rfl

set_option maxHeartbeats 2000000 in
theorem RefCheck_any (s : Nat) (A : Option Addr) (n c B : Nat) (l : List UInt8) (w : World) (hs : s < 4294967296) (hR : Rd w B A l) (hB : B ≤ w.heap.size) (hn : l.length = n) (hm : n ≤ 1000000) :
    Calls Tryd.prog 30 #[.int .u32 s, .slice A n c] w fun e w' => e = .returned (.int .u32 (Crc.chk s l : Nat)) ∧ Below w.heap.size w w' := by
  have HN := Lib.hid hn
  clear hn
  have HR := Lib.hid hR
  clear hR
  go_enter Tryd.func30, Tryd.ntmps30
  go_wp2_with fail
  refine (Word_any s _ hs).mono ?_
  rintro e w1 ⟨A1, c1, rfl, _, _, h1r, h1w⟩
  rw [Crc.wrd_length]
  have H1r := Lib.hid h1r
  have HR1 := Lib.hid (HR.out.below (h1w.mono hB))
  have hs1 := h1w.size
  clear h1r
  go_wp2_with fail
  refine (Join_two _ _ 4 n _ _ _ _ _ _ w1 H1r.out (Nat.le_refl _) HR1.out (by omega) rfl HN.out (by omega)).mono ?_
  rintro e w2 ⟨A2, c2, rfl, _, _, h2r, h2w⟩
  have hb2 := h1w.trans (h2w.mono h1w.size)
  have hjl : (Crc.wrd s ++ l).length = 4 + n := by rw [List.length_append, Crc.wrd_length, HN.out]
  have HE : Hid (Crc.chk s l = 4294967295 ^^^ Crc.dvd 4294967295 (Crc.wrd s ++ l)) := Lib.hid (by rw [← all_appendR]; rfl)
  rw [hjl]
  clear h1w h2w hs1
  generalize Crc.wrd s ++ l = q at h2r hjl HE
  obtain ⟨m, hqm⟩ : ∃ m, m = 4 + n := ⟨_, rfl⟩
  rw [← hqm] at hjl ⊢
  have hm2 : m ≤ 2000000 := by omega
  have HJ := Lib.hid hjl
  have HQ := Lib.hid h2r
  clear hqm hjl h2r
  go_wp2_with fail
  go_loop [5, 17] (fun t i => ∃ k : Nat, k ≤ m ∧ i = .int .i64 k ∧ t = .int .u64 (Crc.dvd 4294967295 (q.take k) : Nat)) (fun _ i => m - (intOf i).toNat)
  case atStart => exact ⟨0, Nat.zero_le _, rfl, rfl⟩
  case round =>
    obtain ⟨k, hk, rfl, rfl⟩ := hrel
    by_cases hlt : k < m
    · have hkq : k < q.length := by rw [HJ.out]; exact hlt
      obtain ⟨b, o, rfl, _, hc⟩ := HQ.out.at_ hkq
      have hd := Crc.dvd_lt (q.take k) (show 4294967295 < 4294967296 by decide)
      have hu := Crc.u8_lt q[k]
      have HS := Lib.hid (Crc.dvd_take 4294967295 q k hkq)
      generalize (q[k]).toNat = x at hc hu HS
      generalize Crc.dvd 4294967295 (q.take k) = D at hd HS ⊢
      have hX := Crc.xor_lt hd (show x < 4294967296 by omega)
      have HX0 : Hid (D = bitRf (D ^^^ x) x 0) := Lib.hid (by unfold bitRf; simp [Crc.stpN, Nat.xor_assoc])
      generalize D ^^^ x = X at hX HX0 HS
      go_wp2_with fail
      go_loop [5, 8] (fun t i => ∃ j : Nat, j ≤ 8 ∧ i = .int .i64 j ∧ t = .int .u64 (bitRf X x j : Nat)) (fun _ i => 8 - (intOf i).toNat)
      case atStart => exact ⟨0, Nat.zero_le _, rfl, by rw [← HX0.out]⟩
      case round =>
        obtain ⟨j, hj, rfl, rfl⟩ := hrel
        by_cases hjl : j < 8
        · have hy := bitRf_lt (i := j) hX hu
          have hodd := bitRf_odd X x j
          have HB := Lib.hid (bitRf_next X x j)
          have hxj : x / 2 ^ j ≤ x := Nat.div_le_self ..
          have e1 : ((x / 2 ^ j : Nat) : Int) = (x : Int) / 2 ^ j := by simp
          by_cases hb : Crc.stpN j X % 2 = 1
          · rw [hb] at hodd
            rw [if_pos hb] at HB
            generalize bitRf X x j = y at hy hodd HB ⊢
            generalize x / 2 ^ j = z at hodd hxj e1
            have hod : ((y : Int) % 2 + (x : Int) / 2 ^ j) % 2 = 1 := by rw [← e1]; omega
            have hz2 : (x : Int) / 2 ^ j ≤ 255 := by rw [← e1]; omega
            have hz3 : 0 ≤ (x : Int) / 2 ^ j := by rw [← e1]; omega
            clear e1 hodd
            have HP := Lib.hid (poly_walkR hy)
            go_wp2_with fail
            go_round
            case rel => exact ⟨j + 1, by omega, by go_num, by rw [HB.out, ← HP.out]⟩
            case measure => simp [intOf]; omega
          · rw [if_neg hb] at HB
            generalize bitRf X x j = y at hy hodd HB ⊢
            generalize x / 2 ^ j = z at hodd hxj e1
            have hod : ((y : Int) % 2 + (x : Int) / 2 ^ j) % 2 = 0 := by rw [← e1]; omega
            have hz2 : (x : Int) / 2 ^ j ≤ 255 := by rw [← e1]; omega
            have hz3 : 0 ≤ (x : Int) / 2 ^ j := by rw [← e1]; omega
            clear e1 hodd
            go_wp2_with fail
            go_round
            case rel => exact ⟨j + 1, by omega, by go_num, by rw [HB.out]; simp⟩
            case measure => simp [intOf]; omega
        · obtain rfl : j = 8 := by omega
          have HE8 := Lib.hid (bitRf_end X x hu)
          go_wp2_with fail
          go_round
          case rel => exact ⟨k + 1, by omega, by go_num, by rw [HS.out, HE8.out]⟩
          case measure => simp [intOf]; omega
    · obtain rfl : k = m := by omega
      rw [List.take_of_length_le (by rw [HJ.out]; exact Nat.le_refl _)]
      have hd := Crc.dvd_lt q (show 4294967295 < 4294967296 by decide)
      have HF : Hid (Crc.chk s l = 4294967295 - Crc.dvd 4294967295 q) := Lib.hid (by rw [HE.out, xor_onesR _ hd])
      generalize Crc.dvd 4294967295 q = D at hd HF ⊢
      go_wp2_with fail
      go_ret
      refine ⟨?_, hb2⟩
      rw [HF.out]
      exact congrArg (fun z : Int => Ending.returned (.int .u32 z)) (show 4294967295 - (D : Int) = ((4294967295 - D : Nat) : Int) by omega)
end Go.Proofs.YtbaenpgjggojaaaDoor
