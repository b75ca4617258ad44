/-
  QuillOrders: the walk. Conditions: the numbers' kinds.
-/
import Derived.Test.YtbfekonlgbolcabQOM
import Derived.Lib.AtoiErrMem
import Derived.Deep.RegionWith
import Derived.Deep.CutBlock
namespace Go.Proofs.Ytbfekonlgbolcab
open Go.RowKit

theorem conv_at {w w' : World} {g : Nat} {A : Option Addr} {l : List UInt8} {n : Nat} {X : ByteArray} (h : Hid (Rg w g A l)) (hb : Below w.heap.size w w') (hn : l.length = n) (hX : (⟨l.toArray⟩ : ByteArray) = X) : (convert 24 9 (.slice A n n)).run Try.prog w' = .ok (.string X) w' := by
  rw [← hX]
  exact conv_rg (h.out.below hb) hn

theorem bytes_rdW (w : World) (e : TypeId) (s : ByteArray) : Rd (Lib.bytesWorld w e s) (Lib.bytesWorld w e s).heap.size (some ⟨w.heap.size, 0, none⟩) s.data.toList := fun _ =>
  ⟨w.heap.size, 0, rfl, by rw [Lib.bytesWorld_size]; omega, fun j u hu => by
    have hj := (List.getElem?_eq_some_iff.1 hu).1
    rw [Nat.zero_add, Lib.bytesWorld_cell w e s j (by simpa using hj), List.getD, hu, Option.getD_some]⟩
theorem layN_le (m n : Nat) (hn : n < 18446744073709551616) : (layN m n).length ≤ 9 := by
  unfold layN
  have := nb_le n hn
  rw [List.length_cons, digs_len]
  omega
theorem layI_le (i : Int) (hi : -9223372036854775808 ≤ i ∧ i ≤ 9223372036854775807) : (layI i).length ≤ 9 := by
  unfold layI
  split <;> exact layN_le _ _ (by omega)

set_option maxRecDepth 20000 in
set_option maxHeartbeats 16000000 in
theorem QOrders_any (a b : Nat) (i : Int) (ha : a < 18446744073709551616) (hb : b < 18446744073709551616) (hi : -9223372036854775808 ≤ i ∧ i ≤ 9223372036854775807) (w : World) :
    Calls Try.prog 3 #[.int .u64 (a : Int), .int .u64 (b : Int), .int .i64 i] w fun e w' => e = .returned (.bool true) ∧ Below w.heap.size w w' := by
  go_enter Try.func3, Try.ntmps3
  go_wp2_with fail
  refine (awake8 _).mono ?_
  rintro e w1 ⟨rfl, hb1⟩
  have HB1 := Lib.hid hb1
  clear hb1
  go_wp2_with fail
  obtain ⟨W3, hW3⟩ : ∃ W, ((w1.alloc (.cells #[.slice none 0 0] 26)).alloc (.cells #[.slice none 0 0] 26)).alloc (.cells #[.slice none 0 0] 26) = W := ⟨_, rfl⟩
  obtain ⟨B, hB⟩ : ∃ B, w1.heap.size = B := ⟨_, rfl⟩
  have z1 : (w1.alloc (.cells #[.slice none 0 0] 26)).heap.size = B + 1 := by simp [hB]
  have z2 : ((w1.alloc (.cells #[.slice none 0 0] 26)).alloc (.cells #[.slice none 0 0] 26)).heap.size = B + 1 + 1 := by simp [hB]
  have hq3 : Qu W3 B B none [] := by
    have h0 := Qu.new (w := w1) (B := B) (by omega)
    rw [hB] at h0
    rw [← hW3]
    exact (h0.below ((Below.refl _ _).alloc (Nat.le_refl _) _)).below ((Below.refl _ _).alloc (Nat.le_refl _) _)
  have hr3 : Qu W3 B (B + 1) none [] := by
    have h0 := Qu.new (w := w1.alloc (.cells #[.slice none 0 0] 26)) (B := B) (by omega)
    rw [z1] at h0
    rw [← hW3]
    exact h0.below ((Below.refl _ _).alloc (Nat.le_refl _) _)
  have hs3 : Qu W3 B (B + 1 + 1) none [] := by
    have h0 := Qu.new (w := (w1.alloc (.cells #[.slice none 0 0] 26)).alloc (.cells #[.slice none 0 0] 26)) (B := B) (by omega)
    rw [z2] at h0
    rw [← hW3]
    exact h0
  have hb3 : Below w.heap.size w W3 := by
    rw [← hW3]
    have := HB1.out.size
    exact ((HB1.out.alloc HB1.out.size _).alloc (by simp; omega) _).alloc (by simp; omega) _
  have HQ3 : Hid (Qu W3.drew B B none []) := Lib.hid hq3
  have HR3 : Hid (Qu W3.drew B (B + 1) none []) := Lib.hid hr3
  have HS3 : Hid (Qu W3.drew B (B + 1 + 1) none []) := Lib.hid hs3
  have HB3 : Hid (Below w.heap.size w W3.drew) := Lib.hid hb3.drew
  have hB0 : w.heap.size ≤ B := by rw [← hB]; exact HB1.out.size
  obtain ⟨LA, hLA⟩ : ∃ l, layN 0 a = l := ⟨_, rfl⟩
  obtain ⟨LC, hLC⟩ : ∃ l, layN 0 b = l := ⟨_, rfl⟩
  obtain ⟨LI, hLI⟩ : ∃ l, layI i = l := ⟨_, rfl⟩
  have hla : LA.length ≤ 1000000 := by rw [← hLA]; exact Nat.le_trans (layN_le 0 a ha) (by decide)
  have hlb : LC.length ≤ 1000000 := by rw [← hLC]; exact Nat.le_trans (layN_le 0 b hb) (by decide)
  have hli : LI.length ≤ 1000000 := by rw [← hLI]; exact Nat.le_trans (layI_le i hi) (by decide)
  obtain ⟨XA, hXA⟩ : ∃ X : ByteArray, (⟨LA.toArray⟩ : ByteArray) = X := ⟨_, rfl⟩
  obtain ⟨XB, hXB⟩ : ∃ X : ByteArray, (⟨LC.toArray⟩ : ByteArray) = X := ⟨_, rfl⟩
  have H1 := Lib.hid (QUint_any B B none [] a ha (by simp) W3.drew HQ3.out)
  rw [List.nil_append, hLA] at H1
  have HC3 := fun W (h : Qu W B (B + 1) none []) => QUint_any B (B + 1) none [] b hb (by simp) W h
  have HC5 := fun W (h : Qu W B (B + 1 + 1) none []) => QInt_any B (B + 1 + 1) none [] i hi (by simp) W h
  rw [List.nil_append, hLC] at HC3
  rw [List.nil_append, hLI] at HC5
  have HC3 := Lib.hid HC3
  have HC5 := Lib.hid HC5
  have HXA := Lib.hid hXA
  have HXB := Lib.hid hXB
  have HLA := Lib.hid hLA
  have HLC := Lib.hid hLC
  have HLI := Lib.hid hLI
  rw [hW3, hB]
  clear hW3 hq3 hr3 hs3 hb3 z1 z2 HB1 hB hLA hLC hLI hXA hXB HQ3
  go_cut [10, 11, 12] from 15 to 25 (fun x y z wx => ∃ A g, x = .string XA ∧ y = .string XB ∧ z = .slice A LI.length LI.length ∧ (A = none → LI.length = 0) ∧ Rg wx g A LI ∧ Below w.heap.size w wx)
  case first =>
    go_region_with ((first
      | (go_at_call 6; refine H1.out.mono ?_; rintro e w4 ⟨rfl, ⟨rq, hq4, -⟩, hf4⟩; have HR4 := Lib.hid (HR3.out.past hf4 (by omega) (by simp) (by simp) (Or.inl rfl)); have HS4 := Lib.hid (HS3.out.past hf4 (by omega) (by simp) (by simp) (Or.inl rfl)); have HB4 := Lib.hid (hf4.to_below HB3.out HB3.out.size hB0 (fun g hg => nomatch hg)); have hz4 := hq4.lt; have H2 := Lib.hid (QDone_any B B rq LA hla w4 hq4); clear H1 hq4 hf4)
      | (go_at_call 7; refine H2.out.mono ?_; rintro e w5 ⟨⟨A1, g1, rfl, -, hg1, hrg1⟩, hb5⟩; have HX5 := Lib.hid hrg1; have HR5 := Lib.hid (HR4.out.below hb5); have HS5 := Lib.hid (HS4.out.below hb5); have HB5 := Lib.hid (HB4.out.trans (hb5.mono HB4.out.size)); have hr4 := HR4.out.lt; have hs4 := HS4.out.lt; have cx := conv_at HX5 (Below.refl _ _) rfl HXA.out; have H3 := Lib.hid (HC3.out w5 HR5.out); clear H2 hrg1 hb5)
      | (go_at_call 6; refine H3.out.mono ?_; rintro e w6 ⟨rfl, ⟨rr, hq6, -⟩, hf6⟩; have HS6 := Lib.hid (HS5.out.past hf6 (by omega) (by simp) (by simp) (Or.inl rfl)); have HX6 := Lib.hid (HX5.out.past hf6 (by omega) (by simp)); have HB6 := Lib.hid (hf6.to_below HB5.out HB5.out.size (by omega) (fun g hg => nomatch hg)); have cx := conv_at HX6 (Below.refl _ _) rfl HXA.out; have H4 := Lib.hid (QDone_any B (B + 1) rr LC hlb w6 hq6); have hz6 := hf6.2.2.2.1; clear H3 hq6 hf6)
      | (go_at_call 7; refine H4.out.mono ?_; rintro e w7 ⟨⟨A2, g2, rfl, -, hg2, hrg2⟩, hb7⟩; have HY7 := Lib.hid hrg2; have HX7 := Lib.hid (HX6.out.below hb7); have HS7 := Lib.hid (HS6.out.below hb7); have HB7 := Lib.hid (HB6.out.trans (hb7.mono HB6.out.size)); have hs6 := HS6.out.lt; have cx := conv_at HX7 (Below.refl _ _) rfl HXA.out; have cy := conv_at HY7 (Below.refl _ _) rfl HXB.out; have H5 := Lib.hid (HC5.out w7 HS7.out); clear H4 hrg2 hb7)
      | (go_at_call 8; refine H5.out.mono ?_; rintro e w8 ⟨rfl, ⟨rs, hq8, -⟩, hf8⟩; have HX8 := Lib.hid (HX7.out.past hf8 (by omega) (by simp)); have HY8 := Lib.hid (HY7.out.past hf8 (by omega) (by simp)); have HB8 := Lib.hid (hf8.to_below HB7.out HB7.out.size (by omega) (fun g hg => nomatch hg)); have cx := conv_at HX8 (Below.refl _ _) rfl HXA.out; have cy := conv_at HY8 (Below.refl _ _) rfl HXB.out; have H6 := Lib.hid (QDone_any B (B + 1 + 1) rs LI hli w8 hq8); clear H5 hq8 hf8)
      | (go_at_call 7; refine H6.out.mono ?_; rintro e w9 ⟨⟨A3, g3, rfl, hA3, hg3, hrg3⟩, hb9⟩; have HX9 := Lib.hid (HX8.out.below hb9); have HY9 := Lib.hid (HY8.out.below hb9); have HZ9 := Lib.hid hrg3; have HA3 := Lib.hid hA3; have HB9 := Lib.hid (HB8.out.trans (hb9.mono HB8.out.size)); have cx := conv_at HX9 (Below.refl _ _) rfl HXA.out; have cy := conv_at HY9 (Below.refl _ _) rfl HXB.out; clear H6 hrg3 hb9 hA3)))
    all_goals
      go_wp2_with fail
      go_meet
      case rel => exact ⟨A3, g3, rfl, rfl, rfl, HA3.out, HZ9.out, HB9.out⟩
  case rest =>
    obtain ⟨A, g, rfl, rfl, rfl, hA, hrg, hbx⟩ := hcut
    have HXL : Hid (XA.data.toList = LA) := Lib.hid (by rw [← HXA.out])
    have HXS : Hid (LA.length = XA.size) := Lib.hid (by rw [← HXA.out]; simp [ByteArray.size])
    have HIV : Hid (iV (some LI) = i) := Lib.hid (by rw [← HLI.out]; exact iV_lay hi)
    have HU1 : Hid (uV a (some LA) = a) := Lib.hid (by rw [← HLA.out, uV_lay ha, if_pos (Nat.le_refl _)])
    have hls : Op.bytesLess XA.toList XB.toList = decide (a < b) := by
      rw [ByteArray.toList_eq, ByteArray.toList_eq, ← HXA.out, ← HXB.out, ← HLA.out, ← HLC.out]
      exact layN_less ha hb
    have hl9 : (LI.length : Int) ≤ 9 := by
      have := layI_le i hi
      rw [HLI.out] at this
      omega
    have hsz : a < b → (XA.size : Int) ≤ (XB.size : Int) := fun h => by
      have h1 := nb_mono ha hb (Nat.le_of_lt h)
      have h2 : XA.size = nb a + 1 := by rw [← HXS.out, ← HLA.out]; unfold layN; rw [List.length_cons, digs_len]
      have h3 : XB.size = nb b + 1 := by
        rw [← HXB.out, ← HLC.out]
        unfold layN
        simp [ByteArray.size, digs_len]
      omega
    clear HR3 HS3 HB3
    by_cases hab : a < b
    · have hab' : (a : Int) < (b : Int) := by omega
      rw [decide_eq_true hab] at hls
      have hsz := hsz hab
      have hge : ¬ (b : Int) ≤ (a : Int) := by omega
      by_cases h0 : a = 0
      · subst h0
        have HZR := Lib.hid hrg.rd
        have HLK := Lib.hid (Look_any A LI.length LI.length wc.heap.size LI wc HZR.out rfl hli (Nat.le_refl _) (fun h => ⟨hA h, hA h⟩))
        have HBX := Lib.hid hbx
        clear hrg hbx hA
        go_wp2_with fail
        refine HLK.out.mono ?_
        rintro e w10 ⟨b1, g1, rfl, hbb1, hgg1, hgl1, hln1, hb10⟩
        have HIN := Lib.hid (LInt_any b1 g1 (some LI) w10 hln1)
        have HB10 := Lib.hid (HBX.out.trans (hb10.mono HBX.out.size))
        have hz10 := hb10.size
        have hzx := HBX.out.size
        clear hln1 hb10 HLK HBX HZR
        go_wp2_with fail
        refine HIN.out.mono ?_
        rintro e w11 ⟨rfl, -, hf11⟩
        rw [HIV.out]
        have HB11 := Lib.hid (hf11.to_below HB10.out HB10.out.size (by omega) (fun g hg => nomatch hg))
        clear hf11 HIN HB10
        have hcv := Lib.run_convert_string_bytes (P := Try.prog) w11 9 24 5 XA Try.underlying9 Try.underlying24 Try.underlying5
        have hbw := Lib.bytesWorld_below w11 5 XA
        have hrw : Rd (Lib.bytesWorld w11 5 XA) (Lib.bytesWorld w11 5 XA).heap.size (some ⟨w11.heap.size, 0, none⟩) LA := by
          have h := bytes_rdW w11 5 XA
          rw [HXL.out] at h
          exact h
        obtain ⟨w30, hWN⟩ : ∃ W, Lib.bytesWorld w11 5 XA = W := ⟨_, rfl⟩
        rw [hWN] at hcv hbw hrw
        have HLK30 := Lib.hid (Look_any (some ⟨w11.heap.size, 0, none⟩) XA.size (grownCap w11 XA.size 0 5) w30.heap.size LA w30 hrw HXS.out (by have := HXS.out; omega) (Nat.le_refl _) (fun h => nomatch h))
        have HB30 := Lib.hid (HB11.out.trans (hbw.mono HB11.out.size))
        clear hbw hrw hWN
        go_wp2_with fail
        refine HLK30.out.mono ?_
        rintro e w31 ⟨b30, g30, rfl, hbb30, hgg30, hgl30, hln30, hb30⟩
        have HU30 := Lib.hid (LUint_any b30 g30 0 (by omega) (some LA) w31 hln30)
        have HB31 := Lib.hid (HB30.out.trans (hb30.mono HB30.out.size))
        have hz30 := HB30.out.size
        clear hln30 hb30 hcv HLK30
        go_wp2_with fail
        refine HU30.out.mono ?_
        rintro e w32 ⟨rfl, -, hf30⟩
        rw [HU1.out]
        have HB32 := Lib.hid (hf30.to_below HB31.out HB31.out.size (by omega) (fun g hg => nomatch hg))
        clear hf30 HU30 HB30 HB31
        go_wp2_with fail
        go_ret
        exact ⟨by first | rfl | simp, HB32.out⟩
      · obtain ⟨c, hc⟩ : ∃ c, a = c + 1 := ⟨a - 1, by omega⟩
        have k0 : ((a : Int) == 0) = false := by rw [beq_eq_false_iff_ne]; omega
        have k1 : ¬ (a : Int) = 0 := by omega
        have k2 : IntKind.u64.wrap ((a : Int) - 1) = (c : Int) := by rw [IntKind.wrap_u64]; omega
        have k3 : (a : Int) - 1 = (c : Int) := by omega
        have k4 : IntKind.u64.wrap (c : Int) = (c : Int) := by rw [IntKind.wrap_u64]; omega
        have hcl : c < 18446744073709551616 := by omega
        have HU0 : Hid (uV c (some LA) = 0) := Lib.hid (by rw [← HLA.out, uV_lay ha, if_neg (by omega)])
        clear hc h0
        have HZR := Lib.hid hrg.rd
        have HLK := Lib.hid (Look_any A LI.length LI.length wc.heap.size LI wc HZR.out rfl hli (Nat.le_refl _) (fun h => ⟨hA h, hA h⟩))
        have HBX := Lib.hid hbx
        clear hrg hbx hA
        go_wp2_with fail
        refine HLK.out.mono ?_
        rintro e w10 ⟨b1, g1, rfl, hbb1, hgg1, hgl1, hln1, hb10⟩
        have HIN := Lib.hid (LInt_any b1 g1 (some LI) w10 hln1)
        have HB10 := Lib.hid (HBX.out.trans (hb10.mono HBX.out.size))
        have hz10 := hb10.size
        have hzx := HBX.out.size
        clear hln1 hb10 HLK HBX HZR
        go_wp2_with fail
        refine HIN.out.mono ?_
        rintro e w11 ⟨rfl, -, hf11⟩
        rw [HIV.out]
        have HB11 := Lib.hid (hf11.to_below HB10.out HB10.out.size (by omega) (fun g hg => nomatch hg))
        clear hf11 HIN HB10
        have hcv := Lib.run_convert_string_bytes (P := Try.prog) w11 9 24 5 XA Try.underlying9 Try.underlying24 Try.underlying5
        have hbw := Lib.bytesWorld_below w11 5 XA
        have hrw : Rd (Lib.bytesWorld w11 5 XA) (Lib.bytesWorld w11 5 XA).heap.size (some ⟨w11.heap.size, 0, none⟩) LA := by
          have h := bytes_rdW w11 5 XA
          rw [HXL.out] at h
          exact h
        obtain ⟨w20, hWN⟩ : ∃ W, Lib.bytesWorld w11 5 XA = W := ⟨_, rfl⟩
        rw [hWN] at hcv hbw hrw
        have HLK20 := Lib.hid (Look_any (some ⟨w11.heap.size, 0, none⟩) XA.size (grownCap w11 XA.size 0 5) w20.heap.size LA w20 hrw HXS.out (by have := HXS.out; omega) (Nat.le_refl _) (fun h => nomatch h))
        have HB20 := Lib.hid (HB11.out.trans (hbw.mono HB11.out.size))
        clear hbw hrw hWN
        go_wp2_with fail
        refine HLK20.out.mono ?_
        rintro e w21 ⟨b20, g20, rfl, hbb20, hgg20, hgl20, hln20, hb20⟩
        have HU20 := Lib.hid (LUint_any b20 g20 c (by omega) (some LA) w21 hln20)
        have HB21 := Lib.hid (HB20.out.trans (hb20.mono HB20.out.size))
        have hz20 := HB20.out.size
        clear hln20 hb20 hcv HLK20
        go_wp2_with fail
        refine HU20.out.mono ?_
        rintro e w22 ⟨rfl, -, hf20⟩
        rw [HU0.out]
        have HB22 := Lib.hid (hf20.to_below HB21.out HB21.out.size (by omega) (fun g hg => nomatch hg))
        clear hf20 HU20 HB20 HB21
        have hcv := Lib.run_convert_string_bytes (P := Try.prog) w22 9 24 5 XA Try.underlying9 Try.underlying24 Try.underlying5
        have hbw := Lib.bytesWorld_below w22 5 XA
        have hrw : Rd (Lib.bytesWorld w22 5 XA) (Lib.bytesWorld w22 5 XA).heap.size (some ⟨w22.heap.size, 0, none⟩) LA := by
          have h := bytes_rdW w22 5 XA
          rw [HXL.out] at h
          exact h
        obtain ⟨w30, hWN⟩ : ∃ W, Lib.bytesWorld w22 5 XA = W := ⟨_, rfl⟩
        rw [hWN] at hcv hbw hrw
        have HLK30 := Lib.hid (Look_any (some ⟨w22.heap.size, 0, none⟩) XA.size (grownCap w22 XA.size 0 5) w30.heap.size LA w30 hrw HXS.out (by have := HXS.out; omega) (Nat.le_refl _) (fun h => nomatch h))
        have HB30 := Lib.hid (HB22.out.trans (hbw.mono HB22.out.size))
        clear hbw hrw hWN
        go_wp2_with fail
        refine HLK30.out.mono ?_
        rintro e w31 ⟨b30, g30, rfl, hbb30, hgg30, hgl30, hln30, hb30⟩
        have HU30 := Lib.hid (LUint_any b30 g30 a (by omega) (some LA) w31 hln30)
        have HB31 := Lib.hid (HB30.out.trans (hb30.mono HB30.out.size))
        have hz30 := HB30.out.size
        clear hln30 hb30 hcv HLK30
        go_wp2_with fail
        refine HU30.out.mono ?_
        rintro e w32 ⟨rfl, -, hf30⟩
        rw [HU1.out]
        have HB32 := Lib.hid (hf30.to_below HB31.out HB31.out.size (by omega) (fun g hg => nomatch hg))
        clear hf30 HU30 HB30 HB31
        go_wp2_with fail
        go_ret
        exact ⟨by first | rfl | simp, HB32.out⟩
    · have hab' : ¬ (a : Int) < (b : Int) := by omega
      rw [decide_eq_false hab] at hls
      have hge : (b : Int) ≤ (a : Int) := by omega
      clear hsz
      by_cases h0 : a = 0
      · subst h0
        have HZR := Lib.hid hrg.rd
        have HLK := Lib.hid (Look_any A LI.length LI.length wc.heap.size LI wc HZR.out rfl hli (Nat.le_refl _) (fun h => ⟨hA h, hA h⟩))
        have HBX := Lib.hid hbx
        clear hrg hbx hA
        go_wp2_with fail
        refine HLK.out.mono ?_
        rintro e w10 ⟨b1, g1, rfl, hbb1, hgg1, hgl1, hln1, hb10⟩
        have HIN := Lib.hid (LInt_any b1 g1 (some LI) w10 hln1)
        have HB10 := Lib.hid (HBX.out.trans (hb10.mono HBX.out.size))
        have hz10 := hb10.size
        have hzx := HBX.out.size
        clear hln1 hb10 HLK HBX HZR
        go_wp2_with fail
        refine HIN.out.mono ?_
        rintro e w11 ⟨rfl, -, hf11⟩
        rw [HIV.out]
        have HB11 := Lib.hid (hf11.to_below HB10.out HB10.out.size (by omega) (fun g hg => nomatch hg))
        clear hf11 HIN HB10
        have hcv := Lib.run_convert_string_bytes (P := Try.prog) w11 9 24 5 XA Try.underlying9 Try.underlying24 Try.underlying5
        have hbw := Lib.bytesWorld_below w11 5 XA
        have hrw : Rd (Lib.bytesWorld w11 5 XA) (Lib.bytesWorld w11 5 XA).heap.size (some ⟨w11.heap.size, 0, none⟩) LA := by
          have h := bytes_rdW w11 5 XA
          rw [HXL.out] at h
          exact h
        obtain ⟨w30, hWN⟩ : ∃ W, Lib.bytesWorld w11 5 XA = W := ⟨_, rfl⟩
        rw [hWN] at hcv hbw hrw
        have HLK30 := Lib.hid (Look_any (some ⟨w11.heap.size, 0, none⟩) XA.size (grownCap w11 XA.size 0 5) w30.heap.size LA w30 hrw HXS.out (by have := HXS.out; omega) (Nat.le_refl _) (fun h => nomatch h))
        have HB30 := Lib.hid (HB11.out.trans (hbw.mono HB11.out.size))
        clear hbw hrw hWN
        go_wp2_with fail
        refine HLK30.out.mono ?_
        rintro e w31 ⟨b30, g30, rfl, hbb30, hgg30, hgl30, hln30, hb30⟩
        have HU30 := Lib.hid (LUint_any b30 g30 0 (by omega) (some LA) w31 hln30)
        have HB31 := Lib.hid (HB30.out.trans (hb30.mono HB30.out.size))
        have hz30 := HB30.out.size
        clear hln30 hb30 hcv HLK30
        go_wp2_with fail
        refine HU30.out.mono ?_
        rintro e w32 ⟨rfl, -, hf30⟩
        rw [HU1.out]
        have HB32 := Lib.hid (hf30.to_below HB31.out HB31.out.size (by omega) (fun g hg => nomatch hg))
        clear hf30 HU30 HB30 HB31
        go_wp2_with fail
        go_ret
        exact ⟨by first | rfl | simp, HB32.out⟩
      · obtain ⟨c, hc⟩ : ∃ c, a = c + 1 := ⟨a - 1, by omega⟩
        have k0 : ((a : Int) == 0) = false := by rw [beq_eq_false_iff_ne]; omega
        have k1 : ¬ (a : Int) = 0 := by omega
        have k2 : IntKind.u64.wrap ((a : Int) - 1) = (c : Int) := by rw [IntKind.wrap_u64]; omega
        have k3 : (a : Int) - 1 = (c : Int) := by omega
        have k4 : IntKind.u64.wrap (c : Int) = (c : Int) := by rw [IntKind.wrap_u64]; omega
        have hcl : c < 18446744073709551616 := by omega
        have HU0 : Hid (uV c (some LA) = 0) := Lib.hid (by rw [← HLA.out, uV_lay ha, if_neg (by omega)])
        clear hc h0
        have HZR := Lib.hid hrg.rd
        have HLK := Lib.hid (Look_any A LI.length LI.length wc.heap.size LI wc HZR.out rfl hli (Nat.le_refl _) (fun h => ⟨hA h, hA h⟩))
        have HBX := Lib.hid hbx
        clear hrg hbx hA
        go_wp2_with fail
        refine HLK.out.mono ?_
        rintro e w10 ⟨b1, g1, rfl, hbb1, hgg1, hgl1, hln1, hb10⟩
        have HIN := Lib.hid (LInt_any b1 g1 (some LI) w10 hln1)
        have HB10 := Lib.hid (HBX.out.trans (hb10.mono HBX.out.size))
        have hz10 := hb10.size
        have hzx := HBX.out.size
        clear hln1 hb10 HLK HBX HZR
        go_wp2_with fail
        refine HIN.out.mono ?_
        rintro e w11 ⟨rfl, -, hf11⟩
        rw [HIV.out]
        have HB11 := Lib.hid (hf11.to_below HB10.out HB10.out.size (by omega) (fun g hg => nomatch hg))
        clear hf11 HIN HB10
        have hcv := Lib.run_convert_string_bytes (P := Try.prog) w11 9 24 5 XA Try.underlying9 Try.underlying24 Try.underlying5
        have hbw := Lib.bytesWorld_below w11 5 XA
        have hrw : Rd (Lib.bytesWorld w11 5 XA) (Lib.bytesWorld w11 5 XA).heap.size (some ⟨w11.heap.size, 0, none⟩) LA := by
          have h := bytes_rdW w11 5 XA
          rw [HXL.out] at h
          exact h
        obtain ⟨w20, hWN⟩ : ∃ W, Lib.bytesWorld w11 5 XA = W := ⟨_, rfl⟩
        rw [hWN] at hcv hbw hrw
        have HLK20 := Lib.hid (Look_any (some ⟨w11.heap.size, 0, none⟩) XA.size (grownCap w11 XA.size 0 5) w20.heap.size LA w20 hrw HXS.out (by have := HXS.out; omega) (Nat.le_refl _) (fun h => nomatch h))
        have HB20 := Lib.hid (HB11.out.trans (hbw.mono HB11.out.size))
        clear hbw hrw hWN
        go_wp2_with fail
        refine HLK20.out.mono ?_
        rintro e w21 ⟨b20, g20, rfl, hbb20, hgg20, hgl20, hln20, hb20⟩
        have HU20 := Lib.hid (LUint_any b20 g20 c (by omega) (some LA) w21 hln20)
        have HB21 := Lib.hid (HB20.out.trans (hb20.mono HB20.out.size))
        have hz20 := HB20.out.size
        clear hln20 hb20 hcv HLK20
        go_wp2_with fail
        refine HU20.out.mono ?_
        rintro e w22 ⟨rfl, -, hf20⟩
        rw [HU0.out]
        have HB22 := Lib.hid (hf20.to_below HB21.out HB21.out.size (by omega) (fun g hg => nomatch hg))
        clear hf20 HU20 HB20 HB21
        have hcv := Lib.run_convert_string_bytes (P := Try.prog) w22 9 24 5 XA Try.underlying9 Try.underlying24 Try.underlying5
        have hbw := Lib.bytesWorld_below w22 5 XA
        have hrw : Rd (Lib.bytesWorld w22 5 XA) (Lib.bytesWorld w22 5 XA).heap.size (some ⟨w22.heap.size, 0, none⟩) LA := by
          have h := bytes_rdW w22 5 XA
          rw [HXL.out] at h
          exact h
        obtain ⟨w30, hWN⟩ : ∃ W, Lib.bytesWorld w22 5 XA = W := ⟨_, rfl⟩
        rw [hWN] at hcv hbw hrw
        have HLK30 := Lib.hid (Look_any (some ⟨w22.heap.size, 0, none⟩) XA.size (grownCap w22 XA.size 0 5) w30.heap.size LA w30 hrw HXS.out (by have := HXS.out; omega) (Nat.le_refl _) (fun h => nomatch h))
        have HB30 := Lib.hid (HB22.out.trans (hbw.mono HB22.out.size))
        clear hbw hrw hWN
        go_wp2_with fail
        refine HLK30.out.mono ?_
        rintro e w31 ⟨b30, g30, rfl, hbb30, hgg30, hgl30, hln30, hb30⟩
        have HU30 := Lib.hid (LUint_any b30 g30 a (by omega) (some LA) w31 hln30)
        have HB31 := Lib.hid (HB30.out.trans (hb30.mono HB30.out.size))
        have hz30 := HB30.out.size
        clear hln30 hb30 hcv HLK30
        go_wp2_with fail
        refine HU30.out.mono ?_
        rintro e w32 ⟨rfl, -, hf30⟩
        rw [HU1.out]
        have HB32 := Lib.hid (hf30.to_below HB31.out HB31.out.size (by omega) (fun g hg => nomatch hg))
        clear hf30 HU30 HB30 HB31
        go_wp2_with fail
        go_ret
        exact ⟨by first | rfl | simp, HB32.out⟩
end Go.Proofs.Ytbfekonlgbolcab
