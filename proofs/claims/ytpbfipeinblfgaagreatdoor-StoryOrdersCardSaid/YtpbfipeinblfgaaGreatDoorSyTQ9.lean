/-
A teller tells the events of its day. Condition: the teller is there.
A teller charges the months whose grace is over. Condition: the teller is there.
-/
import Derived.Test.YtpbfipeinblfgaaGreatDoorSyRQ9
import Derived.Deep.LoopGhost
import Derived.RegionTactic
namespace Go.Proofs.YtpbfipeinblfgaaGreatDoor
open Go.ChangeShapes Go.WideShapes Go.ChangeAt Go.RowKit Go.Shelf

/-- Where a teller is among the events of the day. -/
structure Hap (w0 : World) (b0 g : Nat) (sp : Value) (day : Int) (n b M : Nat) (y : TS × List Ev) (k : Nat) (w : World) (l : List Ev) (x : TS) (Z : Int) : Prop where
  tel : Tel w b0 g sp day l x
  low : Below b0 w0 w
  end_ : hapN n day l x = y
  ok : ∀ e ∈ l, EvOk e
  bd : Bd b M x Z
  few : Few9 x Z
  Z : Z + 1000000000000 * (l.length : Int) ≤ 100000000000000000
  len : l.length ≤ k
theorem Hap.next {w0 w w' : World} {b0 g n b M k : Nat} {sp : Value} {y : TS × List Ev} {e : Ev} {l : List Ev} {x : TS} {Z : Int} (h : Hap w0 b0 g sp e.d n b M y k w (e :: l) x Z) (ht : Tel w' b0 g sp e.d l (hapM n e.d x e)) (hl : Below b0 w0 w') : Hap w0 b0 g sp e.d n b M y (k - 1) w' l (hapM n e.d x e) (Z + 1000000000000) := by
  obtain ⟨-, -, h3, h4, h5, h6, h7, h8⟩ := h
  simp only [List.length_cons] at h7 h8
  refine ⟨ht, hl, ?_, fun z hz => h4 z (List.mem_cons_of_mem _ hz), h5.hap (h4 e (List.mem_cons_self ..)), h6.hap, by omega, by omega⟩
  rw [← h3]
  conv => rhs; unfold hapN
  rw [if_pos rfl]
theorem Evs.next {w : World} {ev : Value} {e : Ev} {l : List Ev} (h : Evs w ev (e :: l)) : ∃ r k c, ev = .slice (some ⟨r, k, none⟩) (l.length + 1) c ∧ l.length + 1 ≤ c ∧ c ≤ maxLen ∧ (∃ cs, Blk w r 47 cs) ∧
    w.cell? ⟨r, k, none⟩ = some (.int .u32 (e.s : Int)) ∧ w.cell? ⟨r, k + 1, none⟩ = some (.int .i32 e.d) ∧ w.cell? ⟨r, k + 2, none⟩ = some (.int .u8 (e.k : Int)) ∧ w.cell? ⟨r, k + 3, none⟩ = some (.int .i64 e.a) ∧
    Evs w (.slice (if c = 1 then some ⟨r, k, none⟩ else some ⟨r, k + 4, none⟩) l.length (c - 1)) l := by
  obtain ⟨A, c, h1, h2, h3, h4⟩ := h
  obtain ⟨r, k, cs, rfl, hB, hc⟩ := h4 (by simp)
  have h0 := hc 0 e rfl
  refine ⟨r, k, c, h1, h2, h3, ⟨cs, hB⟩, ?_, ?_, ?_, ?_, ?_⟩
  · rw [hB.cell]; exact h0 0 _ rfl
  · rw [hB.cell]; exact h0 1 _ rfl
  · rw [hB.cell]; exact h0 2 _ rfl
  · rw [hB.cell]; exact h0 3 _ rfl
  · simp only [List.length_cons] at h2
    refine ⟨_, c - 1, rfl, by omega, by omega, fun hn => ⟨r, k + 4, cs, by rw [if_neg (by omega)], hB, fun j y hy i x hx => ?_⟩⟩
    have := hc (j + 1) y (by simpa using hy) i x hx
    rw [show k + 4 + (j * 4 + i) = k + ((j + 1) * 4 + i) by omega]
    exact this
theorem Tel.cutS {w : World} {b0 g : Nat} {sp ev en v : Value} {day : Int} {l' : List Ev} {x : TS} (hT : Blk w g 96 (telC sp x day ev en)) (hg : b0 ≤ g) (hE : Ents w b0 en x.L) (hV : Evs w v l') : Tel (w.setCell ⟨g, 11, none⟩ v) b0 g sp day l' x := by
  refine ⟨v, en, hT.set_ 11 v, hg, hE.keep (by simp [World.size_setCell]) fun i T cs hb hT' => Below.heap_setCell w _ _ i fun e => ?_, hV.keep fun i cs hb => Below.heap_setCell w _ _ i fun e => ?_⟩
  · subst e
    have := blk_type hb hT
    rcases hT' with rfl | rfl
    · exact neEnTe this
    · exact neLeTe this
  · subst e
    exact neEvTe (blk_type hb hT)
theorem Tel.drewNS {w : World} {b0 g : Nat} {sp : Value} {day : Int} {l : List Ev} {x : TS} (h : Tel w b0 g sp day l x) (n : Nat) : Tel (w.drewN n) b0 g sp day l x := h.below (below_drewN (Below.refl _ w) n)
set_option maxRecDepth 100000 in
set_option maxHeartbeats 8000000 in
theorem happen_any {o : Deal} {b0 g q : Nat} {day : Int} {l : List Ev} {x : TS} (w : World) (h : Tel w b0 g (.pointer (some ⟨q, 0, none⟩)) day l x) (hs : Sto w b0 q o) (hb : b0 ≤ w.heap.size) {b M : Nat} {Z : Int} (hok : ∀ e ∈ l, EvOk e) (hBd : Bd b M x Z) (hF : Few9 x Z) (hZ : Z + 1000000000000 * (l.length : Int) ≤ 100000000000000000) :
    Calls Tryz.prog 25 #[.pointer (some ⟨g, 0, none⟩)] w (TelPost w b0 g (.pointer (some ⟨q, 0, none⟩)) day (hapN o.n day l x).2 (hapN o.n day l x).1) := by
  obtain ⟨Y, hY⟩ : ∃ Y, hapN o.n day l x = Y := ⟨_, rfl⟩
  rw [hY]
  have H0 := Lib.hid (show Hap w b0 g (.pointer (some ⟨q, 0, none⟩)) day o.n b M Y l.length w l x Z from ⟨h, Below.refl b0 w, hY, hok, hBd, hF, hZ, Nat.le_refl _⟩)
  have HS := Lib.hid hs
  have HB := Lib.hid hb
  clear h hs hb hok hBd hF hZ hY
  go_enter Tryz.func25, Tryz.ntmps25
  go_wp2
  go_loopg [] l.length (fun k wr => ∃ (l' : List Ev) (x' : TS) (Z' : Int), Hid (Hap w b0 g (.pointer (some ⟨q, 0, none⟩)) day o.n b M Y k wr l' x' Z'))
  case atStart => exact ⟨l, x, Z, H0⟩
  case round =>
    obtain ⟨l', x', Z', HH⟩ := hrel
    obtain ⟨ev, en, hT, hbg, hEn, hEv⟩ := id HH.out.tel
    have c11 := hT.cell 11
    have c10 := hT.cell 10
    simp [telC] at c11 c10
    rcases l' with _ | ⟨e, l'⟩
    · obtain ⟨A, c, rfl, -, -, -⟩ := hEv
      have hy := HH.out.end_
      simp only [hapN] at hy
      subst hy
      simp only [List.length_nil] at c11
      clear hT hbg hEn
      go_upto_region 0 with (fail)
      go_quiet (fail)
      go_wp2_with fail
      go_end0
      exact ⟨rfl, below_drewN HH.out.low _, HH.out.tel.drewNS _⟩
    · obtain ⟨r, kk, c, rfl, hc1, hc2, ⟨cs, hcs⟩, q0, q1, q2, q3, hnx⟩ := hEv.next
      by_cases hd : e.d = day
      · subst hd
        have hy := HH.out.end_
        unfold hapN at hy
        rw [if_pos rfl] at hy
        have HY := Lib.hid hy
        have HOK := Lib.hid (HH.out.ok e (List.mem_cons_self ..))
        clear hy hbg hEn
        go_upto_region 0 with (fail)
        go_quiet (fail)
        go_wp2_with fail
        have hT1 := HH.out.tel.drewNS nq
        have hb1 := below_drewN HH.out.low nq
        refine (tell_any _ hT1 (HS.out.below hb1) (Nat.le_trans HB.out hb1.size) e HOK.out HH.out.bd HH.out.few (by have := HH.out.Z; omega)).mono ?_
        rintro e9 w9 ⟨rfl, b9, t9⟩
        have B9 := Lib.hid (hb1.trans b9)
        obtain ⟨Yv, hYv⟩ : ∃ z, telM o.n e.d x' e = z := ⟨_, rfl⟩
        have hhap : hapM o.n e.d x' e = if Yv.t = 1 ∧ Yv.f = 0 ∧ Yv.i = 0 ∧ Yv.p = 0 then { Yv with t := 2 } else Yv := by
          unfold hapM
          rw [hYv]
        have HHP := Lib.hid hhap
        rw [hYv] at t9
        clear hT1 hb1 b9 hT c10 c11 hc1 hc2 hcs q0 q1 q2 q3 hnx hhap hYv
        obtain ⟨ev9, en9, hT9, hbg9, hE9, hV9⟩ := id t9
        obtain ⟨r9, k9, c9, rfl, hc1, hc2, ⟨cs9, hcs9⟩, -, -, -, -, hnx⟩ := hV9.next
        have T9 := Lib.hid t9
        have HT9 := Lib.hid hT9
        have HE9 := Lib.hid hE9
        have HN := Lib.hid hnx
        have d11 := hT9.cell 11
        have f11 := hT9.frozen 11
        have f9 := hT9.frozen 9
        have d1 := hT9.cell 1
        have d2 := hT9.cell 2
        have d3 := hT9.cell 3
        have d9 := hT9.cell 9
        simp [telC] at d11 d1 d2 d3 d9
        clear t9 hT9 hbg9 hE9 hV9 hnx hcs9
        by_cases hc : c9 = 1
        · have hcn : (c9 : Int) = 1 := by omega
          have hv : Evs w9 (.slice (some ⟨r9, k9, none⟩) l'.length 0) l' := by
            have := HN.out
            rw [if_pos hc, hc] at this
            exact this
          have T10 := Lib.hid (Tel.cutS HT9.out T9.out.base HE9.out hv)
          have B10 := Lib.hid (B9.out.trans ((Below.refl b0 w9).setCell T9.out.base (p := ⟨g, 11, none⟩) (.slice (some ⟨r9, k9, none⟩) l'.length 0)))
          clear hv HN
          go_upto_region 3 with (fail)
          obtain ⟨W10, hW10⟩ : ∃ W, w9.setCell ⟨g, 11, none⟩ (.slice (some ⟨r9, k9, none⟩) l'.length 0) = W := ⟨_, rfl⟩
          rw [hW10] at T10 B10 ⊢
          clear hW10 d11 f11 f9 d1 d2 d3 d9 HT9 HE9 T9 B9 hcn
          obtain ⟨-, d1, d2, d3, -, -, -, -, -, d9, -, -, fz⟩ := T10.out.cells
          have f9 := fz 9
          clear fz
          by_cases t1 : Yv.t = 1
          · have t1' : (Yv.t : Int) = 1 := by omega
            rw [t1'] at d9
            clear t1'
            by_cases hz : Yv.f = 0 ∧ Yv.i = 0 ∧ Yv.p = 0
            · have hm := HHP.out
              rw [if_pos ⟨t1, hz.1, hz.2.1, hz.2.2⟩] at hm
              have HM := Lib.hid hm
              rw [hz.1] at d1
              rw [hz.2.1] at d2
              rw [hz.2.2] at d3
              clear hz t1 hm
              have T11 := Lib.hid (T10.out.set (k := 9) (v := .int .u8 ((2 : Nat) : Int)) (y := { Yv with t := 2 }) rfl (fun ev en => telC_9 _ _ _ ev en _))
              have B11 := Lib.hid (B10.out.trans ((Below.refl b0 W10).setCell T10.out.base (p := ⟨g, 9, none⟩) (.int .u8 ((2 : Nat) : Int))))
              clear T10 B10
              go_wp2_with fail
              go_roundg (gk - 1)
              case measure => have := HH.out.len; simp at this; omega
              case rel => exact ⟨l', hapM o.n e.d x' e, Z' + 1000000000000, Lib.hid (HH.out.next (by rw [HM.out]; exact T11.out) B11.out)⟩
            · have hm := HHP.out
              rw [if_neg (fun h => hz ⟨h.2.1, h.2.2.1, h.2.2.2⟩)] at hm
              have HM := Lib.hid hm
              have hz' : ¬ (Yv.f = 0 ∧ Yv.i = 0 ∧ Yv.p = 0) := hz
              clear hz t1 hm
              go_wp2_with fail
              all_goals
                go_roundg (gk - 1)
                case measure => have := HH.out.len; simp at this; omega
                case rel => exact ⟨l', hapM o.n e.d x' e, Z' + 1000000000000, Lib.hid (HH.out.next (by rw [HM.out]; exact T10.out) B10.out)⟩
          · have hm := HHP.out
            rw [if_neg (fun h => t1 h.1)] at hm
            have HM := Lib.hid hm
            have n1 : ¬ (Yv.t : Int) = 1 := by omega
            clear t1 hm
            go_wp2_with fail
            go_roundg (gk - 1)
            case measure => have := HH.out.len; simp at this; omega
            case rel => exact ⟨l', hapM o.n e.d x' e, Z' + 1000000000000, Lib.hid (HH.out.next (by rw [HM.out]; exact T10.out) B10.out)⟩
        · have hcn : ¬ (c9 : Int) = 1 := by omega
          have hv : Evs w9 (.slice (some ⟨r9, k9 + 4, none⟩) l'.length (c9 - 1)) l' := by
            have := HN.out
            rw [if_neg hc] at this
            exact this
          have T10 := Lib.hid (Tel.cutS HT9.out T9.out.base HE9.out hv)
          have B10 := Lib.hid (B9.out.trans ((Below.refl b0 w9).setCell T9.out.base (p := ⟨g, 11, none⟩) (.slice (some ⟨r9, k9 + 4, none⟩) l'.length (c9 - 1))))
          clear hv HN
          go_upto_region 3 with (fail)
          obtain ⟨W10, hW10⟩ : ∃ W, w9.setCell ⟨g, 11, none⟩ (.slice (some ⟨r9, k9 + 4, none⟩) l'.length (c9 - 1)) = W := ⟨_, rfl⟩
          rw [hW10] at T10 B10 ⊢
          clear hW10 d11 f11 f9 d1 d2 d3 d9 HT9 HE9 T9 B9 hcn
          obtain ⟨-, d1, d2, d3, -, -, -, -, -, d9, -, -, fz⟩ := T10.out.cells
          have f9 := fz 9
          clear fz
          by_cases t1 : Yv.t = 1
          · have t1' : (Yv.t : Int) = 1 := by omega
            rw [t1'] at d9
            clear t1'
            by_cases hz : Yv.f = 0 ∧ Yv.i = 0 ∧ Yv.p = 0
            · have hm := HHP.out
              rw [if_pos ⟨t1, hz.1, hz.2.1, hz.2.2⟩] at hm
              have HM := Lib.hid hm
              rw [hz.1] at d1
              rw [hz.2.1] at d2
              rw [hz.2.2] at d3
              clear hz t1 hm
              have T11 := Lib.hid (T10.out.set (k := 9) (v := .int .u8 ((2 : Nat) : Int)) (y := { Yv with t := 2 }) rfl (fun ev en => telC_9 _ _ _ ev en _))
              have B11 := Lib.hid (B10.out.trans ((Below.refl b0 W10).setCell T10.out.base (p := ⟨g, 9, none⟩) (.int .u8 ((2 : Nat) : Int))))
              clear T10 B10
              go_wp2_with fail
              go_roundg (gk - 1)
              case measure => have := HH.out.len; simp at this; omega
              case rel => exact ⟨l', hapM o.n e.d x' e, Z' + 1000000000000, Lib.hid (HH.out.next (by rw [HM.out]; exact T11.out) B11.out)⟩
            · have hm := HHP.out
              rw [if_neg (fun h => hz ⟨h.2.1, h.2.2.1, h.2.2.2⟩)] at hm
              have HM := Lib.hid hm
              have hz' : ¬ (Yv.f = 0 ∧ Yv.i = 0 ∧ Yv.p = 0) := hz
              clear hz t1 hm
              go_wp2_with fail
              all_goals
                go_roundg (gk - 1)
                case measure => have := HH.out.len; simp at this; omega
                case rel => exact ⟨l', hapM o.n e.d x' e, Z' + 1000000000000, Lib.hid (HH.out.next (by rw [HM.out]; exact T10.out) B10.out)⟩
          · have hm := HHP.out
            rw [if_neg (fun h => t1 h.1)] at hm
            have HM := Lib.hid hm
            have n1 : ¬ (Yv.t : Int) = 1 := by omega
            clear t1 hm
            go_wp2_with fail
            go_roundg (gk - 1)
            case measure => have := HH.out.len; simp at this; omega
            case rel => exact ⟨l', hapM o.n e.d x' e, Z' + 1000000000000, Lib.hid (HH.out.next (by rw [HM.out]; exact T10.out) B10.out)⟩
      · have hy := HH.out.end_
        unfold hapN at hy
        rw [if_neg hd] at hy
        subst hy
        clear hT hbg hEn
        go_upto_region 0 with (fail)
        go_quiet (fail)
        go_wp2_with fail
        go_end0
        exact ⟨rfl, below_drewN HH.out.low _, HH.out.tel.drewNS _⟩
end Go.Proofs.YtpbfipeinblfgaaGreatDoor
namespace Go.Proofs.YtpbfipeinblfgaaGreatDoor
open Go.ChangeShapes Go.WideShapes Go.ChangeAt Go.RowKit Go.Shelf

/-- Where a teller is among the months whose grace is over. -/
structure Lat (w0 : World) (b0 g : Nat) (sp : Value) (day : Int) (l : List Ev) (o : Deal) (y : TS) (k : Nat) (w : World) (x : TS) (Z : Int) : Prop where
  tel : Tel w b0 g sp day l x
  low : Below b0 w0 w
  end_ : lateN o.n o.F o.G o.M o.D o.Sm day (o.M - x.m) x = y
  bd : Bd o.b o.M x Z
  few : Few9 x Z
  Z : Z + 1000000000 * ((o.M : Int) - x.m) ≤ 100000000000000000
  len : o.M - x.m ≤ k
theorem late_go {o : Deal} {day : Int} {x : TS} (h : x.m < o.M) (hd : o.D x.m + o.G = day) : lateN o.n o.F o.G o.M o.D o.Sm day (o.M - x.m) x = lateN o.n o.F o.G o.M o.D o.Sm day (o.M - (lateM o.n o.F o.Sm day x).m) (lateM o.n o.F o.Sm day x) := by
  obtain ⟨k, hk⟩ : ∃ k, o.M - x.m = k + 1 := ⟨o.M - x.m - 1, by omega⟩
  rw [late_m, hk, show o.M - (x.m + 1) = k by omega]
  conv => lhs; unfold lateN
  rw [if_pos ⟨h, hd⟩]
theorem late_stop {o : Deal} {day : Int} {x : TS} (h : ¬ (x.m < o.M ∧ o.D x.m + o.G = day)) (k : Nat) : lateN o.n o.F o.G o.M o.D o.Sm day k x = x := by
  cases k with
  | zero => rfl
  | succ k =>
    unfold lateN
    rw [if_neg h]
theorem Lat.next {w0 w w' : World} {b0 g k : Nat} {sp : Value} {day : Int} {l : List Ev} {o : Deal} {y x : TS} {Z : Int} (h : Lat w0 b0 g sp day l o y k w x Z) (ho : o.Ok) (hm : x.m < o.M) (hd : o.D x.m + o.G = day) (ht : Tel w' b0 g sp day l (lateM o.n o.F o.Sm day x)) (hl : Below b0 w0 w') : Lat w0 b0 g sp day l o y (k - 1) w' (lateM o.n o.F o.Sm day x) (Z + 1000000000) := by
  obtain ⟨-, -, h3, h4, h5, h6, h7⟩ := h
  refine ⟨ht, hl, (late_go hm hd).symm.trans h3, h4.late ho.F hm, h5.add late_L, ?_, ?_⟩
  · rw [late_m]; omega
  · rw [late_m]; omega
theorem Lat.drew {w0 w : World} {b0 g k : Nat} {sp : Value} {day : Int} {l : List Ev} {o : Deal} {y x : TS} {Z : Int} (h : Lat w0 b0 g sp day l o y k w x Z) (n : Nat) : Lat w0 b0 g sp day l o y k (w.drewN n) x Z := by
  obtain ⟨h1, h2, h3, h4, h5, h6, h7⟩ := h
  exact ⟨h1.drewNS n, below_drewN h2 n, h3, h4, h5, h6, h7⟩
theorem infoDu9 : (Tryz.prog.info? 76).map (·.size) = some 2 := by kernel_rfl
theorem rowDu9 : RowT Tryz.prog 76 2 := ⟨_, Tryz.underlying76, rfl, infoDu9⟩
set_option maxRecDepth 100000 in
set_option maxHeartbeats 8000000 in
theorem late_any {o : Deal} (ho : o.Ok) {b0 g q : Nat} {day : Int} {l : List Ev} {x : TS} (w : World) (h : Tel w b0 g (.pointer (some ⟨q, 0, none⟩)) day l x) (hs : Sto w b0 q o) (hb : b0 ≤ w.heap.size) {Z : Int} (hBd : Bd o.b o.M x Z) (hF : Few9 x Z) (hZ : Z + 1000000000 * ((o.M : Int) - x.m) ≤ 100000000000000000) (hday : 0 ≤ day ∧ day ≤ 3652058) :
    Calls Tryz.prog 59 #[.pointer (some ⟨g, 0, none⟩)] w (TelPost w b0 g (.pointer (some ⟨q, 0, none⟩)) day l (lateN o.n o.F o.G o.M o.D o.Sm day (o.M - x.m) x)) := by
  obtain ⟨Y, hY⟩ : ∃ Y, lateN o.n o.F o.G o.M o.D o.Sm day (o.M - x.m) x = Y := ⟨_, rfl⟩
  rw [hY]
  have H0 := Lib.hid (show Lat w b0 g (.pointer (some ⟨q, 0, none⟩)) day l o Y (o.M - x.m) w x Z from ⟨h, Below.refl b0 w, hY, hBd, hF, hZ, Nat.le_refl _⟩)
  have HS := Lib.hid hs
  have HB := Lib.hid hb
  have HO := Lib.hid ho
  have HDAY := Lib.hid hday
  clear h hs hb hBd hF hZ hY ho hday
  go_enter Tryz.func59, Tryz.ntmps59
  go_wp2
  go_loopg [] (o.M - x.m) (fun k wr => ∃ (x1 : TS) (Z1 : Int), Hid (Lat w b0 g (.pointer (some ⟨q, 0, none⟩)) day l o Y k wr x1 Z1))
  case atStart => exact ⟨x, Z, H0⟩
  case round =>
    obtain ⟨x1, Z1, HH⟩ := hrel
    obtain ⟨ev, en, hT, -⟩ := id HH.out.tel
    have HT := Lib.hid hT
    have hsw := HS.out.below HH.out.low
    obtain ⟨-, -, -, dq, ds, hS, hD, hdq, hds⟩ := id hsw
    have HQ := Lib.hid hS
    have c0 := hT.cell 0
    have c12 := hT.cell 12
    have s9 := hS.cell 9
    simp [telC] at c0 c12 s9
    by_cases hm : x1.m < o.M
    · have hm1 : (x1.m : Int) < (o.M : Int) := by omega
      have LDD := fun W' (hb' : Below wr.heap.size wr W') => run_loadB (P := Tryz.prog) (hD.below hb' hD.lt) 76 (x1.m * 2) #[.int .i32 (o.D x1.m), .int .i64 (o.Sm x1.m)] (fun j v hv => by
        rcases j with _ | _ | j
        · simp at hv; subst hv; exact (hds x1.m hm).1
        · simp at hv; subst hv; exact (hds x1.m hm).2
        · simp at hv) rowDu9
      clear hT hS hD hds hsw
      go_upto_region 0 with (fail)
      go_quiet (fail)
      go_upto_region 1 with (fail)
      have HH1 := Lib.hid (HH.out.drew nq)
      have HT := Lib.hid (HT.out.drewN nq)
      have HQ := Lib.hid (HQ.out.drewN nq)
      have LDD := fun W' (hb' : Below (wr.drewN nq).heap.size (wr.drewN nq) W') => LDD W' ((below_drewN (Below.refl _ wr) nq).trans hb')
      obtain ⟨W1, hW1⟩ : ∃ W, wr.drewN nq = W := ⟨_, rfl⟩
      rw [hW1] at HH1 HT HQ ⊢
      simp only [hW1] at LDD
      clear hW1
      have LD1_0 : ∀ W', Below W1.heap.size W1 W' → (Instr.loadAt 37 (.pointer (some ⟨g, 0, none⟩))).run Tryz.prog W' = .ok (.pointer (some ⟨q, 0, none⟩)) W' := fun W' hb' => by
        have x0 := (HT.out.below hb' HT.out.lt).cell 0
        simp [telC] at x0
        go_simp
      have LD1_1 : ∀ W', Below W1.heap.size W1 W' → (Instr.loadAt 73 (.pointer (some ⟨q, 9, none⟩))).run Tryz.prog W' = .ok (.slice (some ⟨dq, 0, none⟩) o.M o.M) W' := fun W' hb' => by
        have x0 := (HQ.out.below hb' HQ.out.lt).cell 9
        simp at x0
        go_simp
      have LD1_2 : ∀ W', Below W1.heap.size W1 W' → (Instr.loadAt 3 (.pointer (some ⟨g, 12, none⟩))).run Tryz.prog W' = .ok (.int .i64 (x1.m : Int)) W' := fun W' hb' => by
        have x0 := (HT.out.below hb' HT.out.lt).cell 12
        simp [telC] at x0
        go_simp
      refine wp_region_flow_lst _ [some 16, some 17, some 18, some 19, some 20, some 21, some 22, some 23, some 24, some 25, some 26, some 27, some 28, some 2] (fun i => ([.is (.pointer (some ⟨g, 0, none⟩)), .is (.pointer (some ⟨g, 0, none⟩)), .is (.pointer (some ⟨g, 0, none⟩)), .is (.pointer (some ⟨q, 0, none⟩)), .is (.pointer (some ⟨q, 0, none⟩)), .is (.pointer (some ⟨q, 9, none⟩)), .is (.slice (some ⟨dq, 0, none⟩) o.M o.M), .is (.pointer (some ⟨g, 0, none⟩)), .is (.pointer (some ⟨g, 0, none⟩)), .is (.pointer (some ⟨g, 12, none⟩)), .is (.int .i64 (x1.m : Int)), .is (.pointer (some ⟨dq, x1.m * 2, none⟩)), .is (.agg #[.int .i32 (o.D x1.m), .int .i64 (o.Sm x1.m)]), boxF W1.heap.size 76 #[.int .i32 0, .int .i64 0]] : List Flw).getD i .any) (by rfl) (by kernel_rfl) (by kernel_rfl) (by kernel_rfl) (by rfl) (by rfl) ?_ ?_
      · skip
        refine ⟨step_free rfl (fun aF wF hs hb => ?_), ?_⟩
        · obtain ⟨xx0, -⟩ := hs
          have e0 : aF.eval (.tmp 0) = .pointer (some ⟨g, 0, none⟩) := xx0
          exact opC_move e0 ⟨rfl, below_same wF⟩
        refine ⟨step_free rfl (fun aF wF hs hb => ?_), ?_⟩
        · obtain ⟨xx0, -⟩ := hs
          have e0 : aF.eval (.tmp 16) = .pointer (some ⟨g, 0, none⟩) := xx0
          refine opC_value (v := .pointer (some ⟨g, 0, none⟩)) ?_ ⟨rfl, below_same wF⟩
          have t0 := ev_of e0
          go_simp
        refine ⟨step_free rfl (fun aF wF hs hb => ?_), ?_⟩
        · obtain ⟨xx0, -⟩ := hs
          have e0 : aF.eval (.tmp 17) = .pointer (some ⟨g, 0, none⟩) := xx0
          refine opC_value (v := .pointer (some ⟨g, 0, none⟩)) ?_ ⟨rfl, below_same wF⟩
          have t0 := ev_of e0
          go_simp
        refine ⟨step_free rfl (fun aF wF hs hb => ?_), ?_⟩
        · obtain ⟨xx0, -⟩ := hs
          have e0 : aF.eval (.tmp 18) = .pointer (some ⟨g, 0, none⟩) := xx0
          exact opC_load e0 (LD1_0 wF hb) ⟨rfl, below_same wF⟩
        refine ⟨step_free rfl (fun aF wF hs hb => ?_), ?_⟩
        · obtain ⟨xx0, -⟩ := hs
          have e0 : aF.eval (.tmp 19) = .pointer (some ⟨q, 0, none⟩) := xx0
          refine opC_value (v := .pointer (some ⟨q, 0, none⟩)) ?_ ⟨rfl, below_same wF⟩
          have t0 := ev_of e0
          go_simp
        refine ⟨step_free rfl (fun aF wF hs hb => ?_), ?_⟩
        · obtain ⟨xx0, -⟩ := hs
          have e0 : aF.eval (.tmp 20) = .pointer (some ⟨q, 0, none⟩) := xx0
          refine opC_value (v := .pointer (some ⟨q, 9, none⟩)) ?_ ⟨rfl, below_same wF⟩
          have t0 := ev_of e0
          go_simp
        refine ⟨step_free rfl (fun aF wF hs hb => ?_), ?_⟩
        · obtain ⟨xx0, -⟩ := hs
          have e0 : aF.eval (.tmp 21) = .pointer (some ⟨q, 9, none⟩) := xx0
          exact opC_load e0 (LD1_1 wF hb) ⟨rfl, below_same wF⟩
        refine ⟨step_free rfl (fun aF wF hs hb => ?_), ?_⟩
        · obtain ⟨xx0, -⟩ := hs
          have e0 : aF.eval (.tmp 0) = .pointer (some ⟨g, 0, none⟩) := xx0
          exact opC_move e0 ⟨rfl, below_same wF⟩
        refine ⟨step_free rfl (fun aF wF hs hb => ?_), ?_⟩
        · obtain ⟨xx0, -⟩ := hs
          have e0 : aF.eval (.tmp 23) = .pointer (some ⟨g, 0, none⟩) := xx0
          refine opC_value (v := .pointer (some ⟨g, 0, none⟩)) ?_ ⟨rfl, below_same wF⟩
          have t0 := ev_of e0
          go_simp
        refine ⟨step_free rfl (fun aF wF hs hb => ?_), ?_⟩
        · obtain ⟨xx0, -⟩ := hs
          have e0 : aF.eval (.tmp 24) = .pointer (some ⟨g, 0, none⟩) := xx0
          refine opC_value (v := .pointer (some ⟨g, 12, none⟩)) ?_ ⟨rfl, below_same wF⟩
          have t0 := ev_of e0
          go_simp
        refine ⟨step_free rfl (fun aF wF hs hb => ?_), ?_⟩
        · obtain ⟨xx0, -⟩ := hs
          have e0 : aF.eval (.tmp 25) = .pointer (some ⟨g, 12, none⟩) := xx0
          exact opC_load e0 (LD1_2 wF hb) ⟨rfl, below_same wF⟩
        refine ⟨step_free rfl (fun aF wF hs hb => ?_), ?_⟩
        · obtain ⟨xx0, xx1, -⟩ := hs
          have e0 : aF.eval (.tmp 22) = .slice (some ⟨dq, 0, none⟩) o.M o.M := xx0
          have e1 : aF.eval (.tmp 26) = .int .i64 (x1.m : Int) := xx1
          refine opC_value (v := .pointer (some ⟨dq, x1.m * 2, none⟩)) ?_ ⟨rfl, below_same wF⟩
          have t0 := ev_of e0
          have t1 := ev_of e1
          simp [execOp, go_sem, t0, t1, hm1]
        refine ⟨step_free rfl (fun aF wF hs hb => ?_), ?_⟩
        · obtain ⟨xx0, -⟩ := hs
          have e0 : aF.eval (.tmp 27) = .pointer (some ⟨dq, x1.m * 2, none⟩) := xx0
          exact opC_load e0 (LDD wF hb) ⟨rfl, below_same wF⟩
        refine ⟨step_free rfl (fun aF wF hs hb => ?_), ?_⟩
        · exact opC_alloc (by kernel_rfl) ⟨⟨wF.heap.size, rfl, hb.size, heap_alloc_new wF _⟩, b_alloc wF _⟩
        exact trivial
      intro fv w1 hf hb1
      obtain ⟨mb, e2, hmb, hmk⟩ : (boxF W1.heap.size 76 #[.int .i32 0, .int .i64 0]).p (fv 13) w1 := hf 13 2 rfl
      have e28 : fv 12 = .agg #[.int .i32 (o.D x1.m), .int .i64 (o.Sm x1.m)] := hf 12 28 rfl
      simp only [putF, Act.put, List.setIfInBounds_toArray, List.set_cons_zero, List.set_cons_succ]
      simp only [e2, e28]
      refine opC_storeM (vs := #[.int .i32 (o.D x1.m), .int .i64 (o.Sm x1.m)]) rfl rfl hmk (by simp) infoDu9 (by simp; exact ⟨rfl, rfl⟩) ?_
      intro w2 ho2 hk2
      rw [putL_all (by rfl)] at hk2
      have hb2 : Below W1.heap.size W1 w2 := hb1.trans (below_only ho2 hmb)
      have T2 := Lib.hid (HH1.out.tel.below hb2)
      have B2 := Lib.hid (HH1.out.low.trans (hb2.mono (Nat.le_trans HB.out HH1.out.low.size)))
      have M2 := Lib.hid hk2
      have hmg : mb ≠ g := fun e => by
        have := HH1.out.tel.lt
        omega
      have HMG := Lib.hid hmg
      clear hmk e2 e28 hf ho2 hb1 hb2 hk2 hmg LD1_0 LD1_1 LD1_2 LDD HT HQ c0 c12 s9
      have HSt := Lib.hid (HS.out.below B2.out)
      obtain ⟨d0, -, -, -, -, d5, -, -, -, -, d10, d12, fz⟩ := T2.out.cells
      have f12 := fz 12
      obtain ⟨-, -, -, dq2, ds2, hS2, -, -, -⟩ := id HSt.out
      have s7 := hS2.cell 7
      have s8 := hS2.cell 8
      have m0 := M2.out.cell 0
      have m1 := M2.out.cell 1
      simp at s7 s8 m0 m1
      clear fz hS2
      have hDb := HO.out.D x1.m hm
      have hGb := HO.out.G
      have hdb := HDAY.out
      have hwa : -2147483648 ≤ o.G ∧ o.G ≤ 2147483647 := by omega
      have hw1 : -2147483648 ≤ o.D x1.m + o.G := by omega
      have hw2 : o.D x1.m + o.G ≤ 2147483647 := by omega
      have hdec : (o.D x1.m + o.G != day) = !decide (o.D x1.m + o.G = day) := by
        by_cases e : o.D x1.m + o.G = day
        · simp [e]
        · simp [e]
      clear hDb hGb hdb
      by_cases hdd : o.D x1.m + o.G = day
      · have hnd : (o.D x1.m + o.G != day) = false := by simp [hdd]
        have HDD := Lib.hid hdd
        have HMM := Lib.hid hm
        clear hdd hdec hm hm1
        have hmb := HO.out.M
        have hwm1 : -9223372036854775808 ≤ (x1.m : Int) + 1 := by omega
        have hwm2 : (x1.m : Int) + 1 ≤ 9223372036854775807 := by have := HMM.out; omega
        have HM480 := Lib.hid (show x1.m + 1 ≤ 480 by have := HMM.out; omega)
        clear hmb
        go_upto_region 2 with (fail)
        go_quiet (fail)
        go_upto_region 4 with (fail)
        have hcast : ((x1.m + 1 : Nat) : Int) = (x1.m : Int) + 1 := by omega
        have t3 := (T2.out.drewNS nq).set (k := 12) (v := .int .i64 ((x1.m + 1 : Nat) : Int)) (y := { x1 with m := x1.m + 1 }) rfl (fun ev en => telC_12 _ _ _ ev en _)
        have b3 := B2.out.trans ((below_drewN (Below.refl b0 w2) nq).setCell T2.out.base (p := ⟨g, 12, none⟩) (.int .i64 ((x1.m + 1 : Nat) : Int)))
        have m3 := (M2.out.drewN nq).far (p := ⟨g, 12, none⟩) HMG.out (.int .i64 ((x1.m + 1 : Nat) : Int))
        rw [hcast] at t3 b3 m3
        have T3 := Lib.hid t3
        have B3 := Lib.hid b3
        have M3 := Lib.hid m3
        obtain ⟨W3, hW3⟩ : ∃ W, (w2.drewN nq).setCell ⟨g, 12, none⟩ (.int .i64 ((x1.m : Int) + 1)) = W := ⟨_, rfl⟩
        rw [hW3] at T3 B3 M3 ⊢
        clear hW3 t3 b3 m3 hcast T2 B2 M2 HSt d0 d5 d10 d12 f12 s7 s8 m0 m1 hwm1 hwm2 hnd
        obtain ⟨d0, -, -, -, -, d5, -, -, -, -, -, -, -⟩ := T3.out.cells
        obtain ⟨-, -, -, dq2, ds2, hS2, -, -, -⟩ := id (HS.out.below B3.out)
        have s7 := hS2.cell 7
        have m1 := M3.out.cell 1
        simp at s7 m1
        clear hS2
        have hrel9 : ∀ w9, Tel w9 b0 g (.pointer (some ⟨q, 0, none⟩)) day l (lateM o.n o.F o.Sm day x1) → Below b0 w w9 → Lat w b0 g (.pointer (some ⟨q, 0, none⟩)) day l o Y (gk - 1) w9 (lateM o.n o.F o.Sm day x1) (Z1 + 1000000000) := fun w9 ht hl => HH.out.next HO.out HMM.out HDD.out ht hl
        have HREL := Lib.hid hrel9
        have HGK := Lib.hid (show gk - 1 < gk by have := HH.out.len; have := HMM.out; omega)
        clear hrel9
        by_cases hA : x1.d < o.Sm x1.m
        · by_cases hF0 : o.F = 0
          · have hm9 : lateM o.n o.F o.Sm day x1 = { x1 with m := x1.m + 1 } := by
              unfold lateM
              rw [if_neg (fun h => h.2 hF0)]
            have HM9 := Lib.hid hm9
            rw [hF0] at s7
            clear hm9 hF0
            go_quiet (fail)
            go_wp2_with fail
            go_roundg (gk - 1)
            case measure => exact HGK.out
            case rel => exact ⟨_, Z1 + 1000000000, Lib.hid (HREL.out _ (by rw [HM9.out]; exact T3.out.drewNS _) (below_drewN B3.out _))⟩
          · have hm9 : lateM o.n o.F o.Sm day x1 = chgM o.n day 3 (x1.m + 1) o.F { x1 with m := x1.m + 1 } := by
              unfold lateM
              rw [if_pos ⟨hA, hF0⟩]
            have HM9 := Lib.hid hm9
            clear hm9
            go_quiet (fail)
            go_upto_region 5 with (fail)
            have T3 := Lib.hid (T3.out.drewNS nq)
            have B3 := Lib.hid (below_drewN B3.out nq)
            obtain ⟨w3, hw3⟩ : ∃ W, W3.drewN nq = W := ⟨_, rfl⟩
            rw [hw3] at T3 B3 ⊢
            clear hw3 d0 d5 s7 m1 hA hF0
            obtain ⟨ev3, en3, hT3, -⟩ := id T3.out
            have HT3 := Lib.hid hT3
            obtain ⟨-, -, -, dq3, ds3, hS3, -, -, -⟩ := id (HS.out.below B3.out)
            have HQ3 := Lib.hid hS3
            have HLN := Lib.hid (HH.out.few.few (by have := HH.out.Z; have := HMM.out; omega))
            have HF9 := Lib.hid (show 0 ≤ o.F ∧ o.F ≤ 1000000000000 by have := HO.out.F; omega)
            have HF1 := Lib.hid (show 0 ≤ x1.f ∧ x1.f ≤ 1000000000000000000 by have := HH.out.bd.f; have := HH.out.Z; have := HMM.out; omega)
            have hcv : IntKind.u32.wrap ((x1.m : Int) + 1) = (x1.m : Int) + 1 := by
              have := HM480.out
              rw [IntKind.wrap_u32]
              omega
            clear hT3 hS3
            have LD5_0 : ∀ W', Below w3.heap.size w3 W' → (Instr.loadAt 3 (.pointer (some ⟨g, 12, none⟩))).run Tryz.prog W' = .ok (.int .i64 ((x1.m + 1 : Nat) : Int)) W' := fun W' hb' => by
              have x0 := (HT3.out.below hb' HT3.out.lt).cell 12
              simp [telC] at x0
              go_simp
            have LD5_1 : ∀ W', Below w3.heap.size w3 W' → (Instr.loadAt 37 (.pointer (some ⟨g, 0, none⟩))).run Tryz.prog W' = .ok (.pointer (some ⟨q, 0, none⟩)) W' := fun W' hb' => by
              have x0 := (HT3.out.below hb' HT3.out.lt).cell 0
              simp [telC] at x0
              go_simp
            have LD5_2 : ∀ W', Below w3.heap.size w3 W' → (Instr.loadAt 22 (.pointer (some ⟨q, 7, none⟩))).run Tryz.prog W' = .ok (.int .i64 o.F) W' := fun W' hb' => by
              have x0 := (HQ3.out.below hb' HQ3.out.lt).cell 7
              simp at x0
              go_simp
            go_upto_region 5 with (fail)
            refine wp_region_flow_lst _ [some 72, some 73, some 74, some 75, some 76, some 77, some 78, some 79, some 80, some 81, some 82, some 83, some 84, some 85] (fun i => ([.is (.pointer (some ⟨g, 0, none⟩)), .is (.pointer (some ⟨g, 0, none⟩)), .is (.pointer (some ⟨g, 0, none⟩)), .is (.pointer (some ⟨g, 12, none⟩)), .is (.int .i64 ((x1.m + 1 : Nat) : Int)), .is (.int .u32 ((x1.m + 1 : Nat) : Int)), .is (.pointer (some ⟨g, 0, none⟩)), .is (.pointer (some ⟨g, 0, none⟩)), .is (.pointer (some ⟨g, 0, none⟩)), .is (.pointer (some ⟨q, 0, none⟩)), .is (.pointer (some ⟨q, 0, none⟩)), .is (.pointer (some ⟨q, 1, none⟩)), .is (.pointer (some ⟨q, 7, none⟩)), .is (.int .i64 o.F)] : List Flw).getD i .any) (by rfl) (by kernel_rfl) (by kernel_rfl) (by kernel_rfl) (by rfl) (by rfl) ?_ ?_
            · skip
              refine ⟨step_free rfl (fun aF wF hs hb => ?_), ?_⟩
              · obtain ⟨xx0, -⟩ := hs
                have e0 : aF.eval (.tmp 0) = .pointer (some ⟨g, 0, none⟩) := xx0
                exact opC_move e0 ⟨rfl, below_same wF⟩
              refine ⟨step_free rfl (fun aF wF hs hb => ?_), ?_⟩
              · obtain ⟨xx0, -⟩ := hs
                have e0 : aF.eval (.tmp 0) = .pointer (some ⟨g, 0, none⟩) := xx0
                exact opC_move e0 ⟨rfl, below_same wF⟩
              refine ⟨step_free rfl (fun aF wF hs hb => ?_), ?_⟩
              · obtain ⟨xx0, -⟩ := hs
                have e0 : aF.eval (.tmp 73) = .pointer (some ⟨g, 0, none⟩) := xx0
                refine opC_value (v := .pointer (some ⟨g, 0, none⟩)) ?_ ⟨rfl, below_same wF⟩
                have t0 := ev_of e0
                go_simp
              refine ⟨step_free rfl (fun aF wF hs hb => ?_), ?_⟩
              · obtain ⟨xx0, -⟩ := hs
                have e0 : aF.eval (.tmp 74) = .pointer (some ⟨g, 0, none⟩) := xx0
                refine opC_value (v := .pointer (some ⟨g, 12, none⟩)) ?_ ⟨rfl, below_same wF⟩
                have t0 := ev_of e0
                go_simp
              refine ⟨step_free rfl (fun aF wF hs hb => ?_), ?_⟩
              · obtain ⟨xx0, -⟩ := hs
                have e0 : aF.eval (.tmp 75) = .pointer (some ⟨g, 12, none⟩) := xx0
                exact opC_load e0 (LD5_0 wF hb) ⟨rfl, below_same wF⟩
              refine ⟨step_free rfl (fun aF wF hs hb => ?_), ?_⟩
              · obtain ⟨xx0, -⟩ := hs
                have e0 : aF.eval (.tmp 76) = .int .i64 ((x1.m + 1 : Nat) : Int) := xx0
                refine opC_value (v := .int .u32 ((x1.m + 1 : Nat) : Int)) ?_ ⟨rfl, below_same wF⟩
                have t0 := ev_of e0
                simp [execOp, go_sem, t0, hcv]
              refine ⟨step_free rfl (fun aF wF hs hb => ?_), ?_⟩
              · obtain ⟨xx0, -⟩ := hs
                have e0 : aF.eval (.tmp 0) = .pointer (some ⟨g, 0, none⟩) := xx0
                exact opC_move e0 ⟨rfl, below_same wF⟩
              refine ⟨step_free rfl (fun aF wF hs hb => ?_), ?_⟩
              · obtain ⟨xx0, -⟩ := hs
                have e0 : aF.eval (.tmp 78) = .pointer (some ⟨g, 0, none⟩) := xx0
                refine opC_value (v := .pointer (some ⟨g, 0, none⟩)) ?_ ⟨rfl, below_same wF⟩
                have t0 := ev_of e0
                go_simp
              refine ⟨step_free rfl (fun aF wF hs hb => ?_), ?_⟩
              · obtain ⟨xx0, -⟩ := hs
                have e0 : aF.eval (.tmp 79) = .pointer (some ⟨g, 0, none⟩) := xx0
                refine opC_value (v := .pointer (some ⟨g, 0, none⟩)) ?_ ⟨rfl, below_same wF⟩
                have t0 := ev_of e0
                go_simp
              refine ⟨step_free rfl (fun aF wF hs hb => ?_), ?_⟩
              · obtain ⟨xx0, -⟩ := hs
                have e0 : aF.eval (.tmp 80) = .pointer (some ⟨g, 0, none⟩) := xx0
                exact opC_load e0 (LD5_1 wF hb) ⟨rfl, below_same wF⟩
              refine ⟨step_free rfl (fun aF wF hs hb => ?_), ?_⟩
              · obtain ⟨xx0, -⟩ := hs
                have e0 : aF.eval (.tmp 81) = .pointer (some ⟨q, 0, none⟩) := xx0
                refine opC_value (v := .pointer (some ⟨q, 0, none⟩)) ?_ ⟨rfl, below_same wF⟩
                have t0 := ev_of e0
                go_simp
              refine ⟨step_free rfl (fun aF wF hs hb => ?_), ?_⟩
              · obtain ⟨xx0, -⟩ := hs
                have e0 : aF.eval (.tmp 82) = .pointer (some ⟨q, 0, none⟩) := xx0
                refine opC_value (v := .pointer (some ⟨q, 1, none⟩)) ?_ ⟨rfl, below_same wF⟩
                have t0 := ev_of e0
                go_simp
              refine ⟨step_free rfl (fun aF wF hs hb => ?_), ?_⟩
              · obtain ⟨xx0, -⟩ := hs
                have e0 : aF.eval (.tmp 83) = .pointer (some ⟨q, 1, none⟩) := xx0
                refine opC_value (v := .pointer (some ⟨q, 7, none⟩)) ?_ ⟨rfl, below_same wF⟩
                have t0 := ev_of e0
                go_simp
              refine ⟨step_free rfl (fun aF wF hs hb => ?_), ?_⟩
              · obtain ⟨xx0, -⟩ := hs
                have e0 : aF.eval (.tmp 84) = .pointer (some ⟨q, 7, none⟩) := xx0
                exact opC_load e0 (LD5_2 wF hb) ⟨rfl, below_same wF⟩
              exact trivial
            intro fv5 w5 hf5 hb5
            have e72 : fv5 0 = .pointer (some ⟨g, 0, none⟩) := hf5 0 72 rfl
            have e77 : fv5 5 = .int .u32 ((x1.m + 1 : Nat) : Int) := hf5 5 77 rfl
            have e85 : fv5 13 = .int .i64 o.F := hf5 13 85 rfl
            simp only [putF, Act.put, List.setIfInBounds_toArray, List.set_cons_zero, List.set_cons_succ]
            simp only [e72, e77, e85]
            have T5 := Lib.hid (T3.out.below hb5)
            have B5 := Lib.hid (B3.out.trans (hb5.mono (Nat.le_trans HB.out B3.out.size)))
            refine opC_callK (args := #[.pointer (some ⟨g, 0, none⟩), .int .u8 ((3 : Nat) : Int), .int .u32 ((x1.m + 1 : Nat) : Int), .int .i64 o.F]) (enters_of Tryz.func107 (by kernel_rfl) rfl) (by simp; try exact ⟨rfl, rfl, rfl, rfl⟩) ?_
            refine (charge_any _ T5.out (HS.out.below B5.out) (Nat.le_trans HB.out B5.out.size) HLN.out 3 (x1.m + 1) o.F HF9.out HF1.out).mono ?_
            rintro e9 w9 ⟨rfl, b9, t9⟩
            refine ⟨_, rfl, ?_⟩
            have T9 := Lib.hid t9
            have B9 := Lib.hid (B5.out.trans b9)
            clear t9 b9 hf5 e72 e77 e85 hb5 T5 B5 T3 B3 LD5_0 LD5_1 LD5_2
            go_wp2_with fail
            go_roundg (gk - 1)
            case measure => exact HGK.out
            case rel => exact ⟨_, Z1 + 1000000000, Lib.hid (HREL.out _ (by rw [HM9.out]; exact T9.out) B9.out)⟩
        · have hm9 : lateM o.n o.F o.Sm day x1 = { x1 with m := x1.m + 1 } := by
            unfold lateM
            rw [if_neg (fun h => hA h.1)]
          have HM9 := Lib.hid hm9
          clear hm9
          go_quiet (fail)
          go_wp2_with fail
          go_roundg (gk - 1)
          case measure => exact HGK.out
          case rel => exact ⟨_, Z1 + 1000000000, Lib.hid (HREL.out _ (by rw [HM9.out]; exact T3.out.drewNS _) (below_drewN B3.out _))⟩
      · have hnd : (o.D x1.m + o.G != day) = true := by simp [hdd]
        have hy := HH.out.end_
        rw [late_stop (fun h => hdd h.2)] at hy
        have HY := Lib.hid hy
        clear hdd hdec hy hm hm1
        go_upto_region 2 with (fail)
        go_quiet (fail)
        go_wp2_with fail
        go_end0
        rw [← HY.out]
        exact ⟨rfl, below_drewN B2.out _, T2.out.drewNS _⟩
    · have hm1 : ¬ (x1.m : Int) < (o.M : Int) := by omega
      have hy := HH.out.end_
      rw [late_stop (fun h => hm h.1)] at hy
      subst hy
      clear hT hS hD hds hsw hm
      go_upto_region 0 with (fail)
      go_quiet (fail)
      go_wp2_with fail
      go_end0
      exact ⟨rfl, below_drewN HH.out.low _, HH.out.tel.drewNS _⟩
end Go.Proofs.YtpbfipeinblfgaaGreatDoor
