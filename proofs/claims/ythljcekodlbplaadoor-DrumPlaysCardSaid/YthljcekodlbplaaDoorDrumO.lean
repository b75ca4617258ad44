/-
  drum.Copy: another drum, alike, but not armed. Condition: the drum is known whole.
-/
import Derived.Test.YthljcekodlbplaaDoorDrumN
namespace Go.Proofs.YthljcekodlbplaaDoor
open Go.RowKit

set_option maxRecDepth 100000 in
set_option maxHeartbeats 1000000 in
theorem CloneS_any (ad : Addr) (n c : Nat) (X : List Value) (w : World) (hn : X.length = n * 256) (hX : ∀ j u, X[j]? = some u → w.cell? (ad.add j) = some u) (h1 : ∀ u ∈ X, u.oneCell' = true) (hm : n ≤ 1000000) :
    Calls Tryd.prog 32 #[.slice (some ad) n c] w fun e w' => ∃ g cap, e = .returned (.slice (some ⟨g, 0, none⟩) n cap) ∧ w'.ownsRow w.heap.size 73 256 (.slice (some ⟨g, 0, none⟩) n cap) n X ∧ Below w.heap.size w w' := by
  have heq := fun W : World => Lib.run_eql_slice_nil W 70 73 (some ad) n c 0 0 Tryd.underlying70
  obtain ⟨i0, hi, hz0, hz1, hz2⟩ := info_parts infoS
  have HO : Hid ((w.alloc (.cells #[] 73)).ownsRow w.heap.size 73 256 (.slice (some ⟨w.heap.size, 0, none⟩) 0 0) 0 []) := Lib.hid (World.ownsRow_lit w #[] 0 (Nat.le_refl _) (by decide) (by simp))
  have HX : Hid (∀ j u, X[j]? = some u → (w.alloc (.cells #[] 73)).cell? (ad.add j) = some u) := Lib.hid fun j u hu => by
    have h := hX j u hu
    rw [World.cell?_alloc_lt _ _ _ (World.block_lt_of_cell? w _ h)]
    exact h
  have H1 := Lib.hid h1
  have HN := Lib.hid hn
  have HI := Lib.hid (And.intro hi (And.intro hz0 (And.intro hz1 hz2)))
  clear hX h1 hn hi hz0 hz1 hz2
  go_enter Tryd.func32, Tryd.ntmps32
  go_wp2_with (with_reducible refine wpList_append_own_at _ (o := ⟨some 7, _, _, _, _, _⟩) rfl (.tmp 5) (.tmp 6) 70 rfl w.heap.size 73 i0 (.agg (Array.replicate 256 (.int .u8 0))) 256 256 Tryd.underlying70 HI.out.1 HI.out.2.1 HI.out.2.2.1 HI.out.2.2.2 ?hz (by decide) (.slice (some ⟨w.heap.size, 0, none⟩) 0 0) 0 [] ?h1 HO.out ad n c X ?h2 HN.out HX.out H1.out ?h3 ?h4 ?h5 ?_)
  case hz => rfl
  case h1 => rfl
  case h2 => rfl
  case h3 => unfold maxLen; omega
  case h4 => omega
  case h5 => simp
  intro v' w1 hown hg hnil hloc
  have hb : Below w.heap.size w w1 := ((Below.refl _ w).alloc (Nat.le_refl _) _).grown hg (by simp) (fun k hk => by have hk : some w.heap.size = some k := hk; injection hk with hk; omega)
  have hform : ∃ g cap, v' = .slice (some ⟨g, 0, none⟩) n cap := by
    rcases hown.2 with ⟨hv, _⟩ | ⟨g, cap, cur, hv, _⟩
    · exact absurd hv hnil
    · exact ⟨g, cap, hv⟩
  obtain ⟨g, cap, rfl⟩ := hform
  have HOW := Lib.hid hown
  have HB := Lib.hid hb
  clear hown hg hnil hloc hb heq HX HO HI
  go_wp2
  go_ret
  exact ⟨g, cap, rfl, HOW.out, HB.out⟩
set_option maxRecDepth 100000 in
set_option maxHeartbeats 1000000 in
theorem CloneW_any (ad : Addr) (n c : Nat) (X : List Value) (w : World) (hn : X.length = n * 257) (hX : ∀ j u, X[j]? = some u → w.cell? (ad.add j) = some u) (h1 : ∀ u ∈ X, u.oneCell' = true) (hm : n ≤ 1000000) :
    Calls Tryd.prog 33 #[.slice (some ad) n c] w fun e w' => ∃ g cap, e = .returned (.slice (some ⟨g, 0, none⟩) n cap) ∧ w'.ownsRow w.heap.size 80 257 (.slice (some ⟨g, 0, none⟩) n cap) n X ∧ Below w.heap.size w w' := by
  have heq := fun W : World => Lib.run_eql_slice_nil W 74 80 (some ad) n c 0 0 Tryd.underlying74
  obtain ⟨i0, hi, hz0, hz1, hz2⟩ := info_parts infoW
  have HO : Hid ((w.alloc (.cells #[] 80)).ownsRow w.heap.size 80 257 (.slice (some ⟨w.heap.size, 0, none⟩) 0 0) 0 []) := Lib.hid (World.ownsRow_lit w #[] 0 (Nat.le_refl _) (by decide) (by simp))
  have HX : Hid (∀ j u, X[j]? = some u → (w.alloc (.cells #[] 80)).cell? (ad.add j) = some u) := Lib.hid fun j u hu => by
    have h := hX j u hu
    rw [World.cell?_alloc_lt _ _ _ (World.block_lt_of_cell? w _ h)]
    exact h
  have H1 := Lib.hid h1
  have HN := Lib.hid hn
  have HI := Lib.hid (And.intro hi (And.intro hz0 (And.intro hz1 hz2)))
  clear hX h1 hn hi hz0 hz1 hz2
  go_enter Tryd.func33, Tryd.ntmps33
  go_wp2_with (with_reducible refine wpList_append_own_at _ (o := ⟨some 7, _, _, _, _, _⟩) rfl (.tmp 5) (.tmp 6) 74 rfl w.heap.size 80 i0 (.agg (wz 0)) 257 264 Tryd.underlying74 HI.out.1 HI.out.2.1 HI.out.2.2.1 HI.out.2.2.2 ?hz (by decide) (.slice (some ⟨w.heap.size, 0, none⟩) 0 0) 0 [] ?h1 HO.out ad n c X ?h2 HN.out HX.out H1.out ?h3 ?h4 ?h5 ?_)
  case hz => exact wz_size 0
  case h1 => rfl
  case h2 => rfl
  case h3 => unfold maxLen; omega
  case h4 => omega
  case h5 => simp
  intro v' w1 hown hg hnil hloc
  have hb : Below w.heap.size w w1 := ((Below.refl _ w).alloc (Nat.le_refl _) _).grown hg (by simp) (fun k hk => by have hk : some w.heap.size = some k := hk; injection hk with hk; omega)
  have hform : ∃ g cap, v' = .slice (some ⟨g, 0, none⟩) n cap := by
    rcases hown.2 with ⟨hv, _⟩ | ⟨g, cap, cur, hv, _⟩
    · exact absurd hv hnil
    · exact ⟨g, cap, hv⟩
  obtain ⟨g, cap, rfl⟩ := hform
  have HOW := Lib.hid hown
  have HB := Lib.hid hb
  clear hown hg hnil hloc hb heq HX HO HI
  go_wp2
  go_ret
  exact ⟨g, cap, rfl, HOW.out, HB.out⟩
set_option maxRecDepth 100000 in
set_option maxHeartbeats 1000000 in
theorem CloneI_any (ad : Addr) (n c : Nat) (X : List Value) (w : World) (hn : X.length = n * 1) (hX : ∀ j u, X[j]? = some u → w.cell? (ad.add j) = some u) (h1 : ∀ u ∈ X, u.oneCell' = true) (hm : n ≤ 1000000) :
    Calls Tryd.prog 34 #[.slice (some ad) n c] w fun e w' => ∃ g cap, e = .returned (.slice (some ⟨g, 0, none⟩) n cap) ∧ w'.ownsRow w.heap.size 3 1 (.slice (some ⟨g, 0, none⟩) n cap) n X ∧ Below w.heap.size w w' := by
  have heq := fun W : World => Lib.run_eql_slice_nil W 75 3 (some ad) n c 0 0 Tryd.underlying75
  obtain ⟨i0, hi, hz0, hz1, hz2⟩ := info_parts infoI
  have HO : Hid ((w.alloc (.cells #[] 3)).ownsRow w.heap.size 3 1 (.slice (some ⟨w.heap.size, 0, none⟩) 0 0) 0 []) := Lib.hid (World.ownsRow_lit w #[] 0 (Nat.le_refl _) (by decide) (by simp))
  have HX : Hid (∀ j u, X[j]? = some u → (w.alloc (.cells #[] 3)).cell? (ad.add j) = some u) := Lib.hid fun j u hu => by
    have h := hX j u hu
    rw [World.cell?_alloc_lt _ _ _ (World.block_lt_of_cell? w _ h)]
    exact h
  have H1 := Lib.hid h1
  have HN := Lib.hid hn
  have HI := Lib.hid (And.intro hi (And.intro hz0 (And.intro hz1 hz2)))
  clear hX h1 hn hi hz0 hz1 hz2
  go_enter Tryd.func34, Tryd.ntmps34
  go_wp2_with (with_reducible refine wpList_append_own_at _ (o := ⟨some 7, _, _, _, _, _⟩) rfl (.tmp 5) (.tmp 6) 75 rfl w.heap.size 3 i0 (.int .i64 0) 1 8 Tryd.underlying75 HI.out.1 HI.out.2.1 HI.out.2.2.1 HI.out.2.2.2 ?hz (by decide) (.slice (some ⟨w.heap.size, 0, none⟩) 0 0) 0 [] ?h1 HO.out ad n c X ?h2 HN.out HX.out H1.out ?h3 ?h4 ?h5 ?_)
  case hz => rfl
  case h1 => rfl
  case h2 => rfl
  case h3 => unfold maxLen; omega
  case h4 => omega
  case h5 => simp
  intro v' w1 hown hg hnil hloc
  have hb : Below w.heap.size w w1 := ((Below.refl _ w).alloc (Nat.le_refl _) _).grown hg (by simp) (fun k hk => by have hk : some w.heap.size = some k := hk; injection hk with hk; omega)
  have hform : ∃ g cap, v' = .slice (some ⟨g, 0, none⟩) n cap := by
    rcases hown.2 with ⟨hv, _⟩ | ⟨g, cap, cur, hv, _⟩
    · exact absurd hv hnil
    · exact ⟨g, cap, hv⟩
  obtain ⟨g, cap, rfl⟩ := hform
  have HOW := Lib.hid hown
  have HB := Lib.hid hb
  clear hown hg hnil hloc hb heq HX HO HI
  go_wp2
  go_ret
  exact ⟨g, cap, rfl, HOW.out, HB.out⟩
theorem enters_ {P : Program} {f : FuncId} {fn : Func} {c : Code} (hf : P.funcs[f]? = some fn) (hname : (fn.name == "runtime.NumGoroutine") = false) (hb : fn.body = some c) : ∀ args w, (callFunc f args).run P w = .ok (.enter f args) w := by
  intro args w
  have h1 : fn.name ≠ "runtime.NumGoroutine" := by simpa using hname
  simp [callFunc, hf, h1, hb, mark]
theorem own_later {w w' : World} {base k n : Nat} {e : TypeId} {v : Value} {X : List Value} (h : w.ownsRow base e k v n X) (hb : Below w.heap.size w w') : w'.ownsRow base e k v n X := by
  refine ⟨h.1, ?_⟩
  rcases h.2 with h' | ⟨g, cap, cur, h1, h2, hg, h3⟩
  · exact .inl h'
  · exact .inr ⟨g, cap, cur, h1, h2, (hb.block g (Array.getElem?_eq_some_iff.1 hg).1).trans hg, h3⟩
/-- A row of the call's own, in a slot. -/
def ownF (base : Nat) (e : TypeId) (k n : Nat) (X : List Value) : Flw := ⟨fun v w => ∃ A c, v = .slice A n c ∧ w.ownsRow base e k v n X, fun ⟨A, c, h1, h2⟩ hb => ⟨A, c, h1, own_later h2 hb⟩⟩
/-- A drum's head, as a value. -/
def headF (base : Nat) (fl : List (List UInt8)) (ws : List (Nat × List UInt8)) (ls : List Nat) : Flw := ⟨fun v w => ∃ A a B b C c, v = .agg (dhead A fl.length a B ws.length b C fl.length c (-1)) ∧ w.ownsRow base 73 256 (.slice A fl.length a) fl.length (flatS fl).toList ∧ w.ownsRow base 80 257 (.slice B ws.length b) ws.length (flatW ws) ∧ w.ownsRow base 3 1 (.slice C fl.length c) fl.length (encI ls).toList,
  fun ⟨A, a, B, b, C, c, h0, h1, h2, h3⟩ hb => ⟨A, a, B, b, C, c, h0, own_later h1 hb, own_later h2 hb, own_later h3 hb⟩⟩
def drumF (base : Nat) (fl : List (List UInt8)) (ws : List (Nat × List UInt8)) (ls : List Nat) : Flw := ⟨fun v w => ∃ d A a B b C c, v = .pointer (some ⟨d, 0, none⟩) ∧ base ≤ d ∧ Blk w d 77 (dhead A fl.length a B ws.length b C fl.length c (-1)) ∧ w.ownsRow base 73 256 (.slice A fl.length a) fl.length (flatS fl).toList ∧ w.ownsRow base 80 257 (.slice B ws.length b) ws.length (flatW ws) ∧ w.ownsRow base 3 1 (.slice C fl.length c) fl.length (encI ls).toList,
  fun ⟨d, A, a, B, b, C, c, h0, hd, h4, h1, h2, h3⟩ hb => ⟨d, A, a, B, b, C, c, h0, hd, h4.below hb h4.lt, own_later h1 hb, own_later h2 hb, own_later h3 hb⟩⟩
theorem opC_build4 {dst : Option Tmp} {x y z : Operand} {ty : TypeId} {pos : String} {af : Array Edge} {a : Act} {w : World} {K : Value → World → Prop} {A B C : Option Addr} {n c m e p q : Nat} (hx : a.eval x = .slice A n c) (hy : a.eval y = .slice B m e) (hz : a.eval z = .slice C p q)
    (hk : K (.agg (dhead A n c B m e C p q (-1))) w) : opC Tryd.prog ⟨dst, .build 77 #[(0, x), (1, y), (2, z), (3, .const (.int .i64 (-1)))], ty, pos, af, none⟩ a w K := by
  have hb : Tryd.prog.built 77 [(0, .slice A n c), (1, .slice B m e), (2, .slice C p q), (3, .int .i64 (-1))] = some (dhead A n c B m e C p q (-1)) := by kernel_rfl
  have hrun : (Instr.build 77 #[(0, .slice A n c), (1, .slice B m e), (2, .slice C p q), (3, .int .i64 (-1))]).run Tryd.prog w = .ok (.agg (dhead A n c B m e C p q (-1))) w := run_build w _ _ _ hb
  refine opC_value (v := .agg (dhead A n c B m e C p q (-1))) ?_ hk
  have hc : a.eval (.const (.int .i64 (-1))) = .int .i64 (-1) := rfl
  simp [execOp, hx, hy, hz, hc, hrun, Result.andThen]
theorem opC_boxD {dst : Option Tmp} {x : Operand} {ty : TypeId} {pos : String} {af : Array Edge} {a : Act} {w : World} {fl : List (List UInt8)} {ws : List (Nat × List UInt8)} {ls : List Nat} {base : Nat} (hx : (headF base fl ws ls).p (a.eval x) w) (hbase : base ≤ w.heap.size) :
    opC Tryd.prog ⟨dst, .box 77 x, ty, pos, af, none⟩ a w (fun v w' => (drumF base fl ws ls).p v w' ∧ Below w.heap.size w w') := by
  obtain ⟨A, ca, B, b, C, c, h0, h1, h2, h3⟩ := hx
  have hb : Below w.heap.size w (w.alloc (.cells (dhead A fl.length ca B ws.length b C fl.length c (-1)) 77)) := (Below.refl _ w).alloc (Nat.le_refl _) _
  constructor
  rw [show (execOp a.eval ⟨dst, .box 77 x, ty, pos, af, none⟩).run Tryd.prog w = .ok (.value (.pointer (some ⟨w.heap.size, 0, none⟩))) (w.alloc (.cells (dhead A fl.length ca B ws.length b C fl.length c (-1)) 77)) by
    simp [execOp, h0, Value.cells]
    rfl]
  exact ⟨⟨_, A, ca, B, b, C, c, rfl, hbase, Blk.new _ _ _, own_later h1 hb, own_later h2 hb, own_later h3 hb⟩, hb⟩
theorem own_le {w : World} {base base' k n : Nat} {e : TypeId} {v : Value} {X : List Value} (h : w.ownsRow base e k v n X) (hb : base' ≤ base) : w.ownsRow base' e k v n X := by
  refine ⟨h.1, ?_⟩
  rcases h.2 with h' | ⟨g, cap, cur, h1, h2, h3⟩
  · exact .inl h'
  · exact .inr ⟨g, cap, cur, h1, Nat.le_trans hb h2, h3⟩
theorem own_tail {w : World} {base k n cap g : Nat} {e : TypeId} {X : List Value} (h : w.ownsRow base e k (.slice (some ⟨g, 0, none⟩) n cap) n X) : ∃ tl, Blk w g e (X.toArray ++ tl) ∧ base ≤ g := by
  rcases h.2 with ⟨hv, _⟩ | ⟨g', cap', cur, hv, hb, hg, _, _, _, ht⟩
  · cases hv
  · injection hv with hv _ _
    injection hv with hv
    injection hv with hv _ _
    subst hv
    refine ⟨(cur.toList.drop (n * k)).toArray, ?_, hb⟩
    have e : cur = X.toArray ++ (cur.toList.drop (n * k)).toArray := by
      apply Array.toList_inj.1
      rw [Array.toList_append, ← ht]
      exact (List.take_append_drop _ _).symm
    rw [← e]
    exact hg
theorem blk_ne {w : World} {a b : Nat} {s t : TypeId} {C D : Array Value} (h : Blk w a s C) (h' : Blk w b t D) (hne : s ≠ t) : a ≠ b := by
  rintro rfl
  unfold Blk at h h'
  rw [h] at h'
  injection h' with h'
  injection h' with _ h' _
  exact hne h'
theorem CloneW_nil (w : World) : Calls Tryd.prog 33 #[.slice none 0 0] w fun e w' => e = .returned (.slice none 0 0) ∧ w' = w := by
  have heq := fun W : World => Lib.run_eql_slice_nil W 74 80 none 0 0 0 0 Tryd.underlying74
  go_enter Tryd.func33, Tryd.ntmps33
  go_wp2
  go_ret
  exact ⟨rfl, rfl⟩
section
variable {w : World} {base d f g : Nat} {V : Option Addr} {cv : Nat} {T : Tails} {fl : List (List UInt8)} {ws : List (Nat × List UInt8)} {ls : List Nat} {left : Int}
theorem Dru.of_drumF {w' : World} (h : Dru w base d f g V cv T fl ws ls left) (hn : 0 < fl.length) {v : Value} (hv : (drumF w.heap.size fl ws ls).p v w') :
    ∃ d' f' g' V' cv' T', v = .pointer (some ⟨d', 0, none⟩) ∧ Dru w' w.heap.size d' f' g' V' cv' T' fl ws ls (-1) := by
  obtain ⟨d', A, a, B, b, C, c, rfl, hd, h4, h1, h2, h3⟩ := hv
  obtain ⟨f', cf, hv1, _, _⟩ := h1.form hn
  obtain ⟨g', cl, hv3, _, _⟩ := h3.form hn
  injection hv1 with e1 _ e2
  injection hv3 with e3 _ e4
  subst e1 e3
  obtain ⟨tf, hbf, hf⟩ := own_tail h1
  obtain ⟨tg, hbg, hg⟩ := own_tail h3
  rw [Array.toArray_toList] at hbf hbg
  refine ⟨d', f', g', B, b, ⟨a, c, tf, tg⟩, rfl, ⟨h4, hbf, hbg, h2, ⟨hd, hf, hg, blk_ne h4 hbf (by decide), blk_ne h4 hbg (by decide), blk_ne hbf hbg (by decide), fun ad e => ?_⟩, h.len, h.full, h.fullW, h.le, h.few, h.fewW⟩⟩
  subst e
  rcases h2.2 with ⟨hv, _⟩ | ⟨k, cap, cur, hv, _, hk, _⟩
  · cases hv
  · injection hv with hv _ _
    injection hv with hv
    subst hv
    have hbk : Blk w' k 80 cur := hk
    exact ⟨blk_ne hbk h4 (by decide), blk_ne hbk hbf (by decide), blk_ne hbk hbg (by decide)⟩
set_option maxRecDepth 100000 in
set_option maxHeartbeats 4000000 in
theorem Copy_any (h : Dru w base d f g V cv T fl ws ls left) (hn : 0 < fl.length) : Calls Tryd.prog 12 #[.pointer (some ⟨d, 0, none⟩)] w fun e w' =>
    ∃ d' f' g' V' cv' T', e = .returned (.pointer (some ⟨d', 0, none⟩)) ∧ Dru w' w.heap.size d' f' g' V' cv' T' fl ws ls (-1) ∧ Below w.heap.size w w' := by
  have hfw := h.few
  have hww := h.fewW
  have cS : ∀ wF, Below w.heap.size w wF → Calls Tryd.prog 32 #[.slice (some ⟨f, 0, none⟩) fl.length T.cf] wF (ToF (ownF w.heap.size 73 256 fl.length (flatS fl).toList) wF) := fun wF hb => by
    have hr := h.rows.below hb h.rows.lt
    refine (CloneS_any ⟨f, 0, none⟩ fl.length T.cf (flatS fl).toList wF (flatS_len fl h.full) (fun j u hu => ?_) (fun u hu => ?_) (by omega)).mono ?_
    · rw [Addr.add_mid, Nat.zero_add, hr.cell]
      rw [Array.getElem?_toList] at hu
      rw [Array.getElem?_append_left (Array.getElem?_eq_some_iff.1 hu).1]
      exact hu
    · unfold flatS at hu
      rw [List.mem_flatten] at hu
      obtain ⟨s, hs, hu⟩ := hu
      obtain ⟨x, _, rfl⟩ := List.mem_map.1 hs
      exact enc8_one x u hu
    · rintro e w' ⟨g1, cap, rfl, ho, hb'⟩
      exact ⟨_, rfl, ⟨_, _, rfl, own_le ho hb.size⟩, hb'⟩
  have cI : ∀ wF, Below w.heap.size w wF → Calls Tryd.prog 34 #[.slice (some ⟨g, 0, none⟩) fl.length T.cl] wF (ToF (ownF w.heap.size 3 1 fl.length (encI ls).toList) wF) := fun wF hb => by
    have hr := h.last.below hb h.last.lt
    refine (CloneI_any ⟨g, 0, none⟩ fl.length T.cl (encI ls).toList wF (by rw [Array.length_toList, encI_size, h.len, Nat.mul_one]) (fun j u hu => ?_) (fun u hu => ?_) (by omega)).mono ?_
    · rw [Addr.add_mid, Nat.zero_add, hr.cell]
      rw [Array.getElem?_toList] at hu
      rw [Array.getElem?_append_left (Array.getElem?_eq_some_iff.1 hu).1]
      exact hu
    · unfold encI at hu
      obtain ⟨x, _, rfl⟩ := List.mem_map.1 hu
      rfl
    · rintro e w' ⟨g1, cap, rfl, ho, hb'⟩
      exact ⟨_, rfl, ⟨_, _, rfl, own_le ho hb.size⟩, hb'⟩
  have L7 : ∀ W', Below w.heap.size w W' → (Instr.loadAt 70 (.pointer (some ⟨d, 0, none⟩))).run Tryd.prog W' = .ok (.slice (some ⟨f, 0, none⟩) fl.length T.cf) W' := fun W' hb => by
    obtain ⟨c0, -⟩ := dhead_cells (h.head.below hb h.head.lt)
    go_simp
  have L12 : ∀ W', Below w.heap.size w W' → (Instr.loadAt 74 (.pointer (some ⟨d, 1, none⟩))).run Tryd.prog W' = .ok (.slice V ws.length cv) W' := fun W' hb => by
    obtain ⟨-, c1, -⟩ := dhead_cells (h.head.below hb h.head.lt)
    go_simp
  have L17 : ∀ W', Below w.heap.size w W' → (Instr.loadAt 75 (.pointer (some ⟨d, 2, none⟩))).run Tryd.prog W' = .ok (.slice (some ⟨g, 0, none⟩) fl.length T.cl) W' := fun W' hb => by
    obtain ⟨-, -, c2, -⟩ := dhead_cells (h.head.below hb h.head.lt)
    go_simp
  have hrow := h.row
  have hfull := h.fullW
  have hV : (V = none ∧ cv = 0 ∧ ws.length = 0) ∨ ∃ v, V = some ⟨v, 0, none⟩ := by
    rcases hrow.2 with ⟨hv, h0⟩ | ⟨k, cap, cur, hv, _⟩
    · injection hv with h1 _ h2; exact .inl ⟨h1, h2, h0⟩
    · injection hv with h1 _ _; exact .inr ⟨k, h1⟩
  rcases hV with ⟨rfl, rfl, hw0⟩ | ⟨v, rfl⟩
  · have cW : ∀ wF, Below w.heap.size w wF → Calls Tryd.prog 33 #[.slice none 0 0] wF (ToF (ownF w.heap.size 80 257 ws.length (flatW ws)) wF) := fun wF hb => by
      refine (CloneW_nil wF).mono ?_
      rintro e w' ⟨rfl, rfl⟩
      exact ⟨_, rfl, ⟨none, 0, by rw [hw0], by rw [← hw0]; exact ⟨hrow.1, .inl ⟨by rw [hw0], hw0⟩⟩⟩, below_same _⟩
    rw [hw0] at L12
    have H := Lib.hid h
    clear hrow hfull h
    go_enter Tryd.func12, Tryd.ntmps12
    go_wp2_with fail
    refine wp_region_flow [some 5, some 6, some 7, some 8, some 9, some 10, some 11, some 12, some 13, some 14, some 15, some 16, some 17, some 18, some 19, some 20, some 21, some 2] (fun i => ([.is (.pointer (some ⟨d, 0, none⟩)), .is (.pointer (some ⟨d, 0, none⟩)), .is (.pointer (some ⟨d, 0, none⟩)), .is (.slice (some ⟨f, 0, none⟩) fl.length T.cf), ownF w.heap.size 73 256 fl.length (flatS fl).toList, .is (.pointer (some ⟨d, 0, none⟩)), .is (.pointer (some ⟨d, 0, none⟩)), .is (.pointer (some ⟨d, 1, none⟩)), .is (.slice none 0 0), ownF w.heap.size 80 257 ws.length (flatW ws), .is (.pointer (some ⟨d, 0, none⟩)), .is (.pointer (some ⟨d, 0, none⟩)), .is (.pointer (some ⟨d, 2, none⟩)), .is (.slice (some ⟨g, 0, none⟩) fl.length T.cl), ownF w.heap.size 3 1 fl.length (encI ls).toList, headF w.heap.size fl ws ls, drumF w.heap.size fl ws ls, drumF w.heap.size fl ws ls] : List Flw).getD i .any) (by kernel_rfl) (by kernel_rfl) rfl ?_ ?_
    · skip
      refine ⟨step_free rfl (fun aF wF hs hb => ?_), ?_⟩
      · obtain ⟨x0, -⟩ := hs
        have e0 : aF.eval (.tmp 0) = .pointer (some ⟨d, 0, none⟩) := x0
        exact opC_move e0 ⟨rfl, below_same wF⟩
      refine ⟨step_free rfl (fun aF wF hs hb => ?_), ?_⟩
      · obtain ⟨x0, -⟩ := hs
        have e0 : aF.eval (.tmp 5) = .pointer (some ⟨d, 0, none⟩) := x0
        refine opC_value (v := .pointer (some ⟨d, 0, none⟩)) ?_ ⟨rfl, below_same wF⟩
        have t0 := ev_of e0
        simp [execOp, go_sem, t0]
      refine ⟨step_free rfl (fun aF wF hs hb => ?_), ?_⟩
      · obtain ⟨x0, -⟩ := hs
        have e0 : aF.eval (.tmp 6) = .pointer (some ⟨d, 0, none⟩) := x0
        refine opC_value (v := .pointer (some ⟨d, 0, none⟩)) ?_ ⟨rfl, below_same wF⟩
        have t0 := ev_of e0
        simp [execOp, go_sem, t0]
      refine ⟨step_free rfl (fun aF wF hs hb => ?_), ?_⟩
      · obtain ⟨x0, -⟩ := hs
        have e0 : aF.eval (.tmp 7) = .pointer (some ⟨d, 0, none⟩) := x0
        exact opC_load e0 (L7 wF hb) ⟨rfl, below_same wF⟩
      refine ⟨step_free rfl (fun aF wF hs hb => ?_), ?_⟩
      · obtain ⟨x0, -⟩ := hs
        have e0 : aF.eval (.tmp 8) = .slice (some ⟨f, 0, none⟩) fl.length T.cf := x0
        exact opC_callF (args := #[.slice (some ⟨f, 0, none⟩) fl.length T.cf]) (enters_ Tryd.func32 (by kernel_rfl) rfl) (by simp [e0]) (cS wF hb) (fun _ _ h1 h2 => ⟨h1, h2⟩)
      refine ⟨step_free rfl (fun aF wF hs hb => ?_), ?_⟩
      · obtain ⟨x0, -⟩ := hs
        have e0 : aF.eval (.tmp 0) = .pointer (some ⟨d, 0, none⟩) := x0
        exact opC_move e0 ⟨rfl, below_same wF⟩
      refine ⟨step_free rfl (fun aF wF hs hb => ?_), ?_⟩
      · obtain ⟨x0, -⟩ := hs
        have e0 : aF.eval (.tmp 10) = .pointer (some ⟨d, 0, none⟩) := x0
        refine opC_value (v := .pointer (some ⟨d, 0, none⟩)) ?_ ⟨rfl, below_same wF⟩
        have t0 := ev_of e0
        simp [execOp, go_sem, t0]
      refine ⟨step_free rfl (fun aF wF hs hb => ?_), ?_⟩
      · obtain ⟨x0, -⟩ := hs
        have e0 : aF.eval (.tmp 11) = .pointer (some ⟨d, 0, none⟩) := x0
        refine opC_value (v := .pointer (some ⟨d, 1, none⟩)) ?_ ⟨rfl, below_same wF⟩
        have t0 := ev_of e0
        simp [execOp, go_sem, t0]
      refine ⟨step_free rfl (fun aF wF hs hb => ?_), ?_⟩
      · obtain ⟨x0, -⟩ := hs
        have e0 : aF.eval (.tmp 12) = .pointer (some ⟨d, 1, none⟩) := x0
        exact opC_load e0 (L12 wF hb) ⟨rfl, below_same wF⟩
      refine ⟨step_free rfl (fun aF wF hs hb => ?_), ?_⟩
      · obtain ⟨x0, -⟩ := hs
        have e0 : aF.eval (.tmp 13) = .slice none 0 0 := x0
        exact opC_callF (args := #[.slice none 0 0]) (enters_ Tryd.func33 (by kernel_rfl) rfl) (by simp [e0]) (cW wF hb) (fun _ _ h1 h2 => ⟨h1, h2⟩)
      refine ⟨step_free rfl (fun aF wF hs hb => ?_), ?_⟩
      · obtain ⟨x0, -⟩ := hs
        have e0 : aF.eval (.tmp 0) = .pointer (some ⟨d, 0, none⟩) := x0
        exact opC_move e0 ⟨rfl, below_same wF⟩
      refine ⟨step_free rfl (fun aF wF hs hb => ?_), ?_⟩
      · obtain ⟨x0, -⟩ := hs
        have e0 : aF.eval (.tmp 15) = .pointer (some ⟨d, 0, none⟩) := x0
        refine opC_value (v := .pointer (some ⟨d, 0, none⟩)) ?_ ⟨rfl, below_same wF⟩
        have t0 := ev_of e0
        simp [execOp, go_sem, t0]
      refine ⟨step_free rfl (fun aF wF hs hb => ?_), ?_⟩
      · obtain ⟨x0, -⟩ := hs
        have e0 : aF.eval (.tmp 16) = .pointer (some ⟨d, 0, none⟩) := x0
        refine opC_value (v := .pointer (some ⟨d, 2, none⟩)) ?_ ⟨rfl, below_same wF⟩
        have t0 := ev_of e0
        simp [execOp, go_sem, t0]
      refine ⟨step_free rfl (fun aF wF hs hb => ?_), ?_⟩
      · obtain ⟨x0, -⟩ := hs
        have e0 : aF.eval (.tmp 17) = .pointer (some ⟨d, 2, none⟩) := x0
        exact opC_load e0 (L17 wF hb) ⟨rfl, below_same wF⟩
      refine ⟨step_free rfl (fun aF wF hs hb => ?_), ?_⟩
      · obtain ⟨x0, -⟩ := hs
        have e0 : aF.eval (.tmp 18) = .slice (some ⟨g, 0, none⟩) fl.length T.cl := x0
        exact opC_callF (args := #[.slice (some ⟨g, 0, none⟩) fl.length T.cl]) (enters_ Tryd.func34 (by kernel_rfl) rfl) (by simp [e0]) (cI wF hb) (fun _ _ h1 h2 => ⟨h1, h2⟩)
      refine ⟨step_free rfl (fun aF wF hs hb => ?_), ?_⟩
      · obtain ⟨x0, x1, x2, -⟩ := hs
        obtain ⟨a9, b9, e9, h9⟩ := x0
        obtain ⟨a14, b14, e14, h14⟩ := x1
        obtain ⟨a19, b19, e19, h19⟩ := x2
        exact opC_build4 e9 e14 e19 ⟨⟨a9, b9, a14, b14, a19, b19, rfl, e9 ▸ h9, e14 ▸ h14, e19 ▸ h19⟩, below_same wF⟩
      refine ⟨step_free rfl (fun aF wF hs hb => ?_), ?_⟩
      · obtain ⟨x0, -⟩ := hs
        exact opC_boxD x0 hb.size
      refine ⟨step_free rfl (fun aF wF hs hb => ?_), ?_⟩
      · obtain ⟨x0, -⟩ := hs
        exact opC_assign rfl ⟨x0, below_same wF⟩
      exact trivial
    · intro fv w6 hf hb6
      have hp := hf 17 2 rfl
      clear hf cS cI cW L7 L12 L17
      simp only [putF, Act.put, List.setIfInBounds_toArray, List.set_cons_zero, List.set_cons_succ]
      obtain ⟨d', f', g', V', cv', T', e, hd⟩ := H.out.of_drumF hn hp
      rw [e]
      have HD := Lib.hid hd
      have HB := Lib.hid hb6
      clear hp e hd hb6
      go_wp2
      go_ret
      exact ⟨d', f', g', V', cv', T', rfl, HD.out, HB.out⟩
  · have cW : ∀ wF, Below w.heap.size w wF → Calls Tryd.prog 33 #[.slice (some ⟨v, 0, none⟩) ws.length cv] wF (ToF (ownF w.heap.size 80 257 ws.length (flatW ws)) wF) := fun wF hb => by
      have hr := own_later hrow hb
      refine (CloneW_any ⟨v, 0, none⟩ ws.length cv (flatW ws) wF hrow.1 (fun j u hu => ?_) (fun u hu => ?_) hww).mono ?_
      · rw [Addr.add_mid, Nat.zero_add, hr.cellAt j (by rw [← hrow.1]; exact (List.getElem?_eq_some_iff.1 hu).1)]
        exact hu
      · unfold flatW at hu
        rw [List.mem_flatten] at hu
        obtain ⟨s, hs, hu⟩ := hu
        obtain ⟨x, _, rfl⟩ := List.mem_map.1 hs
        exact encW_one x u hu
      · rintro e w' ⟨g1, cap, rfl, ho, hb'⟩
        exact ⟨_, rfl, ⟨_, _, rfl, own_le ho hb.size⟩, hb'⟩
    have H := Lib.hid h
    clear hrow hfull h
    go_enter Tryd.func12, Tryd.ntmps12
    go_wp2_with fail
    refine wp_region_flow [some 5, some 6, some 7, some 8, some 9, some 10, some 11, some 12, some 13, some 14, some 15, some 16, some 17, some 18, some 19, some 20, some 21, some 2] (fun i => ([.is (.pointer (some ⟨d, 0, none⟩)), .is (.pointer (some ⟨d, 0, none⟩)), .is (.pointer (some ⟨d, 0, none⟩)), .is (.slice (some ⟨f, 0, none⟩) fl.length T.cf), ownF w.heap.size 73 256 fl.length (flatS fl).toList, .is (.pointer (some ⟨d, 0, none⟩)), .is (.pointer (some ⟨d, 0, none⟩)), .is (.pointer (some ⟨d, 1, none⟩)), .is (.slice (some ⟨v, 0, none⟩) ws.length cv), ownF w.heap.size 80 257 ws.length (flatW ws), .is (.pointer (some ⟨d, 0, none⟩)), .is (.pointer (some ⟨d, 0, none⟩)), .is (.pointer (some ⟨d, 2, none⟩)), .is (.slice (some ⟨g, 0, none⟩) fl.length T.cl), ownF w.heap.size 3 1 fl.length (encI ls).toList, headF w.heap.size fl ws ls, drumF w.heap.size fl ws ls, drumF w.heap.size fl ws ls] : List Flw).getD i .any) (by kernel_rfl) (by kernel_rfl) rfl ?_ ?_
    · skip
      refine ⟨step_free rfl (fun aF wF hs hb => ?_), ?_⟩
      · obtain ⟨x0, -⟩ := hs
        have e0 : aF.eval (.tmp 0) = .pointer (some ⟨d, 0, none⟩) := x0
        exact opC_move e0 ⟨rfl, below_same wF⟩
      refine ⟨step_free rfl (fun aF wF hs hb => ?_), ?_⟩
      · obtain ⟨x0, -⟩ := hs
        have e0 : aF.eval (.tmp 5) = .pointer (some ⟨d, 0, none⟩) := x0
        refine opC_value (v := .pointer (some ⟨d, 0, none⟩)) ?_ ⟨rfl, below_same wF⟩
        have t0 := ev_of e0
        simp [execOp, go_sem, t0]
      refine ⟨step_free rfl (fun aF wF hs hb => ?_), ?_⟩
      · obtain ⟨x0, -⟩ := hs
        have e0 : aF.eval (.tmp 6) = .pointer (some ⟨d, 0, none⟩) := x0
        refine opC_value (v := .pointer (some ⟨d, 0, none⟩)) ?_ ⟨rfl, below_same wF⟩
        have t0 := ev_of e0
        simp [execOp, go_sem, t0]
      refine ⟨step_free rfl (fun aF wF hs hb => ?_), ?_⟩
      · obtain ⟨x0, -⟩ := hs
        have e0 : aF.eval (.tmp 7) = .pointer (some ⟨d, 0, none⟩) := x0
        exact opC_load e0 (L7 wF hb) ⟨rfl, below_same wF⟩
      refine ⟨step_free rfl (fun aF wF hs hb => ?_), ?_⟩
      · obtain ⟨x0, -⟩ := hs
        have e0 : aF.eval (.tmp 8) = .slice (some ⟨f, 0, none⟩) fl.length T.cf := x0
        exact opC_callF (args := #[.slice (some ⟨f, 0, none⟩) fl.length T.cf]) (enters_ Tryd.func32 (by kernel_rfl) rfl) (by simp [e0]) (cS wF hb) (fun _ _ h1 h2 => ⟨h1, h2⟩)
      refine ⟨step_free rfl (fun aF wF hs hb => ?_), ?_⟩
      · obtain ⟨x0, -⟩ := hs
        have e0 : aF.eval (.tmp 0) = .pointer (some ⟨d, 0, none⟩) := x0
        exact opC_move e0 ⟨rfl, below_same wF⟩
      refine ⟨step_free rfl (fun aF wF hs hb => ?_), ?_⟩
      · obtain ⟨x0, -⟩ := hs
        have e0 : aF.eval (.tmp 10) = .pointer (some ⟨d, 0, none⟩) := x0
        refine opC_value (v := .pointer (some ⟨d, 0, none⟩)) ?_ ⟨rfl, below_same wF⟩
        have t0 := ev_of e0
        simp [execOp, go_sem, t0]
      refine ⟨step_free rfl (fun aF wF hs hb => ?_), ?_⟩
      · obtain ⟨x0, -⟩ := hs
        have e0 : aF.eval (.tmp 11) = .pointer (some ⟨d, 0, none⟩) := x0
        refine opC_value (v := .pointer (some ⟨d, 1, none⟩)) ?_ ⟨rfl, below_same wF⟩
        have t0 := ev_of e0
        simp [execOp, go_sem, t0]
      refine ⟨step_free rfl (fun aF wF hs hb => ?_), ?_⟩
      · obtain ⟨x0, -⟩ := hs
        have e0 : aF.eval (.tmp 12) = .pointer (some ⟨d, 1, none⟩) := x0
        exact opC_load e0 (L12 wF hb) ⟨rfl, below_same wF⟩
      refine ⟨step_free rfl (fun aF wF hs hb => ?_), ?_⟩
      · obtain ⟨x0, -⟩ := hs
        have e0 : aF.eval (.tmp 13) = .slice (some ⟨v, 0, none⟩) ws.length cv := x0
        exact opC_callF (args := #[.slice (some ⟨v, 0, none⟩) ws.length cv]) (enters_ Tryd.func33 (by kernel_rfl) rfl) (by simp [e0]) (cW wF hb) (fun _ _ h1 h2 => ⟨h1, h2⟩)
      refine ⟨step_free rfl (fun aF wF hs hb => ?_), ?_⟩
      · obtain ⟨x0, -⟩ := hs
        have e0 : aF.eval (.tmp 0) = .pointer (some ⟨d, 0, none⟩) := x0
        exact opC_move e0 ⟨rfl, below_same wF⟩
      refine ⟨step_free rfl (fun aF wF hs hb => ?_), ?_⟩
      · obtain ⟨x0, -⟩ := hs
        have e0 : aF.eval (.tmp 15) = .pointer (some ⟨d, 0, none⟩) := x0
        refine opC_value (v := .pointer (some ⟨d, 0, none⟩)) ?_ ⟨rfl, below_same wF⟩
        have t0 := ev_of e0
        simp [execOp, go_sem, t0]
      refine ⟨step_free rfl (fun aF wF hs hb => ?_), ?_⟩
      · obtain ⟨x0, -⟩ := hs
        have e0 : aF.eval (.tmp 16) = .pointer (some ⟨d, 0, none⟩) := x0
        refine opC_value (v := .pointer (some ⟨d, 2, none⟩)) ?_ ⟨rfl, below_same wF⟩
        have t0 := ev_of e0
        simp [execOp, go_sem, t0]
      refine ⟨step_free rfl (fun aF wF hs hb => ?_), ?_⟩
      · obtain ⟨x0, -⟩ := hs
        have e0 : aF.eval (.tmp 17) = .pointer (some ⟨d, 2, none⟩) := x0
        exact opC_load e0 (L17 wF hb) ⟨rfl, below_same wF⟩
      refine ⟨step_free rfl (fun aF wF hs hb => ?_), ?_⟩
      · obtain ⟨x0, -⟩ := hs
        have e0 : aF.eval (.tmp 18) = .slice (some ⟨g, 0, none⟩) fl.length T.cl := x0
        exact opC_callF (args := #[.slice (some ⟨g, 0, none⟩) fl.length T.cl]) (enters_ Tryd.func34 (by kernel_rfl) rfl) (by simp [e0]) (cI wF hb) (fun _ _ h1 h2 => ⟨h1, h2⟩)
      refine ⟨step_free rfl (fun aF wF hs hb => ?_), ?_⟩
      · obtain ⟨x0, x1, x2, -⟩ := hs
        obtain ⟨a9, b9, e9, h9⟩ := x0
        obtain ⟨a14, b14, e14, h14⟩ := x1
        obtain ⟨a19, b19, e19, h19⟩ := x2
        exact opC_build4 e9 e14 e19 ⟨⟨a9, b9, a14, b14, a19, b19, rfl, e9 ▸ h9, e14 ▸ h14, e19 ▸ h19⟩, below_same wF⟩
      refine ⟨step_free rfl (fun aF wF hs hb => ?_), ?_⟩
      · obtain ⟨x0, -⟩ := hs
        exact opC_boxD x0 hb.size
      refine ⟨step_free rfl (fun aF wF hs hb => ?_), ?_⟩
      · obtain ⟨x0, -⟩ := hs
        exact opC_assign rfl ⟨x0, below_same wF⟩
      exact trivial
    · intro fv w6 hf hb6
      have hp := hf 17 2 rfl
      clear hf cS cI cW L7 L12 L17
      simp only [putF, Act.put, List.setIfInBounds_toArray, List.set_cons_zero, List.set_cons_succ]
      obtain ⟨d', f', g', V', cv', T', e, hd⟩ := H.out.of_drumF hn hp
      rw [e]
      have HD := Lib.hid hd
      have HB := Lib.hid hb6
      clear hp e hd hb6
      go_wp2
      go_ret
      exact ⟨d', f', g', V', cv', T', rfl, HD.out, HB.out⟩
end
theorem Copy_dr {w : World} {base d : Nat} {o : Nat → Prop} {fl : List (List UInt8)} {ws : List (Nat × List UInt8)} {left : Int} (h : Dr w base d o fl ws left) (hn : 0 < fl.length) :
    Calls Tryd.prog 12 #[.pointer (some ⟨d, 0, none⟩)] w fun e w' => ∃ d' o', e = .returned (.pointer (some ⟨d', 0, none⟩)) ∧ Dr w' w.heap.size d' o' fl ws (-1) ∧ Below w.heap.size w w' := by
  obtain ⟨f, g, V, cv, T, ls, h, hr, rfl⟩ := h
  refine (Copy_any h hn).mono ?_
  rintro e w' ⟨d', f', g', V', cv', T', rfl, h', hb⟩
  exact ⟨d', _, rfl, ⟨f', g', V', cv', T', ls, h', hr, rfl⟩, hb⟩
end Go.Proofs.YthljcekodlbplaaDoor
