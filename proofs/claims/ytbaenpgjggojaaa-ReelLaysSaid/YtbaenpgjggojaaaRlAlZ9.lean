/-
The reference's All. Conditions: the records are there, of a hundred thousand bytes at most; not too many; a generation of 32 bits.
-/
import Derived.Test.YtbaenpgjggojaaaRlLyZ9
namespace Go.Proofs.Ytbaenpgjggojaaa
open Go.ChangeShapes Go.WideShapes Go.RowKit

theorem wpList_appendLm {w : World} {ops : Array Oper} {rest : List Oper} {o : Oper} {a : Act} {Q : Exit → Act → World → Prop} (hgd : o.guard = Option.none) (s x : Operand)
    (ho : o.op = .call { callee := .builtin .append, args := #[s, x], argTypes := #[22, 22] })
    (base : Nat) (v : Value) (n : Nat) (l : List Value) (hs : a.eval s = v) (hown : OwnR w base v n l)
    (b m c : Nat) (us : List Value) (hx : a.eval x = .slice (some ⟨b, 0, none⟩) m c) (hl : us.length = m) (hR : ∀ (j : Nat) u, us[j]? = some u → w.cell? ⟨b, j, none⟩ = some u) (hu : ∀ u ∈ us, u.oneCell' = true) (hsz : n + m ≤ 1000000) (hbase : base ≤ w.heap.size)
    (h : ∀ v' w', OwnR w' base v' (n + m) (l ++ us) → w.grownBy w' v.ownBlock → (v'.ownBlock = v.ownBlock ∨ v'.ownBlock = some w.heap.size) → wpList Try.prog ops Q rest (a.put o.dst v') w') : wpList Try.prog ops Q (o :: rest) a w := by
  refine wpList_plain hgd fun _ hK => ?_
  obtain ⟨i0, hi, hz0, hz1, hz2⟩ := info_parts infoR
  obtain ⟨v', w', hr, h2, h3, _, h4⟩ := run_append_own_at (P := Try.prog) w base 22 o.type 35 i0 (.slice none 0 0) 1 24 Try.underlying22 hi hz0 hz1 hz2 rfl (by decide) v n l hown
      ⟨b, 0, none⟩ m c us (by rw [hl, Nat.mul_one]) (fun j y hy => by simpa [go_sem] using hR j y hy) hu (by unfold maxLen; omega) (by omega) hbase
  unfold Oper.wp execOp
  simp only [ho, resolve, invoke, builtin, Sem.run_bind, Sem.run_pure, Result.andThen_ok, List.map_toArray, List.map_cons, List.map_nil, hs, hx, hr]
  exact hK _ _ (h v' w' h2 h3 h4)
/-- One list of rows behind another. -/
theorem Gath.join {W0 W W3 : World} {k co cn : Nat} {Ao An : Option Addr} {vals news : List Value} {Ls Ns : List (List UInt8)} {v' : Value} (h : Gath W0.heap.size NoOwn Ao co vals Ls W) (hk : Ls.length = k) (_hw : W0.heap.size ≤ W.heap.size) {B : Nat} (hN : Gath B NoOwn An cn news Ns W) (hB : W0.heap.size ≤ B)
    (hq : ∀ q, (Value.slice Ao k co).ownBlock = some q → q < B) (hown : OwnR W3 W0.heap.size v' (k + Ns.length) (vals ++ news)) (hg : W.grownBy W3 (Value.slice Ao k co).ownBlock) (hloc : v'.ownBlock = (Value.slice Ao k co).ownBlock ∨ v'.ownBlock = some W.heap.size) (hb : Below W0.heap.size W0 W) :
    ∃ A' c', v' = .slice A' (k + Ns.length) c' ∧ Gath W0.heap.size NoOwn A' c' (vals ++ news) (Ls ++ Ns) W3 ∧ Below W0.heap.size W0 W3 := by
  subst hk
  obtain ⟨h1, h2, h3, h4⟩ := h
  obtain ⟨n1, n2, n3, n4⟩ := hN
  obtain ⟨-, A', c', rfl, -, -, -⟩ := own_formR hown
  have hk := kept_grown hg
  have hnew : ∀ q, (Value.slice A' (Ls.length + Ns.length) c').ownBlock = some q → (Value.slice Ao Ls.length co).ownBlock = some q ∨ W.heap.size ≤ q := fun q hq => by
    rcases hloc with e | e
    · exact .inl (by rw [← e]; exact hq)
    · right
      rw [e] at hq
      injection hq with hq
      omega
  refine ⟨A', c', rfl, ?_, kept_below hk hb hb.size fun i hi => (World.ownsRow.lt h1 i hi).1⟩
  unfold Gath
  rw [List.length_append]
  refine ⟨hown, by simp [h2, n2], fun q hq e => e, fun i v b hv hb => ?_⟩
  by_cases hi : i < Ls.length
  · rw [List.getElem?_append_left (by omega)] at hv hb
    obtain ⟨g1, g2⟩ := h4 i v b hv hb
    refine ⟨ownB_kept g1 hk fun q hq e => (g2 q hq).2 e, fun q hq => ⟨fun e => e, fun e => ?_⟩⟩
    rcases hnew q e with h | h
    · exact (g2 q hq).2 h
    · have := (World.ownsRow.lt g1 q hq).2; omega
  · rw [List.getElem?_append_right (by omega), h2] at hv
    rw [List.getElem?_append_right (by omega)] at hb
    obtain ⟨g1, g2⟩ := n4 _ v b hv hb
    have g3 := fun q hq => World.ownsRow.lt g1 q hq
    refine ⟨ownB_kept (g1.low hB) hk fun q hz e => by have := hq q e; have := g3 q hz; omega, fun q hz => ⟨fun e => e, fun e => ?_⟩⟩
    rcases hnew q e with h | h
    · have := hq q h; have := g3 q hz; omega
    · have := (g3 q hz).2; omega
theorem pagesN_le (n : Nat) (h : n ≤ 100000) : pagesN n ≤ 394 := by unfold pagesN; omega
theorem usedN_take (L : List (List UInt8)) (k : Nat) (hk : k < L.length) : usedN (L.take (k + 1)) = usedN (L.take k) + pagesN (L[k]).length := by
  rw [List.take_succ_eq_append_getElem hk, usedN_snoc]
theorem usedN_small (L : List (List UInt8)) (h : ∀ p ∈ L, p.length ≤ 100000) : usedN L ≤ 394 * L.length := by
  induction L with
  | nil => exact Nat.le_refl _
  | cons p L ih =>
    rw [usedN_cons, List.length_cons]
    have h1 := pagesN_le p.length (h p (List.mem_cons_self ..))
    have h2 := ih fun q hq => h q (List.mem_cons_of_mem _ hq)
    omega
section
variable {w : World} {n c g : Nat} {A : Option Addr} {rs : List Rw}
set_option maxRecDepth 20000 in
set_option maxHeartbeats 2000000 in
theorem RAll_any (hg : g < 4294967296) (hL : Lst w A n c rs) (hn : n ≤ 1000) (hb : ∀ p ∈ lsOf rs, p.length ≤ 100000) :
    Calls Try.prog 13 #[.int .u32 (g : Int), .slice A n c] w fun e w' => ∃ A' c' vals, e = .returned (.slice A' (secsL g 0 (lsOf rs)).length c') ∧ Gath w.heap.size NoOwn A' c' vals (secsL g 0 (lsOf rs)) w' ∧ Below w.heap.size w w' := by
  obtain ⟨Ls, hLs⟩ : ∃ L, lsOf rs = L := ⟨_, rfl⟩
  have hll : Ls.length = n := by rw [← hLs]; unfold lsOf; rw [List.length_map]; exact hL.1
  rw [hLs] at hb ⊢
  have HL := Lib.hid (And.intro hL (And.intro hb (And.intro hll (And.intro hLs hn))))
  have hnb : (n : Int) ≤ 1000 := by omega
  clear hL hb hll hLs hn
  go_enter Try.func13, Try.ntmps13
  go_wp2_with fail
  go_loopw [5, 6, 7, 10] (fun vo _ _ i wr => ∃ (k U : Nat) (Ao : Option Addr) (co : Nat) (vals : List Value), k ≤ n ∧ i = .int .i64 (k : Int) ∧ vo = .slice Ao U co ∧ (secsL g 0 (Ls.take k)).length = U ∧ U ≤ 394 * k ∧ Gath w.heap.size NoOwn Ao co vals (secsL g 0 (Ls.take k)) wr ∧ Below w.heap.size w wr) (fun _ _ _ i _ => n - (intOf i).toNat)
  case atStart => exact ⟨0, 0, Option.none, 0, [], Nat.zero_le _, rfl, rfl, rfl, Nat.zero_le _, Gath.none _ _ _, Below.refl _ _⟩
  case round =>
    obtain ⟨k, U, Ao, co, vals, hk, rfl, rfl, hU, hUb, hga, hbw⟩ := hrel
    have hkb : (k : Int) ≤ 1000 := by omega
    by_cases hlt : k < n
    · have hlt2 : (k : Int) < (n : Int) := by omega
      obtain ⟨b, o, r, hA, hrk, hcr, hrr⟩ := (HL.out.1.below hbw).at_ hlt
      have hrL : Ls[k]? = some r.l := by rw [← HL.out.2.2.2.1]; unfold lsOf; rw [List.getElem?_map, hrk]; rfl
      have hr5 := HL.out.2.1 r.l (List.mem_of_getElem? hrL)
      subst hA
      have cY := RLay_any (g := g) (i := k) (c := r.c) hg (by omega) hrr (Nat.le_refl _) rfl hr5
      have hse : secsL g 0 (Ls.take (k + 1)) = secsL g 0 (Ls.take k) ++ secs (seedN g k) r.l := by
        rw [List.take_add_one, hrL]
        show secsL g 0 (Ls.take k ++ [r.l]) = _
        rw [secsL_snoc, List.length_take, HL.out.2.2.1, Nat.min_eq_left (by omega), Nat.zero_add]
      have hln : (secs (seedN g k) r.l).length ≤ 394 ∧ 1 ≤ (secs (seedN g k) r.l).length := by rw [secs_len]; exact ⟨pagesN_le _ hr5, (pages_bounds _).2.2⟩
      have HG := Lib.hid (And.intro hga (And.intro hbw (And.intro hU (And.intro hse (And.intro hlt (And.intro hln hUb))))))
      clear hga hbw hU hse hlt hrk hrr hrL hr5 hln hUb
      go_wp2_with fail
      refine cY.mono ?_
      rintro e w5 ⟨A5, c5, news, rfl, hN, hb5⟩
      obtain ⟨m, hm⟩ : ∃ m, (secs (seedN g k) r.l).length = m := ⟨_, rfl⟩
      have hga5 := HG.out.1.below hb5
      have hoR := hga5.1
      rw [HG.out.2.2.1] at hoR
      have hg0 := HG.out.1.1
      rw [HG.out.2.2.1] at hg0
      have hNo := hN.1
      rw [hm] at hNo ⊢
      have hm1 : 1 ≤ m ∧ m ≤ 394 := by rw [← hm]; exact ⟨HG.out.2.2.2.2.2.1.2, HG.out.2.2.2.2.2.1.1⟩
      obtain ⟨q5, cap5, e5, -, -⟩ := World.ownsRow.form hNo (by omega)
      injection e5 with e51 e52 e53
      subst e51
      subst e53
      have hcl := fun (j : Nat) u (hu : news[j]? = some u) => World.ownsRow.cells hNo (g := q5) rfl j u hu
      have hn5 : news.length = m := by have := hN.2.1; omega
      have hone : ∀ u ∈ news, u.oneCell' = true := fun u hu => by
        obtain ⟨j, hj⟩ := List.getElem?_of_mem hu
        have hj2 := (List.getElem?_eq_some_iff.1 hj).1
        obtain ⟨-, A9, c9, rfl, -, -, -⟩ := own_form (hN.2.2.2 j u _ hj (List.getElem?_eq_getElem (by omega))).1
        rfl
      have HX := Lib.hid (And.intro hga5 (And.intro (HG.out.2.1.trans (hb5.mono HG.out.2.1.size)) (And.intro hoR (And.intro hN (And.intro hcl (And.intro hone (And.intro hn5 (And.intro (fun q hq => (World.ownsRow.lt hg0 q hq).2) hm))))))))
      have HM := Lib.hid hm1
      clear cY hN hb5 hga5 hoR hg0 hNo hcl hone hn5 hm hm1
      go_wp2_with (with_reducible refine wpList_appendLm (o := ⟨some 20, _, _, _, _, _⟩) rfl (.tmp 15) (.tmp 19) rfl w.heap.size (.slice Ao U co) U vals ?h1 HX.out.2.2.1 q5 m c5 news ?h2 HX.out.2.2.2.2.2.2.1 ?h3 HX.out.2.2.2.2.2.1 ?h4 ?h5 ?_)
      case h1 => rfl
      case h2 => rfl
      case h3 => exact fun j u hu => by simpa [go_sem] using HX.out.2.2.2.2.1 j u hu
      case h4 => have := HG.out.2.2.2.2.2.2; have := HM.out; omega
      case h5 => exact HX.out.2.1.size
      intro v9 w9 hown9 hg9 hloc9
      have hmm := HX.out.2.2.2.2.2.2.2.2
      obtain ⟨A9, c9, rfl, hga9, hb9⟩ := Gath.join HX.out.1 HG.out.2.2.1 HX.out.2.1.size HX.out.2.2.2.1 HG.out.2.1.size HX.out.2.2.2.2.2.2.2.1 (by rw [hmm]; exact hown9) hg9 hloc9 HX.out.2.1
      rw [← HG.out.2.2.2.1] at hga9
      rw [hmm]
      have HR := Lib.hid (And.intro hga9 hb9)
      clear hown9 hg9 hloc9 hga9 hb9
      go_wp2_with fail
      go_roundw
      case rel => exact ⟨k + 1, U + m, A9, c9, _, by have := HG.out.2.2.2.2.1; omega, congrArg (Value.int .i64) (by omega), rfl, by rw [HG.out.2.2.2.1, List.length_append, HG.out.2.2.1, hmm], by have := HG.out.2.2.2.2.2.2; have := HM.out; omega, HR.out.1, HR.out.2⟩
      case measure => have := HG.out.2.2.2.2.1; simp [intOf]; omega
    · have hlt2 : ¬ (k : Int) < (n : Int) := by omega
      have hfin : Ls.take k = Ls := List.take_of_length_le (by rw [HL.out.2.2.1]; omega)
      rw [hfin] at hga hU
      rw [← hU]
      have HR := Lib.hid (And.intro hga hbw)
      clear hga hU hbw hlt hfin
      go_wp2_with fail
      go_ret
      exact ⟨Ao, co, rfl, ⟨vals, HR.out.1⟩, HR.out.2⟩
end
end Go.Proofs.Ytbaenpgjggojaaa
