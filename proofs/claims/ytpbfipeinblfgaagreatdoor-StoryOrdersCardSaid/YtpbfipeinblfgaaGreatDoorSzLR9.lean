/-
The legs of a story's entries, by account; what they come to. Condition: the amounts fit.
All is accounted for: what a story's entries come to is how the loan stands; no key stands twice. Condition: the events' numbers differ.
StoryOrders' walk. Conditions: the months' lengths, the powers of ten and two variables of the library are laid.
-/
import Derived.Test.YtpbfipeinblfgaaGreatDoorSyCQ9
import Derived.Test.YtpbfipeinblfgaaGreatDoorChHR9
import Derived.Test.YtpbfipeinblfgaaGreatDoorLegDR9
import Derived.Test.YtpbfipeinblfgaaGreatDoorSyZQ9
import Derived.Test.YtpbfipeinblfgaaGreatDoorSzJR9
namespace Go.Proofs.YtpbfipeinblfgaaGreatDoor

/-- Legs of which no two are of one account. -/
theorem acc_one {a : Nat} : ∀ (L : List (Nat × Int)) (s : Option Int), (∀ g ∈ L, g.1 ≠ a) → L.foldl (stepA a) s = s
  | [], _, _ => rfl
  | g :: L, s, h => by
    have hg : g.1 ≠ a := h g (List.mem_cons_self ..)
    show L.foldl (stepA a) (stepA a s g) = s
    rw [show stepA a s g = s by unfold stepA; rw [if_neg hg]]
    exact acc_one L s fun y hy => h y (List.mem_cons_of_mem _ hy)
theorem acc_at {a : Nat} {x : Int} (hx : fitB x = true) : ∀ (L : List (Nat × Int)), (L.map (·.1)).Nodup → (a, x) ∈ L → accs L a = some x := by
  intro L hn hm
  unfold accs
  induction L with
  | nil => cases hm
  | cons g L ih =>
    obtain ⟨h1, h2⟩ := List.nodup_cons.1 (by simpa using hn : (g.1 :: L.map (·.1)).Nodup)
    show L.foldl (stepA a) (stepA a (some 0) g) = some x
    rcases List.mem_cons.1 hm with rfl | hm
    · rw [acc_one L _ (fun y hy e => h1 (by rw [← e]; exact List.mem_map.2 ⟨y, hy, rfl⟩))]
      unfold stepA addO
      simp [hx]
    · have hne : g.1 ≠ a := fun e => h1 (by rw [e]; exact List.mem_map.2 ⟨_, hm, rfl⟩)
      rw [show stepA a (some 0) g = some 0 by unfold stepA; rw [if_neg hne]]
      exact ih h2 hm
theorem okL_nodup {L : List (Nat × Int)} (hn : (L.map (·.1)).Nodup) (hf : ∀ g ∈ L, fitB g.2 = true) : okL L := fun a => by
  by_cases h : ∃ x, (a, x) ∈ L
  · obtain ⟨x, hx⟩ := h
    rw [acc_at (hf _ hx) L hn hx]
    simp
  · unfold accs
    rw [acc_one L _ (fun g hg e => h ⟨g.2, by rw [← e]; exact hg⟩)]
    simp
theorem sumA_at {L : List (Nat × Int)} (hn : (L.map (·.1)).Nodup) {a : Nat} {x : Int} (hx : fitB x = true) (hm : (a, x) ∈ L) : sumA L a = x := by
  unfold sumA
  rw [acc_at hx L hn hm]
  rfl
/-- Their entry: the accounts as they stand, the amounts. -/
theorem mkL_of {L R : List (Nat × Int)} (hn : (L.map (·.1)).Nodup) (hf : ∀ g ∈ L, fitB g.2 = true) (hk : (List.range 256).filter (fun a => (L.map (·.1)).any (· == a)) = R.map (·.1)) (hR : ∀ g ∈ R, g ∈ L) : mkL L = R := by
  rw [mkL_ok (okL_nodup hn hf)]
  have e : keysA L = R.map (·.1) := by
    rw [← hk]
    unfold keysA
    congr 1
    funext a
    unfold hasA
    rw [List.any_map]
    rfl
  rw [e, List.map_map]
  have : ∀ g ∈ R, (rowA L ∘ (·.1)) g = g := fun g hg => by
    show (g.1, sumA L g.1) = g
    rw [sumA_at hn (hf g (hR g hg)) (show (g.1, g.2) ∈ L from hR g hg)]
  rw [List.map_congr_left this, List.map_id']
section
variable {a b c d e : Int}
theorem mk_12 (ha : fitB a = true) (hb : fitB b = true) : mkL [(2, a), (1, b)] = [(1, b), (2, a)] := mkL_of (by simp) (by simp [ha, hb]) (by simp only [List.map_cons, List.map_nil]; decide +kernel) (by simp)
theorem mk_19 (ha : fitB a = true) (hb : fitB b = true) : mkL [(1, a), (9, b)] = [(1, a), (9, b)] := mkL_of (by simp) (by simp [ha, hb]) (by simp only [List.map_cons, List.map_nil]; decide +kernel) (by simp)
theorem mk_5 (ha : fitB a = true) (hb : fitB b = true) (hc : fitB c = true) (hd : fitB d = true) (he : fitB e = true) : mkL [(1, a), (4, b), (3, c), (2, d), (5, e)] = [(1, a), (2, d), (3, c), (4, b), (5, e)] := mkL_of (by simp) (by simp [ha, hb, hc, hd, he]) (by simp only [List.map_cons, List.map_nil]; decide +kernel) (by simp)
theorem mk_47 (ha : fitB a = true) (hb : fitB b = true) : mkL [(4, a), (7, b)] = [(4, a), (7, b)] := mkL_of (by simp) (by simp [ha, hb]) (by simp only [List.map_cons, List.map_nil]; decide +kernel) (by simp)
theorem mk_74 (ha : fitB a = true) (hb : fitB b = true) : mkL [(7, a), (4, b)] = [(4, b), (7, a)] := mkL_of (by simp) (by simp [ha, hb]) (by simp only [List.map_cons, List.map_nil]; decide +kernel) (by simp)
theorem mk_8 (ha : fitB a = true) (hb : fitB b = true) (hc : fitB c = true) (hd : fitB d = true) : mkL [(8, a), (2, b), (3, c), (4, d)] = [(2, b), (3, c), (4, d), (8, a)] := mkL_of (by simp) (by simp [ha, hb, hc, hd]) (by simp only [List.map_cons, List.map_nil]; decide +kernel) (by simp)
theorem mk_36 (ha : fitB a = true) (hb : fitB b = true) : mkL [(3, a), (6, b)] = [(3, a), (6, b)] := mkL_of (by simp) (by simp [ha, hb]) (by simp only [List.map_cons, List.map_nil]; decide +kernel) (by simp)
end
end Go.Proofs.YtpbfipeinblfgaaGreatDoor
namespace Go.Proofs.YtpbfipeinblfgaaGreatDoor

def sumE (L : List En) (a : Nat) : Int := (L.map (fun e => ofL e.2 a)).foldl (· + ·) 0
def payE (L : List En) : Int := (L.map (fun e => if e.1.k = 4 then ofL e.2 1 else 0)).foldl (· + ·) 0
theorem sumE_snoc (L : List En) (e : En) (a : Nat) : sumE (L ++ [e]) a = sumE L a + ofL e.2 a := by simp [sumE, List.foldl_append]
theorem payE_snoc (L : List En) (e : En) : payE (L ++ [e]) = payE L + if e.1.k = 4 then ofL e.2 1 else 0 := by simp [payE, List.foldl_append]
def cashB (R : List (Nat × Int)) : Prop := ofL R 1 + ofL R 4 + ofL R 3 + ofL R 2 + ofL R 5 + ofL R 9 = 0
/-- Which keys there may be: of accruals ahead of day A, of the first m months, of the events Q. -/
def KeyIn (A : Int) (m : Nat) (Q : List Nat) (y : Ky) : Prop := y.k = 1 ∨ (y.k = 2 ∧ y.d < A) ∨ (y.k = 3 ∧ y.s ≤ m) ∨ (4 ≤ y.k ∧ y.s ∈ Q)
structure Adds (P A : Int) (Q : List Nat) (x : TS) : Prop where
  s1 : sumE x.L 1 = x.h - P
  s2 : sumE x.L 2 = x.p
  s3 : sumE x.L 3 = x.i
  s4 : sumE x.L 4 = x.f
  s5 : sumE x.L 5 = -x.s
  s9 : sumE x.L 9 = -x.r
  paid : payE x.L = x.h
  each : ∀ e ∈ x.L, entB e.1 e.2 = true ∧ (e.1.k = 4 → cashB e.2)
  keys : (x.L.map (·.1)).Nodup
  inn : ∀ e ∈ x.L, KeyIn A x.m Q e.1
section
variable {P A A' : Int} {Q Q' : List Nat} {x z : TS}
theorem Adds.add (h : Adds P A Q x) {y : Ky} {R : List (Nat × Int)} (hL : z.L = x.L ++ [(y, R)]) (hR : entB y R = true) (hc : y.k = 4 → cashB R) (hy : ¬ KeyIn A x.m Q y) (hy' : KeyIn A' z.m Q' y) (hm : ∀ k, KeyIn A x.m Q k → KeyIn A' z.m Q' k)
    (h1 : z.h = x.h + ofL R 1) (h2 : z.p = x.p + ofL R 2) (h3 : z.i = x.i + ofL R 3) (h4 : z.f = x.f + ofL R 4) (h5 : z.s = x.s - ofL R 5) (h9 : z.r = x.r - ofL R 9) (hp : y.k ≠ 4 → ofL R 1 = 0) : Adds P A' Q' z := by
  obtain ⟨a1, a2, a3, a4, a5, a6, a7, a8, a9, a10⟩ := h
  constructor
  · rw [hL, sumE_snoc, a1, h1]; dsimp only; omega
  · rw [hL, sumE_snoc, a2, h2]
  · rw [hL, sumE_snoc, a3, h3]
  · rw [hL, sumE_snoc, a4, h4]
  · rw [hL, sumE_snoc, a5, h5]; dsimp only; omega
  · rw [hL, sumE_snoc, a6, h9]; dsimp only; omega
  · rw [hL, payE_snoc, a7, h1]
    dsimp only
    by_cases hk : y.k = 4
    · rw [if_pos hk]
    · rw [if_neg hk, hp hk]
  · intro e he
    rw [hL] at he
    rcases List.mem_append.1 he with he | he
    · exact a8 e he
    · rw [List.mem_singleton.1 he]
      exact ⟨hR, hc⟩
  · rw [hL, List.map_append, List.nodup_append]
    refine ⟨a9, by simp, fun k hk k' hk' e => ?_⟩
    simp at hk'
    subst hk' e
    obtain ⟨e, he, rfl⟩ := List.mem_map.1 hk
    exact hy (a10 e he)
  · intro e he
    rw [hL] at he
    rcases List.mem_append.1 he with he | he
    · exact hm _ (a10 e he)
    · rw [List.mem_singleton.1 he]
      exact hy'
theorem Adds.more (h : Adds P A Q x) (hL : z.L = x.L) (hm : x.m ≤ z.m) (h1 : z.h = x.h) (h2 : z.p = x.p) (h3 : z.i = x.i) (h4 : z.f = x.f) (h5 : z.s = x.s) (h9 : z.r = x.r) (hQ : ∀ q ∈ Q, q ∈ Q') : Adds P A Q' z := by
  obtain ⟨a1, a2, a3, a4, a5, a6, a7, a8, a9, a10⟩ := h
  constructor
  · rw [hL, a1, h1]
  · rw [hL, a2, h2]
  · rw [hL, a3, h3]
  · rw [hL, a4, h4]
  · rw [hL, a5, h5]
  · rw [hL, a6, h9]
  · rw [hL, a7, h1]
  · rw [hL]; exact a8
  · rw [hL]; exact a9
  · rw [hL]
    intro e he
    rcases a10 e he with h | h | h | h
    · exact .inl h
    · exact .inr (.inl h)
    · exact .inr (.inr (.inl ⟨h.1, by omega⟩))
    · exact .inr (.inr (.inr ⟨h.1, hQ _ h.2⟩))
end
theorem ent_ok {y : Ky} {R : List (Nat × Int)} (hk : 1 ≤ y.k ∧ y.k ≤ 7) (hd : 0 ≤ y.d ∧ y.d ≤ 3652058) (hl : 1 ≤ R.length ∧ R.length ≤ 8) (hr : risTo R R.length = true) (hs : sumO (amts R) = some 0) : entB y R = true := by
  unfold entB
  simp [hk.1, hk.2, hl.1, hl.2, hr, hs, dayB, hd.1, hd.2]
theorem sumF_ok {a x : Int} (h : -9223372036854775808 ≤ a + x ∧ a + x ≤ 9223372036854775807) : sumF (some a) x = some (a + x) := by
  unfold sumF
  dsimp only
  rw [if_pos (show Fits (a + x) from h)]
theorem fit_of {x : Int} (h : -9223372036854775808 ≤ x ∧ x ≤ 9223372036854775807) : fitB x = true := fitB_iff.2 h
theorem sum_2 {i j : Nat} {a b : Int} (ha : -9223372036854775808 ≤ a ∧ a ≤ 9223372036854775807) (h : a + b = 0) : sumO (amts [(i, a), (j, b)]) = some 0 := by
  show sumF (sumF (some 0) a) b = some 0
  rw [sumF_ok (by omega), sumF_ok (by omega)]
  congr 1; omega
theorem sum_4 {i j k l : Nat} {a b c d : Int} (ha : -1000000000000000000 ≤ a ∧ a ≤ 1000000000000000000) (hb : -1000000000000000000 ≤ b ∧ b ≤ 1000000000000000000) (hc : -1000000000000000000 ≤ c ∧ c ≤ 1000000000000000000) (h : a + b + c + d = 0) : sumO (amts [(i, a), (j, b), (k, c), (l, d)]) = some 0 := by
  show sumF (sumF (sumF (sumF (some 0) a) b) c) d = some 0
  rw [sumF_ok (by omega), sumF_ok (by omega), sumF_ok (by omega), sumF_ok (by omega)]
  congr 1; omega
theorem sum_5 {i j k l m : Nat} {a b c d e : Int} (ha : -1000000000000000000 ≤ a ∧ a ≤ 1000000000000000000) (hb : -1000000000000000000 ≤ b ∧ b ≤ 1000000000000000000) (hc : -1000000000000000000 ≤ c ∧ c ≤ 1000000000000000000) (hd : -1000000000000000000 ≤ d ∧ d ≤ 1000000000000000000) (h : a + b + c + d + e = 0) : sumO (amts [(i, a), (j, b), (k, c), (l, d), (m, e)]) = some 0 := by
  show sumF (sumF (sumF (sumF (sumF (some 0) a) b) c) d) e = some 0
  rw [sumF_ok (by omega), sumF_ok (by omega), sumF_ok (by omega), sumF_ok (by omega), sumF_ok (by omega)]
  congr 1; omega
section
variable {b M n : Nat} {day P : Int} {x : TS} {Z : Int} {e : Ev} {Q : List Nat}
theorem Adds.tel (h : Adds P day Q x) (hB : Bd b M x Z) (hZ : Z ≤ 100000000000000000) (he : EvOk e) (hd : 0 ≤ day ∧ day ≤ 3652058) (hs : e.s ∉ Q) : Adds P day (e.s :: Q) (telM n day x e) := by
  have g := go_bd hB he.a.1
  obtain ⟨b1, b2, b3, b4, b5, b6, b7, b8, b9, b10⟩ := hB
  obtain ⟨e1, e2, e3, e4⟩ := he
  have hm : ∀ k, KeyIn day x.m Q k → KeyIn day x.m (e.s :: Q) k := fun k hk => by
    rcases hk with h | h | h | h
    · exact .inl h
    · exact .inr (.inl h)
    · exact .inr (.inr (.inl h))
    · exact .inr (.inr (.inr ⟨h.1, List.mem_cons_of_mem _ h.2⟩))
  have hno : ∀ k : Nat, 4 ≤ k → ¬ KeyIn day x.m Q ⟨n, day, k, e.s⟩ := fun k hk h => by
    rcases h with h | h | h | h
    · dsimp only at h; omega
    · have := h.1; dsimp only at this; omega
    · have := h.1; dsimp only at this; omega
    · exact hs h.2
  have hin : ∀ k : Nat, 4 ≤ k → KeyIn day x.m (e.s :: Q) ⟨n, day, k, e.s⟩ := fun k hk => .inr (.inr (.inr ⟨hk, List.mem_cons_self ..⟩))
  have hq : ∀ q ∈ Q, q ∈ e.s :: Q := fun q hq => List.mem_cons_of_mem _ hq
  unfold telM
  split
  · split
    · refine h.add (y := ⟨n, day, 4, e.s⟩) (R := [(1, e.a), (9, -e.a)]) (by simp only [regM, TS.add]; rw [mk_19 (fit_of (by omega)) (fit_of (by omega))]) (ent_ok (by simp) hd (by simp) (by simp [risTo]) (sum_2 (by omega) (by omega))) (fun _ => ?_) (hno 4 (by omega)) (hin 4 (by omega)) hm ?_ ?_ ?_ ?_ ?_ ?_ ?_
      all_goals simp [regM, TS.add, ofL, cashB]
      all_goals omega
    · refine h.add (y := ⟨n, day, 4, e.s⟩) (R := [(1, e.a), (2, -goP x e.a), (3, -goI x e.a), (4, -goF x e.a), (5, -goL x e.a)]) (by simp only [payM, TS.add]; rw [mk_5 (fit_of (by omega)) (fit_of (by omega)) (fit_of (by omega)) (fit_of (by omega)) (fit_of (by omega))]) (ent_ok (by simp) hd (by simp) (by simp [risTo]) (sum_5 (by omega) (by omega) (by omega) (by omega) (by omega))) (fun _ => ?_) (hno 4 (by omega)) (hin 4 (by omega)) hm ?_ ?_ ?_ ?_ ?_ ?_ ?_
      all_goals simp [payM, TS.add, ofL, cashB]
      all_goals omega
  · split
    · split
      · refine h.add (y := ⟨n, day, 5, e.s⟩) (R := [(4, e.a), (7, -e.a)]) (by simp only [chgM, TS.add]; rw [mk_47 (fit_of (by omega)) (fit_of (by omega))]) (ent_ok (by simp) hd (by simp) (by simp [risTo]) (sum_2 (by omega) (by omega))) (fun h => by simp at h) (hno 5 (by omega)) (hin 5 (by omega)) hm ?_ ?_ ?_ ?_ ?_ ?_ ?_
        all_goals simp [chgM, TS.add, ofL]
      · split
        · refine h.add (y := ⟨n, day, 6, e.s⟩) (R := [(4, -min x.f e.a), (7, min x.f e.a)]) (by simp only [waiM, TS.add]; rw [mk_74 (fit_of (by omega)) (fit_of (by omega))]) (ent_ok (by simp) hd (by simp) (by simp [risTo]) (sum_2 (by omega) (by omega))) (fun h => by simp at h) (hno 6 (by omega)) (hin 6 (by omega)) hm ?_ ?_ ?_ ?_ ?_ ?_ ?_
          all_goals simp [waiM, TS.add, ofL]
          all_goals omega
        · split
          · refine h.add (y := ⟨n, day, 7, e.s⟩) (R := [(2, -x.p), (3, -x.i), (4, -x.f), (8, x.f + x.i + x.p)]) (by simp only [offM, TS.add]; rw [mk_8 (fit_of (by omega)) (fit_of (by omega)) (fit_of (by omega)) (fit_of (by omega))]) (ent_ok (by simp) hd (by simp) (by simp [risTo]) (sum_4 (by omega) (by omega) (by omega) (by omega))) (fun h => by simp at h) (hno 7 (by omega)) (hin 7 (by omega)) hm ?_ ?_ ?_ ?_ ?_ ?_ ?_
            all_goals simp [offM, TS.add, ofL]
            all_goals omega
          · exact h.more rfl (Nat.le_refl _) rfl rfl rfl rfl rfl rfl hq
    · exact h.more rfl (Nat.le_refl _) rfl rfl rfl rfl rfl rfl hq
theorem Adds.hap (h : Adds P day Q x) (hB : Bd b M x Z) (hZ : Z ≤ 100000000000000000) (he : EvOk e) (hd : 0 ≤ day ∧ day ≤ 3652058) (hs : e.s ∉ Q) : Adds P day (e.s :: Q) (hapM n day x e) := by
  have g := h.tel (n := n) hB hZ he hd hs
  unfold hapM
  split
  · exact g.more rfl (Nat.le_refl _) rfl rfl rfl rfl rfl rfl fun _ hq => hq
  · exact g
theorem Adds.haps : ∀ (l : List Ev) (x : TS) (Z : Int) (Q : List Nat), Adds P day Q x → Bd b M x Z → Z + 1000000000000 * (l.length : Int) ≤ 100000000000000000 → (∀ e ∈ l, EvOk e) → 0 ≤ day ∧ day ≤ 3652058 → (l.map (·.s)).Nodup → (∀ e ∈ l, e.s ∉ Q) →
    ∃ Q', Adds P day Q' (hapN n day l x).1 ∧ ∀ e ∈ (hapN n day l x).2, e.s ∉ Q'
  | [], x, Z, Q, h, _, _, _, _, _, _ => ⟨Q, h, fun e he => by simp [hapN] at he⟩
  | e :: l, x, Z, Q, h, hB, hZ, he, hd, hn, hq => by
    obtain ⟨n1, n2⟩ := List.nodup_cons.1 (by simpa using hn : (e.s :: l.map (·.s)).Nodup)
    unfold hapN
    simp only [List.length_cons] at hZ
    split
    · exact Adds.haps l _ _ (e.s :: Q) (h.hap hB (by omega) (he e (List.mem_cons_self ..)) hd (hq e (List.mem_cons_self ..))) (hB.hap (he e (List.mem_cons_self ..))) (by omega) (fun y hy => he y (List.mem_cons_of_mem _ hy)) hd n2 (fun y hy hm => by
        rcases List.mem_cons.1 hm with hm | hm
        · exact n1 (by rw [← hm]; exact List.mem_map.2 ⟨y, hy, rfl⟩)
        · exact hq y (List.mem_cons_of_mem _ hy) hm)
    · exact ⟨Q, h, hq⟩
theorem Adds.late {F : Int} {Sm : Nat → Int} (h : Adds P day Q x) (hF : 0 ≤ F ∧ F ≤ 1000000000) (hd : 0 ≤ day ∧ day ≤ 3652058) : Adds P day Q (lateM n F Sm day x) := by
  have hm : ∀ k, KeyIn day x.m Q k → KeyIn day (x.m + 1) Q k := fun k hk => by
    rcases hk with h | h | h | h
    · exact .inl h
    · exact .inr (.inl h)
    · exact .inr (.inr (.inl ⟨h.1, by omega⟩))
    · exact .inr (.inr (.inr h))
  unfold lateM
  split
  · refine h.add (y := ⟨n, day, 3, x.m + 1⟩) (R := [(4, F), (7, -F)]) (by simp only [chgM, TS.add]; rw [mk_47 (fit_of (by omega)) (fit_of (by omega))]) (ent_ok (by simp) hd (by simp) (by simp [risTo]) (sum_2 (by omega) (by omega))) (fun h => by simp at h) (fun h => ?_) (.inr (.inr (.inl ⟨rfl, Nat.le_refl _⟩))) hm ?_ ?_ ?_ ?_ ?_ ?_ ?_
    · rcases h with h | h | h | h
      · simp at h
      · simp at h
      · have := h.2; dsimp only at this; omega
      · simp at h
    all_goals simp [chgM, TS.add, ofL]
  · exact h.more rfl (Nat.le_succ _) rfl rfl rfl rfl rfl rfl fun _ hq => hq
theorem Adds.lates {F G : Int} {D Sm : Nat → Int} (hF : 0 ≤ F ∧ F ≤ 1000000000) (hd : 0 ≤ day ∧ day ≤ 3652058) : ∀ (k : Nat) (x : TS), Adds P day Q x → Adds P day Q (lateN n F G M D Sm day k x)
  | 0, x, h => h
  | k + 1, x, h => by
    unfold lateN
    split
    · exact Adds.lates hF hd k _ (h.late hF hd)
    · exact h
theorem Adds.acc {R : Nat} (h : Adds P day Q x) (hB : Bd b M x Z) (hR : R ≤ 1000000) (hd : 0 ≤ day ∧ day < 3652058) : Adds P (day + 1) Q (accM n R b day x) := by
  have hq := (accS_bd (b := b) (c := x.c) hB.p hR (one_bd (b := b) hd.1 hd.2).1 hB.c).1
  unfold accM
  generalize (x.p.toNat * R * oneD b day + x.c) % unitN b = r
  generalize (x.p.toNat * R * oneD b day + x.c) / unitN b = q at hq ⊢
  refine h.add (y := ⟨n, day, 2, 0⟩) (R := [(3, (q : Int)), (6, -(q : Int))]) (by simp only [TS.add]; rw [mk_36 (fit_of (by omega)) (fit_of (by omega))]) (ent_ok (by simp) (by dsimp only; omega) (by simp) (by simp [risTo]) (sum_2 (by omega) (by omega))) (fun h => by simp at h) (fun h => ?_) (.inr (.inl ⟨rfl, by dsimp only; omega⟩)) (fun k hk => ?_) ?_ ?_ ?_ ?_ ?_ ?_ ?_
  · rcases h with h | h | h | h
    · simp at h
    · simp at h
    · simp at h
    · simp at h
  · rcases hk with h | h | h | h
    · exact .inl h
    · exact .inr (.inl ⟨h.1, by omega⟩)
    · exact .inr (.inr (.inl h))
    · exact .inr (.inr (.inr h))
  all_goals simp [TS.add, ofL]
theorem Adds.next (h : Adds P day Q x) : Adds P (day + 1) Q x := by
  obtain ⟨a1, a2, a3, a4, a5, a6, a7, a8, a9, a10⟩ := h
  refine ⟨a1, a2, a3, a4, a5, a6, a7, a8, a9, fun e he => ?_⟩
  rcases a10 e he with h | h | h | h
  · exact .inl h
  · exact .inr (.inl ⟨h.1, by omega⟩)
  · exact .inr (.inr (.inl h))
  · exact .inr (.inr (.inr h))
end
theorem Adds.end_ {o : Deal} {P day Z : Int} {Q : List Nat} {x : TS} (ho : o.Ok) (h : Adds P day Q x) (hB : Bd o.b o.M x Z) (hd : 0 ≤ day ∧ day < 3652058) : Adds P (day + 1) Q (endM o day x) := by
  unfold endM
  split
  · exact (Adds.lates ho.F (by omega) _ _ h).acc (Bd.lates (n := o.n) (M := o.M) (day := day) (G := o.G) (D := o.D) (Sm := o.Sm) ho.F (o.M - x.m) x Z hB) ho.R hd
  · exact h.next
theorem Adds.beg {o : Deal} (ho : o.Ok) : Adds o.P o.S [] (begM o) := by
  have hP := ho.P
  have hS := ho.S
  unfold begM TS.add
  rw [mk_12 (fit_of (by omega)) (fit_of (by omega))]
  constructor <;> simp [sumE, payE, ofL, KeyIn]
  exact ent_ok (by simp) (by dsimp only; omega) (by simp) (by simp [risTo]) (sum_2 (by omega) (by omega))
/-- How much there may be ahead of a day of which so many follow, with so many events to come. -/
theorem tell_bd {o : Deal} (ho : o.Ok) : ∀ (k : Nat) (d : Int) (x : TS) (l : List Ev) (Z : Int), Bd o.b o.M x Z → (∀ e ∈ l, EvOk e) → 0 ≤ d → d + k ≤ 3652058 →
    Bd o.b o.M (tellN o k d x l) (Z + 1000000000000 * (l.length : Int) + 1000000000 * ((o.M : Int) - x.m) + 10000000000 * (k : Int))
  | 0, d, x, l, Z, h, he, _, _ => by
    obtain ⟨g1, g2, _, _⟩ := Bd.haps (n := o.n) (day := d) l x Z h he
    have := h.m
    exact g1.more (by omega)
  | k + 1, d, x, l, Z, h, he, h0, h1 => by
    obtain ⟨g1, g2, g3, j, g4⟩ := Bd.haps (n := o.n) (day := d) l x Z h he
    obtain ⟨e1, e2⟩ := g1.end_ ho (day := d) h0 (by omega)
    have := tell_bd ho k (d + 1) _ (hapN o.n d l x).2 _ e1 (by rw [g4]; exact fun e he' => he e (List.mem_of_mem_drop he')) (by omega) (by omega)
    have hm := e1.m
    exact this.more (by rw [g3] at *; omega)
theorem Adds.told {o : Deal} (ho : o.Ok) : ∀ (k : Nat) (d : Int) (x : TS) (l : List Ev) (Z : Int) (Q : List Nat), Adds o.P d Q x → Bd o.b o.M x Z → (∀ e ∈ l, EvOk e) → 0 ≤ d → d + k ≤ 3652058 → Z + 1000000000000 * (l.length : Int) + 1000000000 * ((o.M : Int) - x.m) + 10000000000 * (k : Int) ≤ 100000000000000000 → (l.map (·.s)).Nodup → (∀ e ∈ l, e.s ∉ Q) →
    ∃ A Q', Adds o.P A Q' (tellN o k d x l)
  | 0, d, x, l, Z, Q, h, hB, he, h0, h1, hZ, hn, hq => by
    have := hB.m
    obtain ⟨Q', g, _⟩ := Adds.haps (n := o.n) l x Z Q h hB (by omega) he (by omega) hn hq
    exact ⟨d, Q', g⟩
  | k + 1, d, x, l, Z, Q, h, hB, he, h0, h1, hZ, hn, hq => by
    have hxm := hB.m
    obtain ⟨g1, g2, g3, j, g4⟩ := Bd.haps (n := o.n) (day := d) l x Z hB he
    obtain ⟨e1, e2⟩ := g1.end_ ho (day := d) h0 (by omega)
    have hm := e1.m
    obtain ⟨Q', g, hq'⟩ := Adds.haps (n := o.n) l x Z Q h hB (by omega) he (by omega) hn hq
    refine Adds.told ho k (d + 1) _ (hapN o.n d l x).2 _ Q' (g.end_ ho g1 (by omega)) e1 (by rw [g4]; exact fun e he' => he e (List.mem_of_mem_drop he')) (by omega) (by omega) (by rw [g3] at *; omega) ?_ hq'
    rw [g4]
    exact hn.sublist ((List.drop_sublist _ _).map _)
end Go.Proofs.YtpbfipeinblfgaaGreatDoor
namespace Go.Proofs.YtpbfipeinblfgaaGreatDoor
open Go.ChangeShapes Go.WideShapes Go.ChangeAt Go.RowKit Go.Shelf Go.Sort Go.Lib

theorem own_row {w : World} {base n : Nat} {v : Value} {l : List Ev} (h : OwnS evT 47 w base v n l) (h0 : n = 0 → v = .slice none 0 0) : RowV w v l := by
  have hl := h.length (show 0 < 4 by omega)
  rcases Nat.eq_zero_or_pos n with hn | hn
  · exact .inl ⟨List.length_eq_zero_iff.1 (hl.trans hn), h0 hn⟩
  · obtain ⟨-, A, c, rfl, hc, -, hr⟩ := h.form (show 0 < 4 by omega)
    obtain ⟨b, o, rfl, -, -⟩ := hr.at_ (k := 0) (by omega)
    exact .inr ⟨by omega, b, o, c, by rw [hl], by omega, hr⟩
theorem own_cells {w : World} {base n c g : Nat} {l : List Ev} (h : OwnS evT 47 w base (.slice (some ⟨g, 0, none⟩) n c) n l) {k : Nat} {x : Ev} (hx : l[k]? = some x) :
    (w.cell? ⟨g, k * 4, none⟩ = some (.int .u32 (x.s : Int)) ∧ w.cell? ⟨g, k * 4 + 1, none⟩ = some (.int .i32 x.d) ∧ w.cell? ⟨g, k * 4 + 2, none⟩ = some (.int .u8 (x.k : Int)) ∧ w.cell? ⟨g, k * 4 + 3, none⟩ = some (.int .i64 x.a)) ∧ ∀ i, w.frozen? ⟨g, i, none⟩ = false := by
  have hk : k < l.length := (List.getElem?_eq_some_iff.1 hx).1
  have hxx : l[k] = x := (List.getElem?_eq_some_iff.1 hx).2
  have hl := h.length (show 0 < 4 by omega)
  have h9 := h
  unfold OwnS at h9
  rcases h9.2 with ⟨h1, _⟩ | ⟨g', cap', cur, h1, h2, hg, -, -, -, -⟩
  · cases h1
  · injection h1 with e1 e2 e3
    injection e1 with e1
    injection e1 with e1
    subst e1
    have hB : Blk w g 47 cur := hg
    obtain ⟨-, A9, c99, e9, -, -, hr9⟩ := h.form (show 0 < 4 by omega)
    injection e9 with e91 e92 e93
    subst e91
    obtain ⟨b8, o8, h8, hb8, hc8⟩ := hr9.at_ hk
    injection h8 with h8
    injection h8 with h8 h88
    subst h8 h88
    rw [hxx] at hc8
    have ek : ∀ i, 0 + (k * evT.k + i) = k * 4 + i := fun i => by show 0 + (k * 4 + i) = _; omega
    have c0 := hc8 0 _ rfl
    have c1 := hc8 1 _ rfl
    have c2 := hc8 2 _ rfl
    have c3 := hc8 3 _ rfl
    rw [ek] at c0 c1 c2 c3
    exact ⟨⟨c0, c1, c2, c3⟩, fun i => hB.frozen i⟩
set_option maxRecDepth 100000 in
set_option maxHeartbeats 4000000 in
theorem Orders_no {t : Trm} (hi : t.In) (h : ¬ t.Right) (v1 v2 : Value) (n : Nat) (w : World) (hw : Lens w) (hp : Pows w) (m : Int) (hm : w.cell? ⟨3, 0, none⟩ = some (.int .i64 m)) (te : TypeId) (pe : Value) (hR : w.cell? ⟨0, 0, none⟩ = some (.iface te pe)) :
    Calls Tryz.prog 3 #[t.v, v1, v2, .int .u16 (n : Int)] w (Ret (.bool true) w) := by
  have cA := fun W (hb : Below w.heap.size w W) => awake17 W (hw.below hb) (hp.below hb) m ((hb.cell (p := ⟨_, 0, none⟩) (block_lt_of_cell hm)).trans hm) te pe ((hb.cell (p := ⟨_, 0, none⟩) (block_lt_of_cell hR)).trans hR)
  have cO := fun W => own17_any hi W
  have cQ := fun W => QRight_false hi h W
  obtain ⟨K, P, R, B, M, S, F, G⟩ := t
  unfold Trm.v Trm.r at *
  dsimp only at cO cQ ⊢
  have HB0 := Lib.hid (b_alloc w (.cells #[.int .u8 (K : Int), .int .i64 P, .int .u32 (R : Int), .int .u8 (B : Int), .int .i64 M, .int .i32 S, .int .i64 F, .int .i64 G] 28))
  have HQ0 := Lib.hid (Blk.new w 28 #[.int .u8 (K : Int), .int .i64 P, .int .u32 (R : Int), .int .u8 (B : Int), .int .i64 M, .int .i32 S, .int .i64 F, .int .i64 G])
  have cA1 := cA _ HB0.out
  clear cA hi h hR hm hw hp
  go_enter Tryz.func3, Tryz.ntmps3
  go_wp2_with fail
  refine cA1.mono ?_
  rintro e w1 ⟨rfl, hb⟩
  have HT1 := Lib.hid (HQ0.out.below hb HQ0.out.lt)
  have HB1 := Lib.hid (HB0.out.trans (hb.mono HB0.out.size))
  obtain ⟨c0, c1, c2, c3, c4, c5, c6, c7⟩ := blk8 HT1.out
  clear hb cA1 HQ0 HB0
  go_wp2_with fail
  refine (cO _).mono ?_
  rintro e w2 ⟨rfl, hb⟩
  have HB2 := Lib.hid (HB1.out.trans (hb.mono HB1.out.size))
  clear hb c0 c1 c2 c3 c4 c5 c6 c7 HT1 HB1 cO
  go_wp2_with fail
  refine (cQ _).mono ?_
  rintro e w3 ⟨rfl, hb⟩
  have HB3 := Lib.hid (HB2.out.trans (hb.mono HB2.out.size))
  clear hb HB2 cQ
  go_wp2_with fail
  go_ret
  exact ⟨rfl, HB3.out⟩
set_option maxRecDepth 100000 in
set_option maxHeartbeats 8000000 in
theorem Orders_yes {K P R B M : Nat} {S F G : Int} (hi : Trm.In ⟨K, P, R, B, M, S, F, G⟩) (h : Trm.Right ⟨K, P, R, B, M, S, F, G⟩) {L : List Dd} (hL : ∀ x ∈ L, DdIn x) {A : Option Addr} {nn cc : Nat} (hnn : L.length = nn) (hnm : nn ≤ 9223372036854775807) (hcc : nn ≤ cc) {A2 : Option Addr} {n2 cz : Nat} {bs : List UInt8} (hbs : bs.length = n2) (hb2 : n2 ≤ 140737488355328) (hc2 : n2 ≤ cz) (n : Nat) (w : World) (hRd : Rs deedT w w.heap.size A L) (hRy : Rd w w.heap.size A2 bs) (hw : Lens w) (hp : Pows w) (m : Int) (hm : w.cell? ⟨3, 0, none⟩ = some (.int .i64 m)) (te : TypeId) (pe : Value) (hR : w.cell? ⟨0, 0, none⟩ = some (.iface te pe)) :
    Calls Tryz.prog 3 #[.agg #[.int .u8 (K : Int), .int .i64 (P : Int), .int .u32 (R : Int), .int .u8 (B : Int), .int .i64 (M : Int), .int .i32 S, .int .i64 F, .int .i64 G], .slice A nn cc, .slice A2 n2 cz, .int .u16 (n : Int)] w (Ret (.bool true) w) := by
  have cA := fun W (hb : Below w.heap.size w W) => awake17 W (hw.below hb) (hp.below hb) m ((hb.cell (p := ⟨_, 0, none⟩) (block_lt_of_cell hm)).trans hm) te pe ((hb.cell (p := ⟨_, 0, none⟩) (block_lt_of_cell hR)).trans hR)
  have cO := fun W => own17_any hi W
  have cQ := fun W => QRight_true hi h W
  have cR := fun W => RRate16 (K := K) (P := P) (R := R) (M := M) (S := S) (F := F) (G := G) h.R.2 W
  obtain ⟨y, hy⟩ := lstK_any (K := K) (R := R) (M := M) (P := P) (by have := h.M; dsimp only at this; omega)
  have cN := fun W hW => New_any (n := 1) h hy W hW
  have hok := dealT_ok (n := 1) h (by omega) (lst_mi (by have := h.P; dsimp only at this; omega) hy h.K)
  have hP := h.P
  have hM := h.M
  have hS := h.S
  have hF := h.F
  have hG := h.G
  have hRb := h.R.1
  have hBb := h.R.2
  dsimp only at hP hM hS hF hG hRb hBb
  obtain ⟨k, hk⟩ : ∃ k, n % 130 = k := ⟨_, rfl⟩
  have hk2 : k < 130 := by omega
  have k2 : ((n : Int) % 130) = (k : Int) := by omega
  obtain ⟨LS, hLS⟩ : ∃ l, ordE (evL S L false) = l := ⟨_, rfl⟩
  have hlen12 : min L.length 12 < 20 := by omega
  have cT := fun (q : Nat) (W : World) (s : Sto W W.heap.size q (dealT 1 K P R B M y S F G)) (lv : Value) (l : List Ev) (hp : l.Perm (evL S L false)) (hv : RowV W lv l) =>
    Tell_any hok W s lv LS (fun V hb => by
      have h1 := told_any (S := S) (l := l) (fun x hx => evL_right hS hL false x (hp.subset hx)) ((hp.map _).nodup_iff.2 (evL_nodup S L false)) (o := dealT 1 K P R B M y S F G) rfl (q := q) V (hv.below hb) (by rw [hp.length_eq, evL_len]; exact hlen12) ((s.below hb).up hb.size)
      rw [← ord_same hp.symm (evL_nodup S L false), hLS] at h1
      exact h1) (fun e he => (evL_right hS hL false e ((ord_perm _).1.subset (by rw [hLS]; exact he))).ok) (by rw [← hLS, (ord_perm _).1.length_eq, evL_len]; omega) (S + k) ⟨by show S ≤ _; omega, by omega⟩
  obtain ⟨X, hX⟩ : ∃ X, tellN (dealT 1 K P R B M y S F G) (S + (k : Int) + 1 - (dealT 1 K P R B M y S F G).S).toNat (dealT 1 K P R B M y S F G).S (begM (dealT 1 K P R B M y S F G)) LS = X := ⟨_, rfl⟩
  rw [hX] at cT
  have hLeg : ∀ e ∈ X.L, e.2.length ≤ 8 := by
    have hSD : (dealT 1 K P R B M y S F G).S = S := rfl
    have hMD : (dealT 1 K P R B M y S F G).M = M := rfl
    have hm0 : (begM (dealT 1 K P R B M y S F G)).m = 0 := rfl
    have hll : LS.length ≤ 12 := by rw [← hLS, (ord_perm _).1.length_eq, evL_len]; omega
    obtain ⟨A, Q', hAd⟩ := Adds.told hok (S + (k : Int) + 1 - (dealT 1 K P R B M y S F G).S).toNat (dealT 1 K P R B M y S F G).S (begM (dealT 1 K P R B M y S F G)) LS 1000000000000 [] (Adds.beg hok) (beg_bd hok) (fun e he => (evL_right hS hL false e ((ord_perm _).1.subset (by rw [hLS]; exact he))).ok) (by rw [hSD]; exact hS.1) (by rw [hSD]; omega) (by rw [hSD, hMD, hm0]; omega) (by rw [← hLS]; exact ((ord_perm _).1.map _).nodup_iff.2 (evL_nodup S L false)) (fun e _ => by simp)
    rw [hX] at hAd
    intro e he
    have h1 := (hAd.each e he).1
    unfold entB at h1
    simp only [Bool.and_eq_true, decide_eq_true_eq] at h1
    omega
  obtain ⟨o, ho⟩ : ∃ o, dealT 1 K P R B M y S F G = o := ⟨_, rfl⟩
  unfold NewPost at cN
  rw [ho] at cN cT
  have cE := fun (t : Bool) (W : World) (hR : Rs deedT W W.heap.size A L) => Events_any (K := K) (P := P) (R := R) (B := B) (M := M) (F := F) (G := G) hS hL t hnn hnm hcc W hR
  unfold TellPost stV at cT
  unfold EventsPost at cE
  obtain ⟨mm, hmm⟩ : ∃ m, min L.length 12 = m := ⟨_, rfl⟩
  rw [hmm] at cE
  have HMM := Lib.hid (show mm ≤ 12 by omega)
  have HPM := Lib.hid (evL_perm S L)
  have HLA := Lib.hid (show (evL S L false).length = mm by rw [evL_len, hmm])
  have HLB := Lib.hid (show (evL S L true).length = mm by rw [evL_len, hmm])
  have HCN := Lib.hid cN
  have HCT := Lib.hid cT
  have HCE := Lib.hid cE
  have HP := Lib.hid hP
  have HM := Lib.hid hM
  have HS := Lib.hid hS
  have HW := Lib.hid hw
  have HK2 := Lib.hid hk2
  have HRD := Lib.hid hRd
  have HRB := Lib.hid hRy
  have HBS := Lib.hid hbs
  have HB2N := Lib.hid hb2
  have HC2 := Lib.hid hc2
  have HLEG := Lib.hid hLeg
  clear hLeg
  unfold Trm.v Trm.r at *
  dsimp only at cO cQ ⊢
  have HCO := Lib.hid cO
  have HB0 := Lib.hid (b_alloc w (.cells #[.int .u8 (K : Int), .int .i64 (P : Int), .int .u32 (R : Int), .int .u8 (B : Int), .int .i64 (M : Int), .int .i32 S, .int .i64 F, .int .i64 G] 28))
  have HQ0 := Lib.hid (Blk.new w 28 #[.int .u8 (K : Int), .int .i64 (P : Int), .int .u32 (R : Int), .int .u8 (B : Int), .int .i64 (M : Int), .int .i32 S, .int .i64 F, .int .i64 G])
  have cA1 := cA _ HB0.out
  clear cN cT cE hP hM hS hF hG hRb hBb hw hp hm hR cA h hi hk hk2 cO hok hy hLS hlen12 hX ho hmm hL hnn hnm hcc hbs hb2 hc2 hRd hRy cR
  go_enter Tryz.func3, Tryz.ntmps3
  go_wp2_with fail
  refine cA1.mono ?_
  rintro e w1 ⟨rfl, hb⟩
  have HT1 := Lib.hid (HQ0.out.below hb HQ0.out.lt)
  have HB1 := Lib.hid (HB0.out.trans (hb.mono HB0.out.size))
  obtain ⟨c0, c1, c2, c3, c4, c5, c6, c7⟩ := blk8 HT1.out
  clear hb cA1 HQ0 HB0
  go_wp2_with fail
  refine (HCO.out _).mono ?_
  rintro e w2 ⟨rfl, hb⟩
  have HT2 := Lib.hid (HT1.out.below hb HT1.out.lt)
  have HB2 := Lib.hid (HB1.out.trans (hb.mono HB1.out.size))
  clear hb c0 c1 c2 c3 c4 c5 c6 c7 HT1 HB1
  go_wp2_with fail
  refine (cQ _).mono ?_
  rintro e w3 ⟨rfl, hb⟩
  have HT3 := Lib.hid (HT2.out.below hb HT2.out.lt)
  have HB3 := Lib.hid (HB2.out.trans (hb.mono HB2.out.size))
  obtain ⟨c0, c1, c2, c3, c4, c5, c6, c7⟩ := blk8 HT3.out
  clear hb HT2 HB2 cQ
  go_wp2_with fail
  refine (HCN.out _ (HW.out.below HB3.out)).mono ?_
  rintro e w4 ⟨q, rfl, hq, hb, hsto⟩
  have HT4 := Lib.hid (HT3.out.below hb HT3.out.lt)
  have HB4 := Lib.hid (HB3.out.trans (hb.mono HB3.out.size))
  have HS4 := Lib.hid hsto
  clear hb hq hsto c0 c1 c2 c3 c4 c5 c6 c7 HT3 HB3 HCN
  obtain ⟨c0, c1, c2, c3, c4, c5, c6, c7⟩ := blk8 HT4.out
  go_wp2_with fail
  refine (HCE.out false _ ((HRD.out.below HB4.out).more HB4.out.size)).mono ?_
  rintro e w5 ⟨va, va9, rfl, hOa, hna, hb⟩
  have HT5 := Lib.hid (HT4.out.below hb HT4.out.lt)
  have HB5 := Lib.hid (HB4.out.trans (hb.mono HB4.out.size))
  have HS5 := Lib.hid ((HS4.out.below hb).up hb.size)
  have HA5 := Lib.hid (own_row hOa hna)
  clear hb hOa hna c0 c1 c2 c3 c4 c5 c6 c7 HT4 HB4 HS4
  obtain ⟨c0, c1, c2, c3, c4, c5, c6, c7⟩ := blk8 HT5.out
  go_wp2_with fail
  refine (HCE.out true _ ((HRD.out.below HB5.out).more HB5.out.size)).mono ?_
  rintro e w6 ⟨vb, vb9, rfl, hOb, hnb, hb⟩
  have HOB := Lib.hid hOb
  have HNB := Lib.hid hnb
  have HB6 := Lib.hid hb
  have HRB6 := Lib.hid ((HRB.out.below HB5.out).more HB5.out.size)
  clear hb hOb hnb c0 c1 c2 c3 c4 c5 c6 c7 HRD HRB HCE
  have s2 := HB2N.out
  go_wp2_with fail
  go_loopw [15, 16, 17, 18, 52] (fun _ _ _ _ i wr => ∃ j : Nat, j ≤ n2 ∧ i = .int .i64 (j : Int) ∧ Hid (∃ l' : List Ev, l'.Perm (evL S L true) ∧ OwnS evT 47 wr w5.heap.size vb mm l') ∧ Hid (Below w5.heap.size w5 wr)) (fun _ _ _ _ i _ => n2 - (intOf i).toNat)
  case atStart => exact ⟨0, Nat.zero_le _, rfl, Lib.hid ⟨_, List.Perm.refl _, HOB.out⟩, HB6⟩
  case round =>
    obtain ⟨j, hj, rfl, HOj, HBj⟩ := hrel
    by_cases hlt : j < n2
    · have hjl : j < bs.length := by rw [HBS.out]; exact hlt
      obtain ⟨b9, o9, rfl, hb9, d0⟩ := (HRB6.out.below HBj.out).at_ hjl
      obtain ⟨kb, hkb⟩ : ∃ k : Nat, (bs[j]'hjl).toNat = k := ⟨_, rfl⟩
      rw [hkb] at d0
      have hkb2 : kb < 256 := by rw [← hkb]; exact UInt8.toNat_lt _
      obtain ⟨l', hp, hO⟩ := HOj.out
      rcases Nat.eq_zero_or_pos mm with hm0 | hm0
      · have hvn := HNB.out hm0
        subst hvn
        clear hjl hb9 hkb hkb2 HOj
        have HOO := Lib.hid hO
        have HPP := Lib.hid hp
        clear hO hp
        have s8 := HC2.out
        by_cases h20 : j < 20
        · go_wp2_with fail
          go_roundw
          case rel => exact ⟨j + 1, hlt, by go_num, Lib.hid ⟨l', HPP.out, HOO.out⟩, HBj⟩
          case measure => simp [intOf]; omega
        · go_wp2_with fail
          go_roundw
          case rel => exact ⟨j + 1, hlt, by go_num, Lib.hid ⟨l', HPP.out, HOO.out⟩, HBj⟩
          case measure => simp [intOf]; omega
      · obtain ⟨g, cv, hve, hcv⟩ : ∃ g c, vb = .slice (some ⟨g, 0, none⟩) mm c ∧ mm ≤ c := by
          have h := hO
          unfold OwnS at h
          rcases h.2 with ⟨-, h2⟩ | ⟨g', cap', cur, h1, h2, hg, h4, h5, h6, ht⟩
          · omega
          · exact ⟨g', cap', h1, h4⟩
        subst hve
        have hl := hO.length (show 0 < 4 by omega)
        have s8 := HC2.out
        have s9 := HMM.out
        have HOO := Lib.hid hO
        have HPP := Lib.hid hp
        by_cases h20 : j < 20
        · obtain ⟨p, hpj⟩ : ∃ p, j % mm = p := ⟨_, rfl⟩
          obtain ⟨r, hrj⟩ : ∃ p, kb % mm = p := ⟨_, rfl⟩
          have hpl : p < mm := by rw [← hpj]; exact Nat.mod_lt _ hm0
          have hrl : r < mm := by rw [← hrj]; exact Nat.mod_lt _ hm0
          have m1 : (j : Int) % (mm : Int) = (p : Int) := by rw [← hpj]; omega
          have m2 : (kb : Int) % (mm : Int) = (r : Int) := by rw [← hrj]; omega
          have m3 : (j : Int).tmod (mm : Int) = (p : Int) := by rw [← hpj]; rfl
          have m4 : (kb : Int).tmod (mm : Int) = (r : Int) := by rw [← hrj]; rfl
          have m5 : ((mm : Int) == 0) = false := by rw [beq_eq_false_iff_ne]; omega
          have m6 : (0 : Int) < (mm : Int) := by omega
          clear hO hp HOj hjl hb9 hkb hpj hrj
          go_upto_region 14 with (fail)
          go_quiet (fail)
          go_upto_region 15 with (fail)
          obtain ⟨x, hx⟩ : ∃ x, l'[p]'(by omega) = x := ⟨_, rfl⟩
          obtain ⟨y, hy⟩ : ∃ y, l'[r]'(by omega) = y := ⟨_, rfl⟩
          obtain ⟨x1, x2, x3, x4⟩ := x
          obtain ⟨y1, y2, y3, y4⟩ := y
          have hx? : l'[p]? = some ⟨x1, x2, x3, x4⟩ := by rw [← hx]; exact List.getElem?_eq_getElem _
          have hy? : l'[r]? = some ⟨y1, y2, y3, y4⟩ := by rw [← hy]; exact List.getElem?_eq_getElem _
          obtain ⟨⟨i0, i1, i2, i3⟩, fz⟩ := own_cells HOO.out hx?
          obtain ⟨⟨j0, j1, j2, j3⟩, -⟩ := own_cells HOO.out hy?
          have z0 := fz (p * 4)
          have z1 := fz (p * 4 + 1)
          have z2 := fz (p * 4 + 2)
          have z3 := fz (p * 4 + 3)
          have z4 := fz (r * 4)
          have z5 := fz (r * 4 + 1)
          have z6 := fz (r * 4 + 2)
          have z7 := fz (r * 4 + 3)
          have HX := Lib.hid hx
          have HY := Lib.hid hy
          dsimp only at i0 i1 i2 i3 j0 j1 j2 j3
          clear fz hx hy hx? hy?
          by_cases hpr : p = r
          · subst hpr
            go_region
            have hO9 := own_put4 (own_put4 (show OwnS evT 47 (wr.drewN (nq + 1)) w5.heap.size (.slice (some ⟨g, 0, none⟩) mm cv) mm l' from HOO.out) (k := p) (by omega) ⟨x1, x2, x3, x4⟩) (k := p) (by rw [List.length_set]; omega) ⟨x1, x2, x3, x4⟩
            have hg9 : wr.grownBy (put4 (put4 (wr.drewN (nq + 1)) g p ⟨x1, x2, x3, x4⟩) g p ⟨x1, x2, x3, x4⟩) (some g) := grown_trans (grown_drewN (grown_refl wr (some g)) (nq + 1)) (grown_trans (put4_grown _ _ _ _) (put4_grown _ _ _ _))
            have hb9 := HBj.out.grown hg9 HBj.out.size (fun i hi => by injection hi with hi; subst hi; exact (HOO.out.lt g rfl).1)
            have hp9 := swap_perm l' (p := p) (q := p) (by omega) (by omega)
            rw [HX.out] at hp9
            obtain ⟨W9, hW9⟩ : ∃ W, put4 (put4 (wr.drewN (nq + 1)) g p ⟨x1, x2, x3, x4⟩) g p ⟨x1, x2, x3, x4⟩ = W := ⟨_, rfl⟩
            rw [hW9] at hO9 hb9
            unfold put4 at hW9
            dsimp only at hW9
            rw [hW9]
            have HO9 := Lib.hid hO9
            have HB9 := Lib.hid hb9
            have HP9 := Lib.hid (hp9.trans HPP.out)
            clear hO9 hg9 hb9 hp9 hW9 HOO HPP HX HY i0 i1 i2 i3 j0 j1 j2 j3 z0 z1 z2 z3 z4 z5 z6 z7 m1 m2 m3 m4 m5 m6
            go_wp2_with fail
            go_roundw
            case rel => exact ⟨j + 1, hlt, by go_num, Lib.hid ⟨_, HP9.out, HO9.out⟩, HB9⟩
            case measure => simp [intOf]; omega
          · have hrp : ¬ r = p := fun e => hpr e.symm
            go_region
            have hO9 := own_put4 (own_put4 (show OwnS evT 47 (wr.drewN (nq + 1)) w5.heap.size (.slice (some ⟨g, 0, none⟩) mm cv) mm l' from HOO.out) (k := p) (by omega) ⟨y1, y2, y3, y4⟩) (k := r) (by rw [List.length_set]; omega) ⟨x1, x2, x3, x4⟩
            have hg9 : wr.grownBy (put4 (put4 (wr.drewN (nq + 1)) g p ⟨y1, y2, y3, y4⟩) g r ⟨x1, x2, x3, x4⟩) (some g) := grown_trans (grown_drewN (grown_refl wr (some g)) (nq + 1)) (grown_trans (put4_grown _ _ _ _) (put4_grown _ _ _ _))
            have hb9 := HBj.out.grown hg9 HBj.out.size (fun i hi => by injection hi with hi; subst hi; exact (HOO.out.lt g rfl).1)
            have hp9 := swap_perm l' (p := p) (q := r) (by omega) (by omega)
            rw [HX.out, HY.out] at hp9
            obtain ⟨W9, hW9⟩ : ∃ W, put4 (put4 (wr.drewN (nq + 1)) g p ⟨y1, y2, y3, y4⟩) g r ⟨x1, x2, x3, x4⟩ = W := ⟨_, rfl⟩
            rw [hW9] at hO9 hb9
            unfold put4 at hW9
            dsimp only at hW9
            rw [hW9]
            have HO9 := Lib.hid hO9
            have HB9 := Lib.hid hb9
            have HP9 := Lib.hid (hp9.trans HPP.out)
            clear hO9 hg9 hb9 hp9 hW9 HOO HPP HX HY i0 i1 i2 i3 j0 j1 j2 j3 z0 z1 z2 z3 z4 z5 z6 z7 m1 m2 m3 m4 m5 m6
            go_wp2_with fail
            go_roundw
            case rel => exact ⟨j + 1, hlt, by go_num, Lib.hid ⟨_, HP9.out, HO9.out⟩, HB9⟩
            case measure => simp [intOf]; omega
        · clear hO hp HOj hjl hb9 hkb
          go_wp2_with fail
          go_roundw
          case rel => exact ⟨j + 1, hlt, by go_num, Lib.hid ⟨l', HPP.out, HOO.out⟩, HBj⟩
          case measure => simp [intOf]; omega
    · have hjn : j = n2 := by omega
      subst hjn
      obtain ⟨l', hp, hO⟩ := HOj.out
      have HVB := Lib.hid (own_row hO (fun h => HNB.out h))
      have HPB := Lib.hid (hp.trans HPM.out.symm)
      have HVA := Lib.hid (HA5.out.below HBj.out)
      have HTj := Lib.hid (HT5.out.below HBj.out HT5.out.lt)
      have HSj := Lib.hid ((HS5.out.below HBj.out).up HBj.out.size)
      have HBk := Lib.hid (HB5.out.trans (HBj.out.mono HB5.out.size))
      obtain ⟨c0, c1, c2, c3, c4, c5, c6, c7⟩ := blk8 HTj.out
      have s3 : (k : Int) ≤ 130 := by have := HK2.out; omega
      have s4 : (0 : Int) ≤ k := by omega
      have s5 : -2147483648 ≤ S + (k : Int) := by have := HS.out; omega
      have s6 : S + (k : Int) ≤ 2147483647 := by have := HS.out; have := HK2.out; omega
      obtain ⟨C1, hC1⟩ : ∃ C : Array Value, C = #[.int .i64 X.f, .int .i64 X.i, .int .i64 X.p, .int .u64 (X.c : Int), .int .i64 X.d, .int .i64 X.s, .int .i64 X.r, .int .i64 X.h, .int .u8 (X.t : Int)] := ⟨_, rfl⟩
      clear hO hp hlt hj HOj HBj HNB HOB HB6 HA5 HT5 HS5 HB5
      go_wp2_with fail
      refine (HCT.out q _ HSj.out va _ (List.Perm.refl _) HVA.out).mono ?_
      rintro e w10 ⟨en1, rfl, hb, hen1⟩
      have hab := b_alloc w10 (.cells C1 52)
      have hbk := Blk.new w10 52 C1
      have HEN1 := Lib.hid (hen1.keep (w' := w10.alloc (.cells C1 52)) hab.size (fun i T cs hB _ => hab.block i hB.lt))
      have hb1 := hb.trans (hab.mono hb.size)
      have HV2 := Lib.hid (HVB.out.below hb1)
      have HS2 := Lib.hid ((HSj.out.below hb1).up hb1.size)
      have HB2 := Lib.hid (HBk.out.trans (hb1.mono HBk.out.size))
      have HX2 := Lib.hid hbk
      rw [hC1] at HEN1 HV2 HS2 HB2 HX2
      clear hb hen1 hab hbk hb1 c0 c1 c2 c3 c4 c5 c6 c7 HVB HVA HTj HSj HBk
      go_wp2_with fail
      obtain ⟨W11, hW11⟩ : ∃ W, w10.alloc (.cells #[.int .i64 X.f, .int .i64 X.i, .int .i64 X.p, .int .u64 (X.c : Int), .int .i64 X.d, .int .i64 X.s, .int .i64 X.r, .int .i64 X.h, .int .u8 (X.t : Int)] 52) = W := ⟨_, rfl⟩
      obtain ⟨xb, hxb⟩ : ∃ j, w10.heap.size = j := ⟨_, rfl⟩
      rw [hW11] at HEN1 HV2 HS2 HB2 HX2 ⊢
      rw [hxb] at HX2 ⊢
      clear hW11 hxb
      refine (HCT.out q _ HS2.out _ _ HPB.out HV2.out).mono ?_
      rintro e w12 ⟨en2, rfl, hb, hen2⟩
      have hab := b_alloc w12 (.cells C1 52)
      have hbk := Blk.new w12 52 C1
      have HEN2 := Lib.hid (hen2.keep (w' := w12.alloc (.cells C1 52)) hab.size (fun i T cs hB _ => hab.block i hB.lt))
      have hb1 := hb.trans (hab.mono hb.size)
      have HEN3 := Lib.hid (HEN1.out.keep (w' := w12.alloc (.cells C1 52)) hb1.size (fun i T cs hB _ => hb1.block i hB.lt))
      have HB3 := Lib.hid (HB2.out.trans (hb1.mono HB2.out.size))
      have HX3 := Lib.hid (HX2.out.below hb1 HX2.out.lt)
      have HY3 := Lib.hid hbk
      rw [hC1] at HEN2 HEN3 HB3 HX3 HY3
      clear hb hen2 hab hbk hb1 HV2 HS2 HB2 HX2 HEN1 hC1 HCT HPB
      go_upto_region 20 with (fail)
      obtain ⟨W13, hW13⟩ : ∃ W, w12.alloc (.cells #[.int .i64 X.f, .int .i64 X.i, .int .i64 X.p, .int .u64 (X.c : Int), .int .i64 X.d, .int .i64 X.s, .int .i64 X.r, .int .i64 X.h, .int .u8 (X.t : Int)] 52) = W := ⟨_, rfl⟩
      obtain ⟨yb, hyb⟩ : ∃ j, w12.heap.size = j := ⟨_, rfl⟩
      rw [hW13] at HEN2 HEN3 HB3 HX3 HY3 ⊢
      rw [hyb] at HY3 ⊢
      clear hW13 hyb
      obtain ⟨Aa, ca, Va, rfl, hca, hcm, hra, hVa⟩ := HEN3.out.row
      obtain ⟨Ab, cb, Vb, rfl, hcb, hcn, hrb, hVb⟩ := HEN2.out.row
      have g0 := HX3.out.cell 0
      have g1 := HX3.out.cell 1
      have g2 := HX3.out.cell 2
      have g3 := HX3.out.cell 3
      have g4 := HX3.out.cell 4
      have g5 := HX3.out.cell 5
      have g6 := HX3.out.cell 6
      have g7 := HX3.out.cell 7
      have g8 := HX3.out.cell 8
      have h0 := HY3.out.cell 0
      have h1 := HY3.out.cell 1
      have h2 := HY3.out.cell 2
      have h3 := HY3.out.cell 3
      have h4 := HY3.out.cell 4
      have h5 := HY3.out.cell 5
      have h6 := HY3.out.cell 6
      have h7 := HY3.out.cell 7
      have h8 := HY3.out.cell 8
      simp at g0 g1 g2 g3 g4 g5 g6 g7 g8 h0 h1 h2 h3 h4 h5 h6 h7 h8
      have HRA := Lib.hid hra
      have HRB2 := Lib.hid hrb
      have HVA := Lib.hid hVa
      have HVB := Lib.hid hVb
      obtain ⟨LL, hLL⟩ : ∃ n, X.L.length = n := ⟨_, rfl⟩
      have HLL := Lib.hid hLL
      rw [hLL] at hca hcb ⊢
      have HCA := Lib.hid hca
      have HCB := Lib.hid hcb
      have HCM := Lib.hid hcm
      clear hra hrb hVa hVb hLL HEN2 HEN3 hca hcb hcm hcn
      go_wp2_with fail
      clear g0 g1 g2 g3 g4 g5 g6 g7 g8 h0 h1 h2 h3 h4 h5 h6 h7 h8 HX3 HY3
      go_loopw [24, 120] (fun _ i wr => ∃ j : Nat, j ≤ LL ∧ i = .int .i64 (j : Int) ∧ Hid (Below W13.heap.size W13 wr)) (fun _ i _ => LL - (intOf i).toNat)
      case atStart => exact ⟨0, Nat.zero_le _, rfl, Lib.hid (Below.refl _ _)⟩
      case round =>
        obtain ⟨j, hj, rfl, HBj⟩ := hrel
        by_cases hlt : j < LL
        · have hja : j < Va.length := by rw [HVA.out.len, HLL.out]; exact hlt
          have hjb : j < Vb.length := by rw [HVB.out.len, HLL.out]; exact hlt
          have hjx : j < X.L.length := by rw [HLL.out]; exact hlt
          obtain ⟨b8, o8, rfl, hb8, hc8⟩ := (HRA.out.below HBj.out).at_ hja
          obtain ⟨b9, o9, rfl, hb9, hc9⟩ := (HRB2.out.below HBj.out).at_ hjb
          obtain ⟨f1, f2, -, -⟩ := HVA.out.y j _ _ (List.getElem?_eq_getElem hja) (List.getElem?_eq_getElem hjx)
          obtain ⟨f3, f4, -, -⟩ := HVB.out.y j _ _ (List.getElem?_eq_getElem hjb) (List.getElem?_eq_getElem hjx)
          have hr1 := HVA.out.r j _ _ (List.getElem?_eq_getElem hja) (List.getElem?_eq_getElem hjx)
          have hr2 := HVB.out.r j _ _ (List.getElem?_eq_getElem hjb) (List.getElem?_eq_getElem hjx)
          have hl8 := HLEG.out _ (List.getElem_mem hjx)
          obtain ⟨v1, hv1⟩ : ∃ v, Va[j] = v := ⟨_, rfl⟩
          obtain ⟨v2, hv2⟩ : ∃ v, Vb[j] = v := ⟨_, rfl⟩
          obtain ⟨x, hx⟩ : ∃ v, X.L[j] = v := ⟨_, rfl⟩
          rw [hv1] at hc8 f1 f2 hr1
          rw [hv2] at hc9 f3 f4 hr2
          rw [hx] at f1 f2 f3 f4 hr1 hr2 hl8
          obtain ⟨y1, A1, n1, c1⟩ := v1
          obtain ⟨y2, A2', n2', c2⟩ := v2
          obtain ⟨ky, l⟩ := x
          dsimp only at f1 f2 f3 f4 hr1 hr2 hl8
          rw [f1] at hc8
          rw [f3] at hc9
          clear f1 f3
          obtain ⟨ya, yd, yk, ys⟩ := ky
          have d0 : wr.cell? ⟨b8, o8 + j * 5, none⟩ = some (.int .u32 (ya : Int)) := hc8 0 _ rfl
          have d1 : wr.cell? ⟨b8, o8 + j * 5 + 1, none⟩ = some (.int .i32 yd) := hc8 1 _ rfl
          have d2 : wr.cell? ⟨b8, o8 + j * 5 + 2, none⟩ = some (.int .u8 (yk : Int)) := hc8 2 _ rfl
          have d3 : wr.cell? ⟨b8, o8 + j * 5 + 3, none⟩ = some (.int .u32 (ys : Int)) := hc8 3 _ rfl
          have d4 : wr.cell? ⟨b8, o8 + j * 5 + 4, none⟩ = some (.slice A1 n1 c1) := hc8 4 _ rfl
          have d5 : wr.cell? ⟨b9, o9 + j * 5, none⟩ = some (.int .u32 (ya : Int)) := hc9 0 _ rfl
          have d6 : wr.cell? ⟨b9, o9 + j * 5 + 1, none⟩ = some (.int .i32 yd) := hc9 1 _ rfl
          have d7 : wr.cell? ⟨b9, o9 + j * 5 + 2, none⟩ = some (.int .u8 (yk : Int)) := hc9 2 _ rfl
          have d8 : wr.cell? ⟨b9, o9 + j * 5 + 3, none⟩ = some (.int .u32 (ys : Int)) := hc9 3 _ rfl
          have d9 : wr.cell? ⟨b9, o9 + j * 5 + 4, none⟩ = some (.slice A2' n2' c2) := hc9 4 _ rfl
          have hS : ∀ W, Below wr.heap.size wr W → Calls Tryz.prog 12 #[.agg #[.int .u32 (ya : Int), .int .i32 yd, .int .u8 (yk : Int), .int .u32 (ys : Int), .slice A1 n1 c1], .agg #[.int .u32 (ya : Int), .int .i32 yd, .int .u8 (yk : Int), .int .u32 (ys : Int), .slice A2' n2' c2]] W (Ret (.bool true) W) := fun W hb => by
            have hbw := HBj.out.trans (hb.mono HBj.out.size)
            have h := Same13_any ⟨ya, yd, yk, ys⟩ ⟨ya, yd, yk, ys⟩ A1 A2' n1 n2' c1 c2 W13.heap.size W13.heap.size l l W (hr1.below hbw) f2.symm (by omega) hbw.size (hr2.below hbw) f4.symm (by omega) hbw.size
            rw [show decide ((⟨ya, yd, yk, ys⟩ : Ky) = ⟨ya, yd, yk, ys⟩ ∧ l = l) = true by simp] at h
            exact h
          have HS := Lib.hid hS
          have s7 : LL ≤ ca := HCA.out
          have s8 : LL ≤ cb := HCB.out
          have s9 : ca ≤ maxLen := HCM.out
          unfold maxLen at s9
          have q0 := cell_regrown d0
          have q1 := cell_regrown d1
          have q2 := cell_regrown d2
          have q3 := cell_regrown d3
          have q4 := cell_regrown d4
          have q5 := cell_regrown d5
          have q6 := cell_regrown d6
          have q7 := cell_regrown d7
          have q8 := cell_regrown d8
          have q9 := cell_regrown d9
          clear hc8 hc9 f2 f4 hr1 hr2 hl8 hv1 hv2 hx hja hjb hjx hb8 hb9 hS d0 d1 d2 d3 d4 d5 d6 d7 d8 d9
          go_upto_region 25 with (fail)
          have A1_0 := fun (dd : Nat) (os : Array Obj) => Calls.regrown_of (HS.out _ (below_regrown wr dd os))
          refine wp_region_quiet_below (by kernel_rfl) (by kernel_rfl) ?_
          repeat (go_big_quiet_step (first | (go_at_call 12; exact A1_0 _ _)))
          refine wpQuiet_nil ?_
          intro w7 hw7
          have hb7 : Below wr.heap.size wr w7 := by
            obtain ⟨p, rfl⟩ := hw7
            exact below_regrown _ _ _
          have HB7 := Lib.hid (HBj.out.trans (hb7.mono HBj.out.size))
          clear hw7 hb7 q0 q1 q2 q3 q4 q5 q6 q7 q8 q9 A1_0 HS
          go_wp2_with fail
          go_roundw
          case rel => exact ⟨j + 1, hlt, by go_num, HB7⟩
          case measure => simp [intOf]; omega
        · have hjm : j = LL := by omega
          subst hjm
          have HBz := Lib.hid (HB3.out.trans (HBj.out.mono HB3.out.size))
          go_wp2_with fail
          go_ret
          exact ⟨rfl, HBz.out⟩
theorem Orders_any {t : Trm} (hi : t.In) {L : List Dd} (hL : ∀ x ∈ L, DdIn x) {A : Option Addr} {nn cc : Nat} (hnn : L.length = nn) (hnm : nn ≤ 9223372036854775807) (hcc : nn ≤ cc) {A2 : Option Addr} {n2 cz : Nat} {bs : List UInt8} (hbs : bs.length = n2) (hb2 : n2 ≤ 140737488355328) (hc2 : n2 ≤ cz) (n : Nat) (w : World) (hRd : Rs deedT w w.heap.size A L) (hRy : Rd w w.heap.size A2 bs) (hw : Lens w) (hp : Pows w) (m : Int) (hm : w.cell? ⟨3, 0, none⟩ = some (.int .i64 m)) (te : TypeId) (pe : Value) (hR : w.cell? ⟨0, 0, none⟩ = some (.iface te pe)) :
    Calls Tryz.prog 3 #[t.v, .slice A nn cc, .slice A2 n2 cz, .int .u16 (n : Int)] w (Ret (.bool true) w) := by
  by_cases h : t.Right
  · obtain ⟨K, P, R, B, M, S, F, G⟩ := t
    have hP := h.P
    have hM := h.M
    dsimp only at hP hM
    obtain ⟨P', rfl⟩ := Int.eq_ofNat_of_zero_le (by omega : 0 ≤ P)
    obtain ⟨M', rfl⟩ := Int.eq_ofNat_of_zero_le (by omega : 0 ≤ M)
    exact Orders_yes hi h hL hnn hnm hcc hbs hb2 hc2 n w hRd hRy hw hp m hm te pe hR
  · exact Orders_no hi h _ _ n w hw hp m hm te pe hR
end Go.Proofs.YtpbfipeinblfgaaGreatDoor
