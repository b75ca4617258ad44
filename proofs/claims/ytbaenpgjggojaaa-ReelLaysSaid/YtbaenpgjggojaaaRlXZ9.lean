/-
Make and Turn. Conditions: a drum that isn't armed, of a thousand sectors at most; a record that lies off the reel and the drum; room for the writes.
-/
import Derived.Test.YtbaenpgjggojaaaRlWZ9
namespace Go.Proofs.Ytbaenpgjggojaaa
open Go.ChangeShapes Go.WideShapes Go.RowKit

def makeNow (n : Nat) (b : List UInt8) (j : Nat) : List UInt8 :=
  if j = 1 then headL 1 else if startN n 1 ≤ j ∧ j < startN n 1 + halfN n then (secs (seedN 1 0) b).getD (j - startN n 1) zeros else zeros
def MakeOk (w : World) (o : Nat → Prop) (base d : Nat) (fl : List (List UInt8)) (b : List UInt8) (r : Nat) (w' : World) : Prop :=
  ∃ fl', w.heap.size ≤ r ∧ RlK w o base d r 1 fl' [] [b] w' ∧ fl'.length = fl.length ∧ ∀ j, j < fl.length → now fl' [] j = makeNow fl.length b j
def MakePost (w : World) (o : Nat → Prop) (base d : Nat) (fl : List (List UInt8)) (b : List UInt8) (F : Nat) (e : Ending) (w' : World) : Prop :=
  (fl.length < 6 ∧ e = .returned (.tuple #[.pointer none, errV 1]) ∧ Below w.heap.size w w') ∨
  (6 ≤ fl.length ∧ F ≠ 0 ∧ e = .returned (.tuple #[.pointer none, errV F]) ∧ Below w.heap.size w w') ∨
  (6 ≤ fl.length ∧ F = 0 ∧ ∃ r, e = .returned (.tuple #[.pointer (some ⟨r, 0, none⟩), .nilIface]) ∧ MakeOk w o base d fl b r w')
theorem Make_nil (A : Option Addr) (m q : Nat) (w : World) : Calls Try.prog 8 #[.pointer none, .slice A m q] w fun e w' => e = .returned (.tuple #[.pointer none, errV 3]) ∧ w' = w := by
  have c1 := fun W => holds_nil W
  go_enter Try.func8, Try.ntmps8
  go_wp2_with fail
  refine (c1 w).mono ?_
  rintro e w1 ⟨rfl, rfl⟩
  unfold errV
  rw [if_neg (by decide)]
  clear c1
  go_wp2_with fail
  go_ret2
  exact ⟨rfl, rfl⟩
section
variable {w : World} {base d g q m r : Nat} {av o own : Nat → Prop} {fl : List (List UInt8)} {ws : List (Nat × List UInt8)} {A : Option Addr} {b : List UInt8} {Ls : List (List UInt8)}
theorem errV_pos {k : Nat} (h : k ≠ 0) : errV k = .iface 54 (.int .i64 (k : Int)) := by unfold errV; rw [if_neg h]
theorem rdq_near (hb : RdQ w av A b) : RdQ w (fun i => av i ∧ i < w.heap.size) A b := fun h0 => by
  obtain ⟨b1, o1, e1, h1, h2, h3⟩ := hb h0
  exact ⟨b1, o1, e1, h1, ⟨h2, h1⟩, h3⟩
set_option maxRecDepth 20000 in
set_option maxHeartbeats 4000000 in
theorem Make_dr (hd : Dr w base d o fl ws (-1)) (h1k : fl.length ≤ 1000) (hws : ws.length ≤ 700000) (hb : RdQ w av A b) (hav : ∀ i, av i → ¬ o i) (hm : b.length = m) (hmq : m ≤ q) (hqx : m ≤ 140737488355328) :
    Calls Try.prog 8 #[.pointer (some ⟨d, 0, none⟩), .slice A m q] w (MakePost w o base d fl b (fitsN m (halfN fl.length : Nat))) := by
  have cH := holds_dr hd
  obtain ⟨F, hF⟩ : ∃ F, fitsN m (halfN fl.length : Nat) = F := ⟨_, rfl⟩
  have HF := Lib.hid hF
  have HD := Lib.hid hd
  have HB := Lib.hid (And.intro (rdq_near hb) (And.intro hav (And.intro hm (And.intro hmq hqx))))
  have HT := Lib.hid (And.intro h1k hws)
  rw [hF]
  by_cases h6 : fl.length < 6
  · rw [if_pos h6, errV_pos (by decide)] at cH
    have H6 := Lib.hid h6
    clear hd h1k hws hb hav hm hmq hqx hF h6
    go_enter Try.func8, Try.ntmps8
    go_wp2_with fail
    refine cH.mono ?_
    rintro e w1 ⟨rfl, rfl⟩
    clear cH
    go_wp2_with fail
    go_ret2
    exact .inl ⟨H6.out, rfl, Below.refl _ _⟩
  · rw [if_neg h6, show errV 0 = .nilIface from rfl] at cH
    have c2 := half_dr hd (by omega)
    have c3 := fun W => fits_any A m q (by omega) (halfN fl.length : Nat) W
    rw [hF] at c3
    have H6 := Lib.hid h6
    by_cases h0 : F = 0
    · subst h0
      rw [show errV 0 = .nilIface from rfl] at c3
      have c4 := RSize_dr hd
      have c5 := wipe_dr hd 0 fl.length (by omega) (by omega)
      rw [Nat.zero_add] at c5
      have hwl := wipeW_len fl ws 0 fl.length
      have HW := Lib.hid hwl
      clear hd h1k hws hb hav hm hmq hqx hF h6 hwl
      go_enter Try.func8, Try.ntmps8
      go_wp2_with fail
      refine cH.mono ?_
      rintro e w1 ⟨rfl, hw1⟩
      subst hw1
      clear cH
      go_wp2_with fail
      refine c2.mono ?_
      rintro e w1 ⟨rfl, hw1⟩
      subst hw1
      clear c2
      go_wp2_with fail
      refine (c3 _).mono ?_
      rintro e w1 ⟨rfl, hw1⟩
      subst hw1
      clear c3
      go_wp2_with fail
      refine c4.mono ?_
      rintro e w1 ⟨rfl, hw1⟩
      subst hw1
      clear c4
      go_wp2_with fail
      refine c5.mono ?_
      rintro e w2 ⟨rfl, o2, hd2, hk2, ho2⟩
      have cF := Flush_dr hd2 (by decide) (by decide)
      rw [show less (-1) = -1 from rfl] at cF
      have HK2 := Lib.hid (And.intro hk2 ho2)
      clear c5 hd2 hk2 ho2
      go_wp2_with fail
      refine cF.mono ?_
      rintro e w3 ⟨rfl, o3, hd3, hk3, ho3⟩
      have hk13 : Kept o w1 w3 := HK2.out.1.trans hk3 HK2.out.2
      have ho13 : ∀ i, i < w1.heap.size → o3 i → o i := fun i hi h => HK2.out.2 i hi (ho3 i (Nat.lt_of_lt_of_le hi HK2.out.1.size) h)
      have hl3 : (app fl (wipeW fl ws 0 fl.length)).length = fl.length := app_length _ _
      have hn3 : ∀ j, j < fl.length → now (app fl (wipeW fl ws 0 fl.length)) [] j = zeros := fun j hj => by
        show now fl (wipeW fl ws 0 fl.length) j = zeros
        rw [wipeW_now fl ws 0 fl.length (by omega), if_pos (by omega)]
      obtain ⟨fl3, hfl3⟩ : ∃ f, app fl (wipeW fl ws 0 fl.length) = f := ⟨_, rfl⟩
      rw [hfl3] at hd3 hl3 hn3
      have cB := begun_dr (g := 1) hd3 (by decide) (by have := H6.out; omega) (by have := HT.out; omega) (by simp) (HB.out.1.kept hk13 fun i hi => HB.out.2.1 i hi.1) (fun i hi h => HB.out.2.1 i hi.1 (ho13 i hi.2 h)) HB.out.2.2.1 HB.out.2.2.2.1 HB.out.2.2.2.2 (by rw [hl3]; exact HF.out)
      have HK3 := Lib.hid (And.intro hk13 (And.intro ho13 (And.intro hl3 hn3)))
      clear cF hd3 hk3 ho3 hk13 ho13 hl3 hn3 hfl3
      go_wp2_with fail
      refine cB.mono ?_
      rintro e w4 ⟨r, fl', rfl, hr, hK, hl, hnow⟩
      have HE := Lib.hid (And.intro hr (And.intro hK (And.intro hl hnow)))
      clear cB hr hK hl hnow
      go_wp2_with fail
      go_ret2
      obtain ⟨hr, ⟨own, k1, k2, k3⟩, hl, hnow⟩ := HE.out
      obtain ⟨hk13, ho13, hl3, hn3⟩ := HK3.out
      refine .inr (.inr ⟨by have := H6.out; omega, rfl, r, rfl, fl', Nat.le_trans hk13.size hr, ⟨own, k1, hk13.trans k2 ho13, fun i hi h => ho13 i hi (k3 i (Nat.lt_of_lt_of_le hi hk13.size) h)⟩, hl.trans hl3, fun j hj => ?_⟩)
      rw [hnow j (by omega)]
      unfold begNow makeNow
      rw [hl3, hn3 j hj]
    · rw [errV_pos h0] at c3
      have H0 := Lib.hid h0
      have hF0 : ¬ ((F : Int) = 0) := by omega
      clear hd h1k hws hb hav hm hmq hqx hF h6 h0
      go_enter Try.func8, Try.ntmps8
      go_wp2_with fail
      refine cH.mono ?_
      rintro e w1 ⟨rfl, hw1⟩
      subst hw1
      clear cH
      go_wp2_with fail
      refine c2.mono ?_
      rintro e w1 ⟨rfl, hw1⟩
      subst hw1
      clear c2
      go_wp2_with fail
      refine (c3 _).mono ?_
      rintro e w1 ⟨rfl, hw1⟩
      subst hw1
      clear c3
      go_wp2_with fail
      go_ret2
      refine .inr (.inl ⟨by have := H6.out; omega, H0.out, by rw [errV_pos H0.out]; rfl, Below.refl _ _⟩)
end
end Go.Proofs.Ytbaenpgjggojaaa
