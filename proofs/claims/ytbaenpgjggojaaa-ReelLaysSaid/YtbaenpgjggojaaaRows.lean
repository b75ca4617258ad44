/-
  No cell of these rows narrows 'for every input' (looked for: loops, veiled, ifaces, maps, wideKeys, modest, calm, conditions, laid).
  DERIVED. THE GIVEN ROWS OF THIS SEAT. 3 by the template 'for every input the law returns true; each argument reads behind the call as it read before'; 0 by the template 'total and deterministic' (their statements: YtbaenpgjggojaaaTotals.lean).
  GIVEN WITH THE SEED: the statements are not yours to turn. If you find one false, say at which input.
  Laid BY PROGRAM, IN A SANDBOX (cutbox-rows.mjs): the forced cells as the released guide's own fill.sh prints them over the translation db98f1b22267b5e6… (all of the seat's roots in one cut). By AI agents, Wed Nov 11 2026. No macro, syntax, notation, axiom, sorry.
-/
import Derived.Test.YtbaenpgjggojaaaChecked
import GoSem.Claim
import GoSem.ClaimJoined
import GoSem.ClaimMapViews
import Derived.JoinedTies
import Derived.KernelRfl
namespace Go.Proofs.Ytbaenpgjggojaaa
/- THE CELL 'sum', in the pinned program and in every row, IS THE sha256 OF THE DUMP (.gsa) THAT YtbaenpgjggojaaaProg.lean LOADS. Nothing in Lean hashes anything: it is a label: what it is worth is what the hold of that sum in a sandbox is worth. -/
noncomputable def Try.pinned : Pinned := { name := "ytbaenpgjggojaaa", sum := "db98f1b22267b5e63295d0b03cb2ee6cf02696a7bbc7c967f9f855b0ff635d01", checked := Try.checked }
namespace Rows
def none {H : Type} : Left H := { results := [], args := [] }

/-- 'arrearslaw15.ReelLays': WHATEVER THE INPUT: true; the input reads as it did. -/
def reelLaysSpec : ChangeSpec := { name := "reelLays", fn := fun _ => fun
  | [d1, d2, d3, d4] => { results := [.lit (.bool true)], args := [d1, d2, d3, d4] }
  | _ => none }
def reelLaysRow : OpenClaim := { program := "ytbaenpgjggojaaa", sum := "db98f1b22267b5e63295d0b03cb2ee6cf02696a7bbc7c967f9f855b0ff635d01", func := "arrears/arrearslaw15.ReelLays", spec := "reelLays", unfollowed := true, recurses := true, apart := false }
def ReelLaysSaid : Prop := reelLaysRow.holds Try.pinned (OpenSpec.ofChange reelLaysSpec)

/-- ITS FALSE NEIGHBOUR: 'it returns false'. Refute it at one input. -/
def reelLaysWrong : ChangeSpec := { name := "reelLays", fn := fun _ => fun
  | [d1, d2, d3, d4] => { results := [.lit (.bool false)], args := [d1, d2, d3, d4] }
  | _ => none }
def ReelLaysWrongFalsely : Prop := reelLaysRow.holds Try.pinned (OpenSpec.ofChange reelLaysWrong)

/-- 'arrearslaw15.ReelGoes': WHATEVER THE INPUT: true; the input reads as it did. -/
def reelGoesSpec : ChangeSpec := { name := "reelGoes", fn := fun _ => fun
  | [d1, d2, d3] => { results := [.lit (.bool true)], args := [d1, d2, d3] }
  | _ => none }
def reelGoesRow : OpenClaim := { program := "ytbaenpgjggojaaa", sum := "db98f1b22267b5e63295d0b03cb2ee6cf02696a7bbc7c967f9f855b0ff635d01", func := "arrears/arrearslaw15.ReelGoes", spec := "reelGoes", unfollowed := true, recurses := true, apart := false }
def ReelGoesSaid : Prop := reelGoesRow.holds Try.pinned (OpenSpec.ofChange reelGoesSpec)

/-- ITS FALSE NEIGHBOUR: 'it returns false'. Refute it at one input. -/
def reelGoesWrong : ChangeSpec := { name := "reelGoes", fn := fun _ => fun
  | [d1, d2, d3] => { results := [.lit (.bool false)], args := [d1, d2, d3] }
  | _ => none }
def ReelGoesWrongFalsely : Prop := reelGoesRow.holds Try.pinned (OpenSpec.ofChange reelGoesWrong)

/-- 'arrearslaw15.ReelTurns': WHATEVER THE INPUT: true; the input reads as it did. -/
def reelTurnsSpec : ChangeSpec := { name := "reelTurns", fn := fun _ => fun
  | [d1, d2, d3] => { results := [.lit (.bool true)], args := [d1, d2, d3] }
  | _ => none }
def reelTurnsRow : OpenClaim := { program := "ytbaenpgjggojaaa", sum := "db98f1b22267b5e63295d0b03cb2ee6cf02696a7bbc7c967f9f855b0ff635d01", func := "arrears/arrearslaw15.ReelTurns", spec := "reelTurns", unfollowed := true, recurses := true, apart := false }
def ReelTurnsSaid : Prop := reelTurnsRow.holds Try.pinned (OpenSpec.ofChange reelTurnsSpec)

/-- ITS FALSE NEIGHBOUR: 'it returns false'. Refute it at one input. -/
def reelTurnsWrong : ChangeSpec := { name := "reelTurns", fn := fun _ => fun
  | [d1, d2, d3] => { results := [.lit (.bool false)], args := [d1, d2, d3] }
  | _ => none }
def ReelTurnsWrongFalsely : Prop := reelTurnsRow.holds Try.pinned (OpenSpec.ofChange reelTurnsWrong)

/- THE SECOND FORM. 'bulk': how many values and letters a reading holds, each counted each time it is reached (what is shared counts as often as it is met; a slice's spare places count too). A statement '..UptoSaid' is the law's where the arguments, and the package variables that the reading takes, are together of bulk at most 1048576: NARROWER than '..Said'. Prove '..Said' where nothing that the law and all that it calls make is longer than what came in: it says more and counts as full. Else prove '..UptoSaid'. A law counts once. -/
mutual
def uptoBulk {H : Type} : DataW H → Nat
  | .lit (.string bytes) => bytes.length + 1
  | .lit _ => 1
  | .nil => 1
  | .ptr d => uptoBulk d + 1
  | .slice elems spare => uptoBulkAll elems + uptoBulkAll spare + 1
  | .agg parts => uptoBulkAll parts + 1
  | .iface _ d => uptoBulk d + 1
  | .map entries => uptoBulkEntries entries + 1
  | .held _ => 1
def uptoBulkAll {H : Type} : List (DataW H) → Nat
  | [] => 0
  | d :: r => uptoBulk d + uptoBulkAll r
def uptoBulkEntries {H : Type} : List (Lit × DataW H) → Nat
  | [] => 0
  | x :: r => uptoBulkEntry x + uptoBulkEntries r
def uptoBulkEntry {H : Type} : Lit × DataW H → Nat
  | (.string bytes, d) => bytes.length + uptoBulk d + 1
  | (_, d) => uptoBulk d + 1
 end
def uptoSmall : (H : Type) → List (DataW H) → Bool := fun _ ds => decide (uptoBulkAll ds ≤ 1048576)
def OpenSpec.upto (s : _root_.Go.ChangeSpec) : _root_.Go.OpenSpec := { _root_.Go.OpenSpec.ofChange s with cond := some uptoSmall }

/-- 'arrearslaw15.ReelLays', WHERE WHAT IT READS IS OF BULK AT MOST 1048576: true; the input reads as it did. -/
def reelLaysUptoRow : OpenClaim := { program := "ytbaenpgjggojaaa", sum := "db98f1b22267b5e63295d0b03cb2ee6cf02696a7bbc7c967f9f855b0ff635d01", func := "arrears/arrearslaw15.ReelLays", spec := "reelLays", unfollowed := true, recurses := true, apart := false, narrowed := true }
def ReelLaysUptoSaid : Prop := reelLaysUptoRow.holds Try.pinned (OpenSpec.upto reelLaysSpec)

/-- 'arrearslaw15.ReelGoes', WHERE WHAT IT READS IS OF BULK AT MOST 1048576: true; the input reads as it did. -/
def reelGoesUptoRow : OpenClaim := { program := "ytbaenpgjggojaaa", sum := "db98f1b22267b5e63295d0b03cb2ee6cf02696a7bbc7c967f9f855b0ff635d01", func := "arrears/arrearslaw15.ReelGoes", spec := "reelGoes", unfollowed := true, recurses := true, apart := false, narrowed := true }
def ReelGoesUptoSaid : Prop := reelGoesUptoRow.holds Try.pinned (OpenSpec.upto reelGoesSpec)

/-- 'arrearslaw15.ReelTurns', WHERE WHAT IT READS IS OF BULK AT MOST 1048576: true; the input reads as it did. -/
def reelTurnsUptoRow : OpenClaim := { program := "ytbaenpgjggojaaa", sum := "db98f1b22267b5e63295d0b03cb2ee6cf02696a7bbc7c967f9f855b0ff635d01", func := "arrears/arrearslaw15.ReelTurns", spec := "reelTurns", unfollowed := true, recurses := true, apart := false, narrowed := true }
def ReelTurnsUptoSaid : Prop := reelTurnsUptoRow.holds Try.pinned (OpenSpec.upto reelTurnsSpec)

end Rows
end Go.Proofs.Ytbaenpgjggojaaa
