/-
  No cell of these rows narrows 'for every input' (looked for: loops, veiled, ifaces, maps, wideKeys, modest, calm, conditions, laid).
  DERIVED. THE GIVEN ROWS OF THIS SEAT. 6 by the template 'for every input the law returns true; each argument reads behind the call as it read before'; 0 by the template 'total and deterministic' (their statements: YtomdlhdpbdkdhaaTotals.lean).
  GIVEN WITH THE SEED: the statements are not yours to turn. If you find one false, say at which input.
  Laid BY PROGRAM, IN A SANDBOX (cutbox-rows.mjs): the forced cells as the released guide's own fill.sh prints them over the translation f7d7fbf339eafa46… (all of the seat's roots in one cut). By AI agents, Wed Nov 11 2026. No macro, syntax, notation, axiom, sorry.
-/
import Derived.Test.YtomdlhdpbdkdhaaChecked
import GoSem.Claim
import GoSem.ClaimJoined
import GoSem.ClaimMapViews
import Derived.JoinedTies
import Derived.KernelRfl
namespace Go.Proofs.Ytomdlhdpbdkdhaa
/- THE CELL 'sum', in the pinned program and in every row, IS THE sha256 OF THE DUMP (.gsa) THAT YtomdlhdpbdkdhaaProg.lean LOADS. Nothing in Lean hashes anything: it is a label: what it is worth is what the hold of that sum in a sandbox is worth. -/
noncomputable def Try.pinned : Pinned := { name := "ytomdlhdpbdkdhaa", sum := "f7d7fbf339eafa46e27078cdeeb619ddd41b2752db9248ccbcca5ced3fbb30ec", checked := Try.checked }
namespace Rows
def none {H : Type} : Left H := { results := [], args := [] }

/-- 'hectarelaw4.ReachTells': WHATEVER THE INPUT: true; the input reads as it did. -/
def reachTellsSpec : ChangeSpec := { name := "reachTells", fn := fun _ => fun
  | [d1, d2, d3, d4] => { results := [.lit (.bool true)], args := [d1, d2, d3, d4] }
  | _ => none }
def reachTellsRow : OpenClaim := { program := "ytomdlhdpbdkdhaa", sum := "f7d7fbf339eafa46e27078cdeeb619ddd41b2752db9248ccbcca5ced3fbb30ec", func := "hectare/hectarelaw4.ReachTells", spec := "reachTells", apart := false }
def ReachTellsSaid : Prop := reachTellsRow.holds Try.pinned (OpenSpec.ofChange reachTellsSpec)

/-- ITS FALSE NEIGHBOUR: 'it returns false'. Refute it at one input. -/
def reachTellsWrong : ChangeSpec := { name := "reachTells", fn := fun _ => fun
  | [d1, d2, d3, d4] => { results := [.lit (.bool false)], args := [d1, d2, d3, d4] }
  | _ => none }
def ReachTellsWrongFalsely : Prop := reachTellsRow.holds Try.pinned (OpenSpec.ofChange reachTellsWrong)

/-- 'hectarelaw4.ReachPoints': WHATEVER THE INPUT: true; the input reads as it did. -/
def reachPointsSpec : ChangeSpec := { name := "reachPoints", fn := fun _ => fun
  | [d1, d2, d3, d4, d5] => { results := [.lit (.bool true)], args := [d1, d2, d3, d4, d5] }
  | _ => none }
def reachPointsRow : OpenClaim := { program := "ytomdlhdpbdkdhaa", sum := "f7d7fbf339eafa46e27078cdeeb619ddd41b2752db9248ccbcca5ced3fbb30ec", func := "hectare/hectarelaw4.ReachPoints", spec := "reachPoints", apart := false }
def ReachPointsSaid : Prop := reachPointsRow.holds Try.pinned (OpenSpec.ofChange reachPointsSpec)

/-- ITS FALSE NEIGHBOUR: 'it returns false'. Refute it at one input. -/
def reachPointsWrong : ChangeSpec := { name := "reachPoints", fn := fun _ => fun
  | [d1, d2, d3, d4, d5] => { results := [.lit (.bool false)], args := [d1, d2, d3, d4, d5] }
  | _ => none }
def ReachPointsWrongFalsely : Prop := reachPointsRow.holds Try.pinned (OpenSpec.ofChange reachPointsWrong)

/-- 'hectarelaw4.ReachEdges': WHATEVER THE INPUT: true; the input reads as it did. -/
def reachEdgesSpec : ChangeSpec := { name := "reachEdges", fn := fun _ => fun
  | [d1, d2, d3, d4, d5, d6] => { results := [.lit (.bool true)], args := [d1, d2, d3, d4, d5, d6] }
  | _ => none }
def reachEdgesRow : OpenClaim := { program := "ytomdlhdpbdkdhaa", sum := "f7d7fbf339eafa46e27078cdeeb619ddd41b2752db9248ccbcca5ced3fbb30ec", func := "hectare/hectarelaw4.ReachEdges", spec := "reachEdges", apart := false }
def ReachEdgesSaid : Prop := reachEdgesRow.holds Try.pinned (OpenSpec.ofChange reachEdgesSpec)

/-- ITS FALSE NEIGHBOUR: 'it returns false'. Refute it at one input. -/
def reachEdgesWrong : ChangeSpec := { name := "reachEdges", fn := fun _ => fun
  | [d1, d2, d3, d4, d5, d6] => { results := [.lit (.bool false)], args := [d1, d2, d3, d4, d5, d6] }
  | _ => none }
def ReachEdgesWrongFalsely : Prop := reachEdgesRow.holds Try.pinned (OpenSpec.ofChange reachEdgesWrong)

/-- 'hectarelaw4.ReachParts': WHATEVER THE INPUT: true; the input reads as it did. -/
def reachPartsSpec : ChangeSpec := { name := "reachParts", fn := fun _ => fun
  | [d1, d2, d3, d4, d5, d6, d7] => { results := [.lit (.bool true)], args := [d1, d2, d3, d4, d5, d6, d7] }
  | _ => none }
def reachPartsRow : OpenClaim := { program := "ytomdlhdpbdkdhaa", sum := "f7d7fbf339eafa46e27078cdeeb619ddd41b2752db9248ccbcca5ced3fbb30ec", func := "hectare/hectarelaw4.ReachParts", spec := "reachParts", apart := false }
def ReachPartsSaid : Prop := reachPartsRow.holds Try.pinned (OpenSpec.ofChange reachPartsSpec)

/-- ITS FALSE NEIGHBOUR: 'it returns false'. Refute it at one input. -/
def reachPartsWrong : ChangeSpec := { name := "reachParts", fn := fun _ => fun
  | [d1, d2, d3, d4, d5, d6, d7] => { results := [.lit (.bool false)], args := [d1, d2, d3, d4, d5, d6, d7] }
  | _ => none }
def ReachPartsWrongFalsely : Prop := reachPartsRow.holds Try.pinned (OpenSpec.ofChange reachPartsWrong)

/-- 'hectarelaw4.ReachCuts': WHATEVER THE INPUT: true; the input reads as it did. -/
def reachCutsSpec : ChangeSpec := { name := "reachCuts", fn := fun _ => fun
  | [d1, d2, d3] => { results := [.lit (.bool true)], args := [d1, d2, d3] }
  | _ => none }
def reachCutsRow : OpenClaim := { program := "ytomdlhdpbdkdhaa", sum := "f7d7fbf339eafa46e27078cdeeb619ddd41b2752db9248ccbcca5ced3fbb30ec", func := "hectare/hectarelaw4.ReachCuts", spec := "reachCuts", apart := false }
def ReachCutsSaid : Prop := reachCutsRow.holds Try.pinned (OpenSpec.ofChange reachCutsSpec)

/-- ITS FALSE NEIGHBOUR: 'it returns false'. Refute it at one input. -/
def reachCutsWrong : ChangeSpec := { name := "reachCuts", fn := fun _ => fun
  | [d1, d2, d3] => { results := [.lit (.bool false)], args := [d1, d2, d3] }
  | _ => none }
def ReachCutsWrongFalsely : Prop := reachCutsRow.holds Try.pinned (OpenSpec.ofChange reachCutsWrong)

/-- 'hectarelaw3.TriOne': WHATEVER THE INPUT: true; the input reads as it did. -/
def triOneSpec : ChangeSpec := { name := "triOne", fn := fun _ => fun
  | [d1, d2, d3] => { results := [.lit (.bool true)], args := [d1, d2, d3] }
  | _ => none }
def triOneRow : OpenClaim := { program := "ytomdlhdpbdkdhaa", sum := "f7d7fbf339eafa46e27078cdeeb619ddd41b2752db9248ccbcca5ced3fbb30ec", func := "hectare/hectarelaw3.TriOne", spec := "triOne", apart := false }
def TriOneSaid : Prop := triOneRow.holds Try.pinned (OpenSpec.ofChange triOneSpec)

/-- ITS FALSE NEIGHBOUR: 'it returns false'. Refute it at one input. -/
def triOneWrong : ChangeSpec := { name := "triOne", fn := fun _ => fun
  | [d1, d2, d3] => { results := [.lit (.bool false)], args := [d1, d2, d3] }
  | _ => none }
def TriOneWrongFalsely : Prop := triOneRow.holds Try.pinned (OpenSpec.ofChange triOneWrong)

/- THE SECOND FORM. 'bulk': how many values and letters a reading holds, each counted each time it is reached (what is shared counts as often as it is met; a slice's spare places count too). A statement '..UptoSaid' is the law's where the arguments, and the package variables that the reading takes, are together of bulk at most 1048576: NARROWER than '..Said'. Prove '..Said' where nothing that the law and all that it calls make is longer than what came in: it says more and counts as full. Else prove '..UptoSaid'. A law counts once. -/
mutual
def uptoBulk {H : Type} : DataW H → Nat
  | .lit (.string bytes) => bytes.length + 1
  | .lit _ => 1
  | .nil => 1
  | .ptr d => uptoBulk d + 1
  | .slice elems spare => uptoBulkAll elems + uptoBulkAll spare + 1
  | .agg parts => uptoBulkAll parts + 1
  | .iface _ d => uptoBulk d + 1
  | .map entries => uptoBulkEntries entries + 1
  | .held _ => 1
def uptoBulkAll {H : Type} : List (DataW H) → Nat
  | [] => 0
  | d :: r => uptoBulk d + uptoBulkAll r
def uptoBulkEntries {H : Type} : List (Lit × DataW H) → Nat
  | [] => 0
  | x :: r => uptoBulkEntry x + uptoBulkEntries r
def uptoBulkEntry {H : Type} : Lit × DataW H → Nat
  | (.string bytes, d) => bytes.length + uptoBulk d + 1
  | (_, d) => uptoBulk d + 1
 end
def uptoSmall : (H : Type) → List (DataW H) → Bool := fun _ ds => decide (uptoBulkAll ds ≤ 1048576)
def OpenSpec.upto (s : _root_.Go.ChangeSpec) : _root_.Go.OpenSpec := { _root_.Go.OpenSpec.ofChange s with cond := some uptoSmall }

/-- 'hectarelaw4.ReachTells', WHERE WHAT IT READS IS OF BULK AT MOST 1048576: true; the input reads as it did. -/
def reachTellsUptoRow : OpenClaim := { program := "ytomdlhdpbdkdhaa", sum := "f7d7fbf339eafa46e27078cdeeb619ddd41b2752db9248ccbcca5ced3fbb30ec", func := "hectare/hectarelaw4.ReachTells", spec := "reachTells", apart := false, narrowed := true }
def ReachTellsUptoSaid : Prop := reachTellsUptoRow.holds Try.pinned (OpenSpec.upto reachTellsSpec)

/-- 'hectarelaw4.ReachPoints', WHERE WHAT IT READS IS OF BULK AT MOST 1048576: true; the input reads as it did. -/
def reachPointsUptoRow : OpenClaim := { program := "ytomdlhdpbdkdhaa", sum := "f7d7fbf339eafa46e27078cdeeb619ddd41b2752db9248ccbcca5ced3fbb30ec", func := "hectare/hectarelaw4.ReachPoints", spec := "reachPoints", apart := false, narrowed := true }
def ReachPointsUptoSaid : Prop := reachPointsUptoRow.holds Try.pinned (OpenSpec.upto reachPointsSpec)

/-- 'hectarelaw4.ReachEdges', WHERE WHAT IT READS IS OF BULK AT MOST 1048576: true; the input reads as it did. -/
def reachEdgesUptoRow : OpenClaim := { program := "ytomdlhdpbdkdhaa", sum := "f7d7fbf339eafa46e27078cdeeb619ddd41b2752db9248ccbcca5ced3fbb30ec", func := "hectare/hectarelaw4.ReachEdges", spec := "reachEdges", apart := false, narrowed := true }
def ReachEdgesUptoSaid : Prop := reachEdgesUptoRow.holds Try.pinned (OpenSpec.upto reachEdgesSpec)

/-- 'hectarelaw4.ReachParts', WHERE WHAT IT READS IS OF BULK AT MOST 1048576: true; the input reads as it did. -/
def reachPartsUptoRow : OpenClaim := { program := "ytomdlhdpbdkdhaa", sum := "f7d7fbf339eafa46e27078cdeeb619ddd41b2752db9248ccbcca5ced3fbb30ec", func := "hectare/hectarelaw4.ReachParts", spec := "reachParts", apart := false, narrowed := true }
def ReachPartsUptoSaid : Prop := reachPartsUptoRow.holds Try.pinned (OpenSpec.upto reachPartsSpec)

/-- 'hectarelaw4.ReachCuts', WHERE WHAT IT READS IS OF BULK AT MOST 1048576: true; the input reads as it did. -/
def reachCutsUptoRow : OpenClaim := { program := "ytomdlhdpbdkdhaa", sum := "f7d7fbf339eafa46e27078cdeeb619ddd41b2752db9248ccbcca5ced3fbb30ec", func := "hectare/hectarelaw4.ReachCuts", spec := "reachCuts", apart := false, narrowed := true }
def ReachCutsUptoSaid : Prop := reachCutsUptoRow.holds Try.pinned (OpenSpec.upto reachCutsSpec)

/-- 'hectarelaw3.TriOne', WHERE WHAT IT READS IS OF BULK AT MOST 1048576: true; the input reads as it did. -/
def triOneUptoRow : OpenClaim := { program := "ytomdlhdpbdkdhaa", sum := "f7d7fbf339eafa46e27078cdeeb619ddd41b2752db9248ccbcca5ced3fbb30ec", func := "hectare/hectarelaw3.TriOne", spec := "triOne", apart := false, narrowed := true }
def TriOneUptoSaid : Prop := triOneUptoRow.holds Try.pinned (OpenSpec.upto triOneSpec)

end Rows
end Go.Proofs.Ytomdlhdpbdkdhaa
