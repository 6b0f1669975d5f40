/-
  No cell of these rows narrows 'for every input' (looked for: loops, veiled, ifaces, maps, wideKeys, modest, calm, conditions, laid).
  DERIVED. THE GIVEN ROWS OF THIS SEAT. 5 by the template 'for every input the law returns true; each argument reads behind the call as it read before'; 0 by the template 'total and deterministic' (their statements: YtbbmcbkmfehidaaTotals.lean).
  GIVEN WITH THE SEED: the statements are not yours to turn. If you find one false, say at which input.
  Laid BY PROGRAM, IN A SANDBOX (cutbox-rows.mjs): the forced cells as the released guide's own fill.sh prints them over the translation 2f55ac8c61edd05a… (all of the seat's roots in one cut). By AI agents, Wed Nov 11 2026. No macro, syntax, notation, axiom, sorry.
-/
import Derived.Test.YtbbmcbkmfehidaaChecked
import GoSem.Claim
import GoSem.ClaimJoined
import GoSem.ClaimMapViews
import Derived.JoinedTies
import Derived.KernelRfl
namespace Go.Proofs.Ytbbmcbkmfehidaa
/- THE CELL 'sum', in the pinned program and in every row, IS THE sha256 OF THE DUMP (.gsa) THAT YtbbmcbkmfehidaaProg.lean LOADS. Nothing in Lean hashes anything: it is a label: what it is worth is what the hold of that sum in a sandbox is worth. -/
noncomputable def Try.pinned : Pinned := { name := "ytbbmcbkmfehidaa", sum := "2f55ac8c61edd05a1bf1f716441c44932a11bb98277d95dbee55380a38a0c354", checked := Try.checked }
namespace Rows
def none {H : Type} : Left H := { results := [], args := [] }

/-- 'hectarelaw3.TriTells': WHATEVER THE INPUT: true; the input reads as it did. -/
def triTellsSpec : ChangeSpec := { name := "triTells", fn := fun _ => fun
  | [d1, d2, d3, d4, d5, d6] => { results := [.lit (.bool true)], args := [d1, d2, d3, d4, d5, d6] }
  | _ => none }
def triTellsRow : OpenClaim := { program := "ytbbmcbkmfehidaa", sum := "2f55ac8c61edd05a1bf1f716441c44932a11bb98277d95dbee55380a38a0c354", func := "hectare/hectarelaw3.TriTells", spec := "triTells", apart := false }
def TriTellsSaid : Prop := triTellsRow.holds Try.pinned (OpenSpec.ofChange triTellsSpec)

/-- ITS FALSE NEIGHBOUR: 'it returns false'. Refute it at one input. -/
def triTellsWrong : ChangeSpec := { name := "triTells", fn := fun _ => fun
  | [d1, d2, d3, d4, d5, d6] => { results := [.lit (.bool false)], args := [d1, d2, d3, d4, d5, d6] }
  | _ => none }
def TriTellsWrongFalsely : Prop := triTellsRow.holds Try.pinned (OpenSpec.ofChange triTellsWrong)

/-- 'hectarelaw3.TriOne': WHATEVER THE INPUT: true; the input reads as it did. -/
def triOneSpec : ChangeSpec := { name := "triOne", fn := fun _ => fun
  | [d1, d2, d3] => { results := [.lit (.bool true)], args := [d1, d2, d3] }
  | _ => none }
def triOneRow : OpenClaim := { program := "ytbbmcbkmfehidaa", sum := "2f55ac8c61edd05a1bf1f716441c44932a11bb98277d95dbee55380a38a0c354", func := "hectare/hectarelaw3.TriOne", spec := "triOne", apart := false }
def TriOneSaid : Prop := triOneRow.holds Try.pinned (OpenSpec.ofChange triOneSpec)

/-- ITS FALSE NEIGHBOUR: 'it returns false'. Refute it at one input. -/
def triOneWrong : ChangeSpec := { name := "triOne", fn := fun _ => fun
  | [d1, d2, d3] => { results := [.lit (.bool false)], args := [d1, d2, d3] }
  | _ => none }
def TriOneWrongFalsely : Prop := triOneRow.holds Try.pinned (OpenSpec.ofChange triOneWrong)

/-- 'hectarelaw3.TriParts': WHATEVER THE INPUT: true; the input reads as it did. -/
def triPartsSpec : ChangeSpec := { name := "triParts", fn := fun _ => fun
  | [d1, d2, d3, d4] => { results := [.lit (.bool true)], args := [d1, d2, d3, d4] }
  | _ => none }
def triPartsRow : OpenClaim := { program := "ytbbmcbkmfehidaa", sum := "2f55ac8c61edd05a1bf1f716441c44932a11bb98277d95dbee55380a38a0c354", func := "hectare/hectarelaw3.TriParts", spec := "triParts", apart := false }
def TriPartsSaid : Prop := triPartsRow.holds Try.pinned (OpenSpec.ofChange triPartsSpec)

/-- ITS FALSE NEIGHBOUR: 'it returns false'. Refute it at one input. -/
def triPartsWrong : ChangeSpec := { name := "triParts", fn := fun _ => fun
  | [d1, d2, d3, d4] => { results := [.lit (.bool false)], args := [d1, d2, d3, d4] }
  | _ => none }
def TriPartsWrongFalsely : Prop := triPartsRow.holds Try.pinned (OpenSpec.ofChange triPartsWrong)

/-- 'hectarelaw3.TriOrder': WHATEVER THE INPUT: true; the input reads as it did. -/
def triOrderSpec : ChangeSpec := { name := "triOrder", fn := fun _ => fun
  | [d1, d2, d3] => { results := [.lit (.bool true)], args := [d1, d2, d3] }
  | _ => none }
def triOrderRow : OpenClaim := { program := "ytbbmcbkmfehidaa", sum := "2f55ac8c61edd05a1bf1f716441c44932a11bb98277d95dbee55380a38a0c354", func := "hectare/hectarelaw3.TriOrder", spec := "triOrder", apart := false }
def TriOrderSaid : Prop := triOrderRow.holds Try.pinned (OpenSpec.ofChange triOrderSpec)

/-- ITS FALSE NEIGHBOUR: 'it returns false'. Refute it at one input. -/
def triOrderWrong : ChangeSpec := { name := "triOrder", fn := fun _ => fun
  | [d1, d2, d3] => { results := [.lit (.bool false)], args := [d1, d2, d3] }
  | _ => none }
def TriOrderWrongFalsely : Prop := triOrderRow.holds Try.pinned (OpenSpec.ofChange triOrderWrong)

/-- 'hectarelaw3.TriInside': WHATEVER THE INPUT: true; the input reads as it did. -/
def triInsideSpec : ChangeSpec := { name := "triInside", fn := fun _ => fun
  | [d1, d2, d3, d4] => { results := [.lit (.bool true)], args := [d1, d2, d3, d4] }
  | _ => none }
def triInsideRow : OpenClaim := { program := "ytbbmcbkmfehidaa", sum := "2f55ac8c61edd05a1bf1f716441c44932a11bb98277d95dbee55380a38a0c354", func := "hectare/hectarelaw3.TriInside", spec := "triInside", apart := false }
def TriInsideSaid : Prop := triInsideRow.holds Try.pinned (OpenSpec.ofChange triInsideSpec)

/-- ITS FALSE NEIGHBOUR: 'it returns false'. Refute it at one input. -/
def triInsideWrong : ChangeSpec := { name := "triInside", fn := fun _ => fun
  | [d1, d2, d3, d4] => { results := [.lit (.bool false)], args := [d1, d2, d3, d4] }
  | _ => none }
def TriInsideWrongFalsely : Prop := triInsideRow.holds Try.pinned (OpenSpec.ofChange triInsideWrong)

/- THE SECOND FORM. 'bulk': how many values and letters a reading holds, each counted each time it is reached (what is shared counts as often as it is met; a slice's spare places count too). A statement '..UptoSaid' is the law's where the arguments, and the package variables that the reading takes, are together of bulk at most 1048576: NARROWER than '..Said'. Prove '..Said' where nothing that the law and all that it calls make is longer than what came in: it says more and counts as full. Else prove '..UptoSaid'. A law counts once. -/
mutual
def uptoBulk {H : Type} : DataW H → Nat
  | .lit (.string bytes) => bytes.length + 1
  | .lit _ => 1
  | .nil => 1
  | .ptr d => uptoBulk d + 1
  | .slice elems spare => uptoBulkAll elems + uptoBulkAll spare + 1
  | .agg parts => uptoBulkAll parts + 1
  | .iface _ d => uptoBulk d + 1
  | .map entries => uptoBulkEntries entries + 1
  | .held _ => 1
def uptoBulkAll {H : Type} : List (DataW H) → Nat
  | [] => 0
  | d :: r => uptoBulk d + uptoBulkAll r
def uptoBulkEntries {H : Type} : List (Lit × DataW H) → Nat
  | [] => 0
  | x :: r => uptoBulkEntry x + uptoBulkEntries r
def uptoBulkEntry {H : Type} : Lit × DataW H → Nat
  | (.string bytes, d) => bytes.length + uptoBulk d + 1
  | (_, d) => uptoBulk d + 1
 end
def uptoSmall : (H : Type) → List (DataW H) → Bool := fun _ ds => decide (uptoBulkAll ds ≤ 1048576)
def OpenSpec.upto (s : _root_.Go.ChangeSpec) : _root_.Go.OpenSpec := { _root_.Go.OpenSpec.ofChange s with cond := some uptoSmall }

/-- 'hectarelaw3.TriTells', WHERE WHAT IT READS IS OF BULK AT MOST 1048576: true; the input reads as it did. -/
def triTellsUptoRow : OpenClaim := { program := "ytbbmcbkmfehidaa", sum := "2f55ac8c61edd05a1bf1f716441c44932a11bb98277d95dbee55380a38a0c354", func := "hectare/hectarelaw3.TriTells", spec := "triTells", apart := false, narrowed := true }
def TriTellsUptoSaid : Prop := triTellsUptoRow.holds Try.pinned (OpenSpec.upto triTellsSpec)

/-- 'hectarelaw3.TriOne', WHERE WHAT IT READS IS OF BULK AT MOST 1048576: true; the input reads as it did. -/
def triOneUptoRow : OpenClaim := { program := "ytbbmcbkmfehidaa", sum := "2f55ac8c61edd05a1bf1f716441c44932a11bb98277d95dbee55380a38a0c354", func := "hectare/hectarelaw3.TriOne", spec := "triOne", apart := false, narrowed := true }
def TriOneUptoSaid : Prop := triOneUptoRow.holds Try.pinned (OpenSpec.upto triOneSpec)

/-- 'hectarelaw3.TriParts', WHERE WHAT IT READS IS OF BULK AT MOST 1048576: true; the input reads as it did. -/
def triPartsUptoRow : OpenClaim := { program := "ytbbmcbkmfehidaa", sum := "2f55ac8c61edd05a1bf1f716441c44932a11bb98277d95dbee55380a38a0c354", func := "hectare/hectarelaw3.TriParts", spec := "triParts", apart := false, narrowed := true }
def TriPartsUptoSaid : Prop := triPartsUptoRow.holds Try.pinned (OpenSpec.upto triPartsSpec)

/-- 'hectarelaw3.TriOrder', WHERE WHAT IT READS IS OF BULK AT MOST 1048576: true; the input reads as it did. -/
def triOrderUptoRow : OpenClaim := { program := "ytbbmcbkmfehidaa", sum := "2f55ac8c61edd05a1bf1f716441c44932a11bb98277d95dbee55380a38a0c354", func := "hectare/hectarelaw3.TriOrder", spec := "triOrder", apart := false, narrowed := true }
def TriOrderUptoSaid : Prop := triOrderUptoRow.holds Try.pinned (OpenSpec.upto triOrderSpec)

/-- 'hectarelaw3.TriInside', WHERE WHAT IT READS IS OF BULK AT MOST 1048576: true; the input reads as it did. -/
def triInsideUptoRow : OpenClaim := { program := "ytbbmcbkmfehidaa", sum := "2f55ac8c61edd05a1bf1f716441c44932a11bb98277d95dbee55380a38a0c354", func := "hectare/hectarelaw3.TriInside", spec := "triInside", apart := false, narrowed := true }
def TriInsideUptoSaid : Prop := triInsideUptoRow.holds Try.pinned (OpenSpec.upto triInsideSpec)

end Rows
end Go.Proofs.Ytbbmcbkmfehidaa
