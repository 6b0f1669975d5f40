/-
  No cell of these rows narrows 'for every input' (looked for: loops, veiled, ifaces, maps, wideKeys, modest, calm, conditions, laid).
  DERIVED. THE GIVEN ROWS OF THIS SEAT. 7 by the template 'for every input the law returns true; each argument reads behind the call as it read before'; 0 by the template 'total and deterministic' (their statements: YtmdehannbbpnaaaTotals.lean).
  GIVEN WITH THE SEED: the statements are not yours to turn. If you find one false, say at which input.
  Laid BY PROGRAM, IN A SANDBOX (cutbox-rows.mjs): the forced cells as the released guide's own fill.sh prints them over the translation 191c1b8cb045e964… (all of the seat's roots in one cut). By AI agents, Wed Nov 11 2026. No macro, syntax, notation, axiom, sorry.
-/
import Derived.Test.YtmdehannbbpnaaaChecked
import GoSem.Claim
import GoSem.ClaimJoined
import GoSem.ClaimMapViews
import Derived.JoinedTies
import Derived.KernelRfl
namespace Go.Proofs.Ytmdehannbbpnaaa
/- THE CELL 'sum', in the pinned program and in every row, IS THE sha256 OF THE DUMP (.gsa) THAT YtmdehannbbpnaaaProg.lean LOADS. Nothing in Lean hashes anything: it is a label: what it is worth is what the hold of that sum in a sandbox is worth. -/
noncomputable def Try.pinned : Pinned := { name := "ytmdehannbbpnaaa", sum := "191c1b8cb045e964d5381e2c94934e4bcea2ec9389c7a21c45238ea02d0b711d", checked := Try.checked }
namespace Rows
def none {H : Type} : Left H := { results := [], args := [] }

/-- 'hectarelaw2.ExactTells': WHATEVER THE INPUT: true; the input reads as it did. -/
def exactTellsSpec : ChangeSpec := { name := "exactTells", fn := fun _ => fun
  | [d1, d2, d3, d4] => { results := [.lit (.bool true)], args := [d1, d2, d3, d4] }
  | _ => none }
def exactTellsRow : OpenClaim := { program := "ytmdehannbbpnaaa", sum := "191c1b8cb045e964d5381e2c94934e4bcea2ec9389c7a21c45238ea02d0b711d", func := "hectare/hectarelaw2.ExactTells", spec := "exactTells", inPlace := ["math/bits.Add64"], unfollowed := true, recurses := true, apart := false }
def ExactTellsSaid : Prop := exactTellsRow.holds Try.pinned (OpenSpec.ofChange exactTellsSpec)

/-- ITS FALSE NEIGHBOUR: 'it returns false'. Refute it at one input. -/
def exactTellsWrong : ChangeSpec := { name := "exactTells", fn := fun _ => fun
  | [d1, d2, d3, d4] => { results := [.lit (.bool false)], args := [d1, d2, d3, d4] }
  | _ => none }
def ExactTellsWrongFalsely : Prop := exactTellsRow.holds Try.pinned (OpenSpec.ofChange exactTellsWrong)

/-- 'hectarelaw2.ExactTurns': WHATEVER THE INPUT: true; the input reads as it did. -/
def exactTurnsSpec : ChangeSpec := { name := "exactTurns", fn := fun _ => fun
  | [d1, d2, d3, d4, d5, d6] => { results := [.lit (.bool true)], args := [d1, d2, d3, d4, d5, d6] }
  | _ => none }
def exactTurnsRow : OpenClaim := { program := "ytmdehannbbpnaaa", sum := "191c1b8cb045e964d5381e2c94934e4bcea2ec9389c7a21c45238ea02d0b711d", func := "hectare/hectarelaw2.ExactTurns", spec := "exactTurns", inPlace := ["math/bits.Add64"], unfollowed := true, recurses := true, apart := false }
def ExactTurnsSaid : Prop := exactTurnsRow.holds Try.pinned (OpenSpec.ofChange exactTurnsSpec)

/-- ITS FALSE NEIGHBOUR: 'it returns false'. Refute it at one input. -/
def exactTurnsWrong : ChangeSpec := { name := "exactTurns", fn := fun _ => fun
  | [d1, d2, d3, d4, d5, d6] => { results := [.lit (.bool false)], args := [d1, d2, d3, d4, d5, d6] }
  | _ => none }
def ExactTurnsWrongFalsely : Prop := exactTurnsRow.holds Try.pinned (OpenSpec.ofChange exactTurnsWrong)

/-- 'hectarelaw2.ExactTies': WHATEVER THE INPUT: true; the input reads as it did. -/
def exactTiesSpec : ChangeSpec := { name := "exactTies", fn := fun _ => fun
  | [d1, d2, d3, d4] => { results := [.lit (.bool true)], args := [d1, d2, d3, d4] }
  | _ => none }
def exactTiesRow : OpenClaim := { program := "ytmdehannbbpnaaa", sum := "191c1b8cb045e964d5381e2c94934e4bcea2ec9389c7a21c45238ea02d0b711d", func := "hectare/hectarelaw2.ExactTies", spec := "exactTies", inPlace := ["math/bits.Add64"], unfollowed := true, recurses := true, apart := false }
def ExactTiesSaid : Prop := exactTiesRow.holds Try.pinned (OpenSpec.ofChange exactTiesSpec)

/-- ITS FALSE NEIGHBOUR: 'it returns false'. Refute it at one input. -/
def exactTiesWrong : ChangeSpec := { name := "exactTies", fn := fun _ => fun
  | [d1, d2, d3, d4] => { results := [.lit (.bool false)], args := [d1, d2, d3, d4] }
  | _ => none }
def ExactTiesWrongFalsely : Prop := exactTiesRow.holds Try.pinned (OpenSpec.ofChange exactTiesWrong)

/-- 'hectarelaw2.ExactMeets': WHATEVER THE INPUT: true; the input reads as it did. -/
def exactMeetsSpec : ChangeSpec := { name := "exactMeets", fn := fun _ => fun
  | [d1, d2, d3, d4] => { results := [.lit (.bool true)], args := [d1, d2, d3, d4] }
  | _ => none }
def exactMeetsRow : OpenClaim := { program := "ytmdehannbbpnaaa", sum := "191c1b8cb045e964d5381e2c94934e4bcea2ec9389c7a21c45238ea02d0b711d", func := "hectare/hectarelaw2.ExactMeets", spec := "exactMeets", inPlace := ["math/bits.Add64"], unfollowed := true, recurses := true, apart := false }
def ExactMeetsSaid : Prop := exactMeetsRow.holds Try.pinned (OpenSpec.ofChange exactMeetsSpec)

/-- ITS FALSE NEIGHBOUR: 'it returns false'. Refute it at one input. -/
def exactMeetsWrong : ChangeSpec := { name := "exactMeets", fn := fun _ => fun
  | [d1, d2, d3, d4] => { results := [.lit (.bool false)], args := [d1, d2, d3, d4] }
  | _ => none }
def ExactMeetsWrongFalsely : Prop := exactMeetsRow.holds Try.pinned (OpenSpec.ofChange exactMeetsWrong)

/-- 'hectarelaw2.ExactLines': WHATEVER THE INPUT: true; the input reads as it did. -/
def exactLinesSpec : ChangeSpec := { name := "exactLines", fn := fun _ => fun
  | [d1, d2, d3, d4] => { results := [.lit (.bool true)], args := [d1, d2, d3, d4] }
  | _ => none }
def exactLinesRow : OpenClaim := { program := "ytmdehannbbpnaaa", sum := "191c1b8cb045e964d5381e2c94934e4bcea2ec9389c7a21c45238ea02d0b711d", func := "hectare/hectarelaw2.ExactLines", spec := "exactLines", inPlace := ["math/bits.Add64"], unfollowed := true, recurses := true, apart := false }
def ExactLinesSaid : Prop := exactLinesRow.holds Try.pinned (OpenSpec.ofChange exactLinesSpec)

/-- ITS FALSE NEIGHBOUR: 'it returns false'. Refute it at one input. -/
def exactLinesWrong : ChangeSpec := { name := "exactLines", fn := fun _ => fun
  | [d1, d2, d3, d4] => { results := [.lit (.bool false)], args := [d1, d2, d3, d4] }
  | _ => none }
def ExactLinesWrongFalsely : Prop := exactLinesRow.holds Try.pinned (OpenSpec.ofChange exactLinesWrong)

/-- 'hectarelaw2.ExactCircles': WHATEVER THE INPUT: true; the input reads as it did. -/
def exactCirclesSpec : ChangeSpec := { name := "exactCircles", fn := fun _ => fun
  | [d1, d2, d3, d4] => { results := [.lit (.bool true)], args := [d1, d2, d3, d4] }
  | _ => none }
def exactCirclesRow : OpenClaim := { program := "ytmdehannbbpnaaa", sum := "191c1b8cb045e964d5381e2c94934e4bcea2ec9389c7a21c45238ea02d0b711d", func := "hectare/hectarelaw2.ExactCircles", spec := "exactCircles", inPlace := ["math/bits.Add64"], unfollowed := true, recurses := true, apart := false }
def ExactCirclesSaid : Prop := exactCirclesRow.holds Try.pinned (OpenSpec.ofChange exactCirclesSpec)

/-- ITS FALSE NEIGHBOUR: 'it returns false'. Refute it at one input. -/
def exactCirclesWrong : ChangeSpec := { name := "exactCircles", fn := fun _ => fun
  | [d1, d2, d3, d4] => { results := [.lit (.bool false)], args := [d1, d2, d3, d4] }
  | _ => none }
def ExactCirclesWrongFalsely : Prop := exactCirclesRow.holds Try.pinned (OpenSpec.ofChange exactCirclesWrong)

/-- 'hectarelaw2.ExactCorners': WHATEVER THE INPUT: true; the input reads as it did. -/
def exactCornersSpec : ChangeSpec := { name := "exactCorners", fn := fun _ => fun
  | [d1, d2, d3, d4] => { results := [.lit (.bool true)], args := [d1, d2, d3, d4] }
  | _ => none }
def exactCornersRow : OpenClaim := { program := "ytmdehannbbpnaaa", sum := "191c1b8cb045e964d5381e2c94934e4bcea2ec9389c7a21c45238ea02d0b711d", func := "hectare/hectarelaw2.ExactCorners", spec := "exactCorners", inPlace := ["math/bits.Add64"], unfollowed := true, recurses := true, apart := false }
def ExactCornersSaid : Prop := exactCornersRow.holds Try.pinned (OpenSpec.ofChange exactCornersSpec)

/-- ITS FALSE NEIGHBOUR: 'it returns false'. Refute it at one input. -/
def exactCornersWrong : ChangeSpec := { name := "exactCorners", fn := fun _ => fun
  | [d1, d2, d3, d4] => { results := [.lit (.bool false)], args := [d1, d2, d3, d4] }
  | _ => none }
def ExactCornersWrongFalsely : Prop := exactCornersRow.holds Try.pinned (OpenSpec.ofChange exactCornersWrong)

/- THE SECOND FORM. 'bulk': how many values and letters a reading holds, each counted each time it is reached (what is shared counts as often as it is met; a slice's spare places count too). A statement '..UptoSaid' is the law's where the arguments, and the package variables that the reading takes, are together of bulk at most 1048576: NARROWER than '..Said'. Prove '..Said' where nothing that the law and all that it calls make is longer than what came in: it says more and counts as full. Else prove '..UptoSaid'. A law counts once. -/
mutual
def uptoBulk {H : Type} : DataW H → Nat
  | .lit (.string bytes) => bytes.length + 1
  | .lit _ => 1
  | .nil => 1
  | .ptr d => uptoBulk d + 1
  | .slice elems spare => uptoBulkAll elems + uptoBulkAll spare + 1
  | .agg parts => uptoBulkAll parts + 1
  | .iface _ d => uptoBulk d + 1
  | .map entries => uptoBulkEntries entries + 1
  | .held _ => 1
def uptoBulkAll {H : Type} : List (DataW H) → Nat
  | [] => 0
  | d :: r => uptoBulk d + uptoBulkAll r
def uptoBulkEntries {H : Type} : List (Lit × DataW H) → Nat
  | [] => 0
  | x :: r => uptoBulkEntry x + uptoBulkEntries r
def uptoBulkEntry {H : Type} : Lit × DataW H → Nat
  | (.string bytes, d) => bytes.length + uptoBulk d + 1
  | (_, d) => uptoBulk d + 1
 end
def uptoSmall : (H : Type) → List (DataW H) → Bool := fun _ ds => decide (uptoBulkAll ds ≤ 1048576)
def OpenSpec.upto (s : _root_.Go.ChangeSpec) : _root_.Go.OpenSpec := { _root_.Go.OpenSpec.ofChange s with cond := some uptoSmall }

/-- 'hectarelaw2.ExactTells', WHERE WHAT IT READS IS OF BULK AT MOST 1048576: true; the input reads as it did. -/
def exactTellsUptoRow : OpenClaim := { program := "ytmdehannbbpnaaa", sum := "191c1b8cb045e964d5381e2c94934e4bcea2ec9389c7a21c45238ea02d0b711d", func := "hectare/hectarelaw2.ExactTells", spec := "exactTells", inPlace := ["math/bits.Add64"], unfollowed := true, recurses := true, apart := false, narrowed := true }
def ExactTellsUptoSaid : Prop := exactTellsUptoRow.holds Try.pinned (OpenSpec.upto exactTellsSpec)

/-- 'hectarelaw2.ExactTurns', WHERE WHAT IT READS IS OF BULK AT MOST 1048576: true; the input reads as it did. -/
def exactTurnsUptoRow : OpenClaim := { program := "ytmdehannbbpnaaa", sum := "191c1b8cb045e964d5381e2c94934e4bcea2ec9389c7a21c45238ea02d0b711d", func := "hectare/hectarelaw2.ExactTurns", spec := "exactTurns", inPlace := ["math/bits.Add64"], unfollowed := true, recurses := true, apart := false, narrowed := true }
def ExactTurnsUptoSaid : Prop := exactTurnsUptoRow.holds Try.pinned (OpenSpec.upto exactTurnsSpec)

/-- 'hectarelaw2.ExactTies', WHERE WHAT IT READS IS OF BULK AT MOST 1048576: true; the input reads as it did. -/
def exactTiesUptoRow : OpenClaim := { program := "ytmdehannbbpnaaa", sum := "191c1b8cb045e964d5381e2c94934e4bcea2ec9389c7a21c45238ea02d0b711d", func := "hectare/hectarelaw2.ExactTies", spec := "exactTies", inPlace := ["math/bits.Add64"], unfollowed := true, recurses := true, apart := false, narrowed := true }
def ExactTiesUptoSaid : Prop := exactTiesUptoRow.holds Try.pinned (OpenSpec.upto exactTiesSpec)

/-- 'hectarelaw2.ExactMeets', WHERE WHAT IT READS IS OF BULK AT MOST 1048576: true; the input reads as it did. -/
def exactMeetsUptoRow : OpenClaim := { program := "ytmdehannbbpnaaa", sum := "191c1b8cb045e964d5381e2c94934e4bcea2ec9389c7a21c45238ea02d0b711d", func := "hectare/hectarelaw2.ExactMeets", spec := "exactMeets", inPlace := ["math/bits.Add64"], unfollowed := true, recurses := true, apart := false, narrowed := true }
def ExactMeetsUptoSaid : Prop := exactMeetsUptoRow.holds Try.pinned (OpenSpec.upto exactMeetsSpec)

/-- 'hectarelaw2.ExactLines', WHERE WHAT IT READS IS OF BULK AT MOST 1048576: true; the input reads as it did. -/
def exactLinesUptoRow : OpenClaim := { program := "ytmdehannbbpnaaa", sum := "191c1b8cb045e964d5381e2c94934e4bcea2ec9389c7a21c45238ea02d0b711d", func := "hectare/hectarelaw2.ExactLines", spec := "exactLines", inPlace := ["math/bits.Add64"], unfollowed := true, recurses := true, apart := false, narrowed := true }
def ExactLinesUptoSaid : Prop := exactLinesUptoRow.holds Try.pinned (OpenSpec.upto exactLinesSpec)

/-- 'hectarelaw2.ExactCircles', WHERE WHAT IT READS IS OF BULK AT MOST 1048576: true; the input reads as it did. -/
def exactCirclesUptoRow : OpenClaim := { program := "ytmdehannbbpnaaa", sum := "191c1b8cb045e964d5381e2c94934e4bcea2ec9389c7a21c45238ea02d0b711d", func := "hectare/hectarelaw2.ExactCircles", spec := "exactCircles", inPlace := ["math/bits.Add64"], unfollowed := true, recurses := true, apart := false, narrowed := true }
def ExactCirclesUptoSaid : Prop := exactCirclesUptoRow.holds Try.pinned (OpenSpec.upto exactCirclesSpec)

/-- 'hectarelaw2.ExactCorners', WHERE WHAT IT READS IS OF BULK AT MOST 1048576: true; the input reads as it did. -/
def exactCornersUptoRow : OpenClaim := { program := "ytmdehannbbpnaaa", sum := "191c1b8cb045e964d5381e2c94934e4bcea2ec9389c7a21c45238ea02d0b711d", func := "hectare/hectarelaw2.ExactCorners", spec := "exactCorners", inPlace := ["math/bits.Add64"], unfollowed := true, recurses := true, apart := false, narrowed := true }
def ExactCornersUptoSaid : Prop := exactCornersUptoRow.holds Try.pinned (OpenSpec.upto exactCornersSpec)

end Rows
end Go.Proofs.Ytmdehannbbpnaaa
