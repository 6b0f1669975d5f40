/-
  No cell of these rows narrows 'for every input' (looked for: loops, veiled, ifaces, maps, wideKeys, modest, calm, conditions, laid).
  DERIVED. THE GIVEN ROWS OF THIS SEAT. 4 by the template 'for every input the law returns true; each argument reads behind the call as it read before'; 0 by the template 'total and deterministic' (their statements: YtogffkimgmlilaaGreatTotals.lean).
  GIVEN WITH THE SEED: the statements are not yours to turn. If you find one false, say at which input.
  Laid BY PROGRAM, IN A SANDBOX (cutbox-rows.mjs): the forced cells as the released guide's own fill.sh prints them over the translation 2f13bf06e33791c2… (all of the seat's roots in one cut). By AI agents, Wed Nov 11 2026. No macro, syntax, notation, axiom, sorry.
-/
import Derived.Test.YtogffkimgmlilaaGreatChecked
import GoSem.Claim
import GoSem.ClaimJoined
import GoSem.ClaimMapViews
import Derived.JoinedTies
import Derived.KernelRfl
namespace Go.Proofs.YtogffkimgmlilaaGreat
/- THE CELL 'sum', in the pinned program and in every row, IS THE sha256 OF THE DUMP (.gsa) THAT YtogffkimgmlilaaGreatProg.lean LOADS. Nothing in Lean hashes anything: it is a label: what it is worth is what the hold of that sum in a sandbox is worth. -/
noncomputable def Tryz.pinned : Pinned := { name := "ytogffkimgmlilaagreat", sum := "2f13bf06e33791c276113081df548137d8c670e395fdbcbaac6b6a99674c55ec", checked := Tryz.checked }
namespace Rows
def none {H : Type} : Left H := { results := [], args := [] }

/-- 'hectarelaw8.FlipTells': WHATEVER THE INPUT: true; the input reads as it did. -/
def flipTellsSpec : ChangeSpec := { name := "flipTells", fn := fun _ => fun
  | [d1, d2, d3, d4] => { results := [.lit (.bool true)], args := [d1, d2, d3, d4] }
  | _ => none }
def flipTellsRow : OpenClaim := { program := "ytogffkimgmlilaagreat", sum := "2f13bf06e33791c276113081df548137d8c670e395fdbcbaac6b6a99674c55ec", func := "hectare/hectarelaw8.FlipTells", spec := "flipTells", inPlace := ["math/bits.Add64"], unfollowed := true, recurses := true, plainKeys := false, apart := false }
def FlipTellsSaid : Prop := flipTellsRow.holds Tryz.pinned (OpenSpec.ofChange flipTellsSpec)

/-- ITS FALSE NEIGHBOUR: 'it returns false'. Refute it at one input. -/
def flipTellsWrong : ChangeSpec := { name := "flipTells", fn := fun _ => fun
  | [d1, d2, d3, d4] => { results := [.lit (.bool false)], args := [d1, d2, d3, d4] }
  | _ => none }
def FlipTellsWrongFalsely : Prop := flipTellsRow.holds Tryz.pinned (OpenSpec.ofChange flipTellsWrong)

/-- 'hectarelaw8.FlipOne': WHATEVER THE INPUT: true; the input reads as it did. -/
def flipOneSpec : ChangeSpec := { name := "flipOne", fn := fun _ => fun
  | [d1, d2, d3, d4, d5] => { results := [.lit (.bool true)], args := [d1, d2, d3, d4, d5] }
  | _ => none }
def flipOneRow : OpenClaim := { program := "ytogffkimgmlilaagreat", sum := "2f13bf06e33791c276113081df548137d8c670e395fdbcbaac6b6a99674c55ec", func := "hectare/hectarelaw8.FlipOne", spec := "flipOne", inPlace := ["math/bits.Add64"], unfollowed := true, recurses := true, plainKeys := false, apart := false }
def FlipOneSaid : Prop := flipOneRow.holds Tryz.pinned (OpenSpec.ofChange flipOneSpec)

/-- ITS FALSE NEIGHBOUR: 'it returns false'. Refute it at one input. -/
def flipOneWrong : ChangeSpec := { name := "flipOne", fn := fun _ => fun
  | [d1, d2, d3, d4, d5] => { results := [.lit (.bool false)], args := [d1, d2, d3, d4, d5] }
  | _ => none }
def FlipOneWrongFalsely : Prop := flipOneRow.holds Tryz.pinned (OpenSpec.ofChange flipOneWrong)

/-- 'hectarelaw8.FlipGood': WHATEVER THE INPUT: true; the input reads as it did. -/
def flipGoodSpec : ChangeSpec := { name := "flipGood", fn := fun _ => fun
  | [d1, d2, d3] => { results := [.lit (.bool true)], args := [d1, d2, d3] }
  | _ => none }
def flipGoodRow : OpenClaim := { program := "ytogffkimgmlilaagreat", sum := "2f13bf06e33791c276113081df548137d8c670e395fdbcbaac6b6a99674c55ec", func := "hectare/hectarelaw8.FlipGood", spec := "flipGood", inPlace := ["math/bits.Add64"], unfollowed := true, recurses := true, plainKeys := false, apart := false }
def FlipGoodSaid : Prop := flipGoodRow.holds Tryz.pinned (OpenSpec.ofChange flipGoodSpec)

/-- ITS FALSE NEIGHBOUR: 'it returns false'. Refute it at one input. -/
def flipGoodWrong : ChangeSpec := { name := "flipGood", fn := fun _ => fun
  | [d1, d2, d3] => { results := [.lit (.bool false)], args := [d1, d2, d3] }
  | _ => none }
def FlipGoodWrongFalsely : Prop := flipGoodRow.holds Tryz.pinned (OpenSpec.ofChange flipGoodWrong)

/-- 'hectarelaw8.FlipCounts': WHATEVER THE INPUT: true; the input reads as it did. -/
def flipCountsSpec : ChangeSpec := { name := "flipCounts", fn := fun _ => fun
  | [d1, d2, d3, d4] => { results := [.lit (.bool true)], args := [d1, d2, d3, d4] }
  | _ => none }
def flipCountsRow : OpenClaim := { program := "ytogffkimgmlilaagreat", sum := "2f13bf06e33791c276113081df548137d8c670e395fdbcbaac6b6a99674c55ec", func := "hectare/hectarelaw8.FlipCounts", spec := "flipCounts", inPlace := ["math/bits.Add64"], unfollowed := true, recurses := true, plainKeys := false, apart := false }
def FlipCountsSaid : Prop := flipCountsRow.holds Tryz.pinned (OpenSpec.ofChange flipCountsSpec)

/-- ITS FALSE NEIGHBOUR: 'it returns false'. Refute it at one input. -/
def flipCountsWrong : ChangeSpec := { name := "flipCounts", fn := fun _ => fun
  | [d1, d2, d3, d4] => { results := [.lit (.bool false)], args := [d1, d2, d3, d4] }
  | _ => none }
def FlipCountsWrongFalsely : Prop := flipCountsRow.holds Tryz.pinned (OpenSpec.ofChange flipCountsWrong)

/- THE SECOND FORM. 'bulk': how many values and letters a reading holds, each counted each time it is reached (what is shared counts as often as it is met; a slice's spare places count too). A statement '..UptoSaid' is the law's where the arguments, and the package variables that the reading takes, are together of bulk at most 1048576: NARROWER than '..Said'. Prove '..Said' where nothing that the law and all that it calls make is longer than what came in: it says more and counts as full. Else prove '..UptoSaid'. A law counts once. -/
mutual
def uptoBulk {H : Type} : DataW H → Nat
  | .lit (.string bytes) => bytes.length + 1
  | .lit _ => 1
  | .nil => 1
  | .ptr d => uptoBulk d + 1
  | .slice elems spare => uptoBulkAll elems + uptoBulkAll spare + 1
  | .agg parts => uptoBulkAll parts + 1
  | .iface _ d => uptoBulk d + 1
  | .map entries => uptoBulkEntries entries + 1
  | .held _ => 1
def uptoBulkAll {H : Type} : List (DataW H) → Nat
  | [] => 0
  | d :: r => uptoBulk d + uptoBulkAll r
def uptoBulkEntries {H : Type} : List (Lit × DataW H) → Nat
  | [] => 0
  | x :: r => uptoBulkEntry x + uptoBulkEntries r
def uptoBulkEntry {H : Type} : Lit × DataW H → Nat
  | (.string bytes, d) => bytes.length + uptoBulk d + 1
  | (_, d) => uptoBulk d + 1
 end
def uptoSmall : (H : Type) → List (DataW H) → Bool := fun _ ds => decide (uptoBulkAll ds ≤ 1048576)
def OpenSpec.upto (s : _root_.Go.ChangeSpec) : _root_.Go.OpenSpec := { _root_.Go.OpenSpec.ofChange s with cond := some uptoSmall }

/-- 'hectarelaw8.FlipTells', WHERE WHAT IT READS IS OF BULK AT MOST 1048576: true; the input reads as it did. -/
def flipTellsUptoRow : OpenClaim := { program := "ytogffkimgmlilaagreat", sum := "2f13bf06e33791c276113081df548137d8c670e395fdbcbaac6b6a99674c55ec", func := "hectare/hectarelaw8.FlipTells", spec := "flipTells", inPlace := ["math/bits.Add64"], unfollowed := true, recurses := true, plainKeys := false, apart := false, narrowed := true }
def FlipTellsUptoSaid : Prop := flipTellsUptoRow.holds Tryz.pinned (OpenSpec.upto flipTellsSpec)

/-- 'hectarelaw8.FlipOne', WHERE WHAT IT READS IS OF BULK AT MOST 1048576: true; the input reads as it did. -/
def flipOneUptoRow : OpenClaim := { program := "ytogffkimgmlilaagreat", sum := "2f13bf06e33791c276113081df548137d8c670e395fdbcbaac6b6a99674c55ec", func := "hectare/hectarelaw8.FlipOne", spec := "flipOne", inPlace := ["math/bits.Add64"], unfollowed := true, recurses := true, plainKeys := false, apart := false, narrowed := true }
def FlipOneUptoSaid : Prop := flipOneUptoRow.holds Tryz.pinned (OpenSpec.upto flipOneSpec)

/-- 'hectarelaw8.FlipGood', WHERE WHAT IT READS IS OF BULK AT MOST 1048576: true; the input reads as it did. -/
def flipGoodUptoRow : OpenClaim := { program := "ytogffkimgmlilaagreat", sum := "2f13bf06e33791c276113081df548137d8c670e395fdbcbaac6b6a99674c55ec", func := "hectare/hectarelaw8.FlipGood", spec := "flipGood", inPlace := ["math/bits.Add64"], unfollowed := true, recurses := true, plainKeys := false, apart := false, narrowed := true }
def FlipGoodUptoSaid : Prop := flipGoodUptoRow.holds Tryz.pinned (OpenSpec.upto flipGoodSpec)

/-- 'hectarelaw8.FlipCounts', WHERE WHAT IT READS IS OF BULK AT MOST 1048576: true; the input reads as it did. -/
def flipCountsUptoRow : OpenClaim := { program := "ytogffkimgmlilaagreat", sum := "2f13bf06e33791c276113081df548137d8c670e395fdbcbaac6b6a99674c55ec", func := "hectare/hectarelaw8.FlipCounts", spec := "flipCounts", inPlace := ["math/bits.Add64"], unfollowed := true, recurses := true, plainKeys := false, apart := false, narrowed := true }
def FlipCountsUptoSaid : Prop := flipCountsUptoRow.holds Tryz.pinned (OpenSpec.upto flipCountsSpec)

end Rows
end Go.Proofs.YtogffkimgmlilaaGreat
