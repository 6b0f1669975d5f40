/-
  No cell of these rows narrows 'for every input' (looked for: loops, veiled, ifaces, maps, wideKeys, modest, calm, conditions, laid).
  DERIVED. THE GIVEN ROWS OF THIS SEAT. 6 by the template 'for every input the law returns true; each argument reads behind the call as it read before'; 0 by the template 'total and deterministic' (their statements: YtmpfadapbbjbkaaGreatTotals.lean).
  GIVEN WITH THE SEED: the statements are not yours to turn. If you find one false, say at which input.
  Laid BY PROGRAM, IN A SANDBOX (cutbox-rows.mjs): the forced cells as the released guide's own fill.sh prints them over the translation d771c7b87c66d9b4… (all of the seat's roots in one cut). By AI agents, Wed Nov 11 2026. No macro, syntax, notation, axiom, sorry.
-/
import Derived.Test.YtmpfadapbbjbkaaGreatChecked
import GoSem.Claim
import GoSem.ClaimJoined
import GoSem.ClaimMapViews
import Derived.JoinedTies
import Derived.KernelRfl
namespace Go.Proofs.YtmpfadapbbjbkaaGreat
/- THE CELL 'sum', in the pinned program and in every row, IS THE sha256 OF THE DUMP (.gsa) THAT YtmpfadapbbjbkaaGreatProg.lean LOADS. Nothing in Lean hashes anything: it is a label: what it is worth is what the hold of that sum in a sandbox is worth. -/
noncomputable def Tryz.pinned : Pinned := { name := "ytmpfadapbbjbkaagreat", sum := "d771c7b87c66d9b4b040a73e9f63668103e202c531432e416c049c7b7200ccf6", checked := Tryz.checked }
namespace Rows
def none {H : Type} : Left H := { results := [], args := [] }

/-- 'hectarelaw9.GrowTells': WHATEVER THE INPUT: true; the input reads as it did. -/
def growTellsSpec : ChangeSpec := { name := "growTells", fn := fun _ => fun
  | [d1, d2, d3, d4, d5] => { results := [.lit (.bool true)], args := [d1, d2, d3, d4, d5] }
  | _ => none }
def growTellsRow : OpenClaim := { program := "ytmpfadapbbjbkaagreat", sum := "d771c7b87c66d9b4b040a73e9f63668103e202c531432e416c049c7b7200ccf6", func := "hectare/hectarelaw9.GrowTells", spec := "growTells", inPlace := ["slices.overlaps[hectare/api.Wall]", "math/bits.Add64"], unfollowed := true, recurses := true, plainKeys := false, apart := false }
def GrowTellsSaid : Prop := growTellsRow.holds Tryz.pinned (OpenSpec.ofChange growTellsSpec)

/-- ITS FALSE NEIGHBOUR: 'it returns false'. Refute it at one input. -/
def growTellsWrong : ChangeSpec := { name := "growTells", fn := fun _ => fun
  | [d1, d2, d3, d4, d5] => { results := [.lit (.bool false)], args := [d1, d2, d3, d4, d5] }
  | _ => none }
def GrowTellsWrongFalsely : Prop := growTellsRow.holds Tryz.pinned (OpenSpec.ofChange growTellsWrong)

/-- 'hectarelaw9.GrowOrder': WHATEVER THE INPUT: true; the input reads as it did. -/
def growOrderSpec : ChangeSpec := { name := "growOrder", fn := fun _ => fun
  | [d1, d2, d3, d4, d5] => { results := [.lit (.bool true)], args := [d1, d2, d3, d4, d5] }
  | _ => none }
def growOrderRow : OpenClaim := { program := "ytmpfadapbbjbkaagreat", sum := "d771c7b87c66d9b4b040a73e9f63668103e202c531432e416c049c7b7200ccf6", func := "hectare/hectarelaw9.GrowOrder", spec := "growOrder", inPlace := ["slices.overlaps[hectare/api.Wall]", "math/bits.Add64"], unfollowed := true, recurses := true, plainKeys := false, apart := false }
def GrowOrderSaid : Prop := growOrderRow.holds Tryz.pinned (OpenSpec.ofChange growOrderSpec)

/-- ITS FALSE NEIGHBOUR: 'it returns false'. Refute it at one input. -/
def growOrderWrong : ChangeSpec := { name := "growOrder", fn := fun _ => fun
  | [d1, d2, d3, d4, d5] => { results := [.lit (.bool false)], args := [d1, d2, d3, d4, d5] }
  | _ => none }
def GrowOrderWrongFalsely : Prop := growOrderRow.holds Tryz.pinned (OpenSpec.ofChange growOrderWrong)

/-- 'hectarelaw9.GrowCovers': WHATEVER THE INPUT: true; the input reads as it did. -/
def growCoversSpec : ChangeSpec := { name := "growCovers", fn := fun _ => fun
  | [d1, d2, d3, d4] => { results := [.lit (.bool true)], args := [d1, d2, d3, d4] }
  | _ => none }
def growCoversRow : OpenClaim := { program := "ytmpfadapbbjbkaagreat", sum := "d771c7b87c66d9b4b040a73e9f63668103e202c531432e416c049c7b7200ccf6", func := "hectare/hectarelaw9.GrowCovers", spec := "growCovers", inPlace := ["slices.overlaps[hectare/api.Wall]", "math/bits.Add64"], unfollowed := true, recurses := true, plainKeys := false, apart := false }
def GrowCoversSaid : Prop := growCoversRow.holds Tryz.pinned (OpenSpec.ofChange growCoversSpec)

/-- ITS FALSE NEIGHBOUR: 'it returns false'. Refute it at one input. -/
def growCoversWrong : ChangeSpec := { name := "growCovers", fn := fun _ => fun
  | [d1, d2, d3, d4] => { results := [.lit (.bool false)], args := [d1, d2, d3, d4] }
  | _ => none }
def GrowCoversWrongFalsely : Prop := growCoversRow.holds Tryz.pinned (OpenSpec.ofChange growCoversWrong)

/-- 'hectarelaw9.GrowNear': WHATEVER THE INPUT: true; the input reads as it did. -/
def growNearSpec : ChangeSpec := { name := "growNear", fn := fun _ => fun
  | [d1, d2, d3, d4] => { results := [.lit (.bool true)], args := [d1, d2, d3, d4] }
  | _ => none }
def growNearRow : OpenClaim := { program := "ytmpfadapbbjbkaagreat", sum := "d771c7b87c66d9b4b040a73e9f63668103e202c531432e416c049c7b7200ccf6", func := "hectare/hectarelaw9.GrowNear", spec := "growNear", inPlace := ["slices.overlaps[hectare/api.Wall]", "math/bits.Add64"], unfollowed := true, recurses := true, plainKeys := false, apart := false }
def GrowNearSaid : Prop := growNearRow.holds Tryz.pinned (OpenSpec.ofChange growNearSpec)

/-- ITS FALSE NEIGHBOUR: 'it returns false'. Refute it at one input. -/
def growNearWrong : ChangeSpec := { name := "growNear", fn := fun _ => fun
  | [d1, d2, d3, d4] => { results := [.lit (.bool false)], args := [d1, d2, d3, d4] }
  | _ => none }
def GrowNearWrongFalsely : Prop := growNearRow.holds Tryz.pinned (OpenSpec.ofChange growNearWrong)

/-- 'hectarelaw9.GrowCuts': WHATEVER THE INPUT: true; the input reads as it did. -/
def growCutsSpec : ChangeSpec := { name := "growCuts", fn := fun _ => fun
  | [d1, d2, d3, d4] => { results := [.lit (.bool true)], args := [d1, d2, d3, d4] }
  | _ => none }
def growCutsRow : OpenClaim := { program := "ytmpfadapbbjbkaagreat", sum := "d771c7b87c66d9b4b040a73e9f63668103e202c531432e416c049c7b7200ccf6", func := "hectare/hectarelaw9.GrowCuts", spec := "growCuts", inPlace := ["slices.overlaps[hectare/api.Wall]", "math/bits.Add64"], unfollowed := true, recurses := true, plainKeys := false, apart := false }
def GrowCutsSaid : Prop := growCutsRow.holds Tryz.pinned (OpenSpec.ofChange growCutsSpec)

/-- ITS FALSE NEIGHBOUR: 'it returns false'. Refute it at one input. -/
def growCutsWrong : ChangeSpec := { name := "growCuts", fn := fun _ => fun
  | [d1, d2, d3, d4] => { results := [.lit (.bool false)], args := [d1, d2, d3, d4] }
  | _ => none }
def GrowCutsWrongFalsely : Prop := growCutsRow.holds Tryz.pinned (OpenSpec.ofChange growCutsWrong)

/-- 'hectarelaw9.GrowRim': WHATEVER THE INPUT: true; the input reads as it did. -/
def growRimSpec : ChangeSpec := { name := "growRim", fn := fun _ => fun
  | [d1, d2, d3, d4] => { results := [.lit (.bool true)], args := [d1, d2, d3, d4] }
  | _ => none }
def growRimRow : OpenClaim := { program := "ytmpfadapbbjbkaagreat", sum := "d771c7b87c66d9b4b040a73e9f63668103e202c531432e416c049c7b7200ccf6", func := "hectare/hectarelaw9.GrowRim", spec := "growRim", inPlace := ["slices.overlaps[hectare/api.Wall]", "math/bits.Add64"], unfollowed := true, recurses := true, plainKeys := false, apart := false }
def GrowRimSaid : Prop := growRimRow.holds Tryz.pinned (OpenSpec.ofChange growRimSpec)

/-- ITS FALSE NEIGHBOUR: 'it returns false'. Refute it at one input. -/
def growRimWrong : ChangeSpec := { name := "growRim", fn := fun _ => fun
  | [d1, d2, d3, d4] => { results := [.lit (.bool false)], args := [d1, d2, d3, d4] }
  | _ => none }
def GrowRimWrongFalsely : Prop := growRimRow.holds Tryz.pinned (OpenSpec.ofChange growRimWrong)

/- THE SECOND FORM. 'bulk': how many values and letters a reading holds, each counted each time it is reached (what is shared counts as often as it is met; a slice's spare places count too). A statement '..UptoSaid' is the law's where the arguments, and the package variables that the reading takes, are together of bulk at most 1048576: NARROWER than '..Said'. Prove '..Said' where nothing that the law and all that it calls make is longer than what came in: it says more and counts as full. Else prove '..UptoSaid'. A law counts once. -/
mutual
def uptoBulk {H : Type} : DataW H → Nat
  | .lit (.string bytes) => bytes.length + 1
  | .lit _ => 1
  | .nil => 1
  | .ptr d => uptoBulk d + 1
  | .slice elems spare => uptoBulkAll elems + uptoBulkAll spare + 1
  | .agg parts => uptoBulkAll parts + 1
  | .iface _ d => uptoBulk d + 1
  | .map entries => uptoBulkEntries entries + 1
  | .held _ => 1
def uptoBulkAll {H : Type} : List (DataW H) → Nat
  | [] => 0
  | d :: r => uptoBulk d + uptoBulkAll r
def uptoBulkEntries {H : Type} : List (Lit × DataW H) → Nat
  | [] => 0
  | x :: r => uptoBulkEntry x + uptoBulkEntries r
def uptoBulkEntry {H : Type} : Lit × DataW H → Nat
  | (.string bytes, d) => bytes.length + uptoBulk d + 1
  | (_, d) => uptoBulk d + 1
 end
def uptoSmall : (H : Type) → List (DataW H) → Bool := fun _ ds => decide (uptoBulkAll ds ≤ 1048576)
def OpenSpec.upto (s : _root_.Go.ChangeSpec) : _root_.Go.OpenSpec := { _root_.Go.OpenSpec.ofChange s with cond := some uptoSmall }

/-- 'hectarelaw9.GrowTells', WHERE WHAT IT READS IS OF BULK AT MOST 1048576: true; the input reads as it did. -/
def growTellsUptoRow : OpenClaim := { program := "ytmpfadapbbjbkaagreat", sum := "d771c7b87c66d9b4b040a73e9f63668103e202c531432e416c049c7b7200ccf6", func := "hectare/hectarelaw9.GrowTells", spec := "growTells", inPlace := ["slices.overlaps[hectare/api.Wall]", "math/bits.Add64"], unfollowed := true, recurses := true, plainKeys := false, apart := false, narrowed := true }
def GrowTellsUptoSaid : Prop := growTellsUptoRow.holds Tryz.pinned (OpenSpec.upto growTellsSpec)

/-- 'hectarelaw9.GrowOrder', WHERE WHAT IT READS IS OF BULK AT MOST 1048576: true; the input reads as it did. -/
def growOrderUptoRow : OpenClaim := { program := "ytmpfadapbbjbkaagreat", sum := "d771c7b87c66d9b4b040a73e9f63668103e202c531432e416c049c7b7200ccf6", func := "hectare/hectarelaw9.GrowOrder", spec := "growOrder", inPlace := ["slices.overlaps[hectare/api.Wall]", "math/bits.Add64"], unfollowed := true, recurses := true, plainKeys := false, apart := false, narrowed := true }
def GrowOrderUptoSaid : Prop := growOrderUptoRow.holds Tryz.pinned (OpenSpec.upto growOrderSpec)

/-- 'hectarelaw9.GrowCovers', WHERE WHAT IT READS IS OF BULK AT MOST 1048576: true; the input reads as it did. -/
def growCoversUptoRow : OpenClaim := { program := "ytmpfadapbbjbkaagreat", sum := "d771c7b87c66d9b4b040a73e9f63668103e202c531432e416c049c7b7200ccf6", func := "hectare/hectarelaw9.GrowCovers", spec := "growCovers", inPlace := ["slices.overlaps[hectare/api.Wall]", "math/bits.Add64"], unfollowed := true, recurses := true, plainKeys := false, apart := false, narrowed := true }
def GrowCoversUptoSaid : Prop := growCoversUptoRow.holds Tryz.pinned (OpenSpec.upto growCoversSpec)

/-- 'hectarelaw9.GrowNear', WHERE WHAT IT READS IS OF BULK AT MOST 1048576: true; the input reads as it did. -/
def growNearUptoRow : OpenClaim := { program := "ytmpfadapbbjbkaagreat", sum := "d771c7b87c66d9b4b040a73e9f63668103e202c531432e416c049c7b7200ccf6", func := "hectare/hectarelaw9.GrowNear", spec := "growNear", inPlace := ["slices.overlaps[hectare/api.Wall]", "math/bits.Add64"], unfollowed := true, recurses := true, plainKeys := false, apart := false, narrowed := true }
def GrowNearUptoSaid : Prop := growNearUptoRow.holds Tryz.pinned (OpenSpec.upto growNearSpec)

/-- 'hectarelaw9.GrowCuts', WHERE WHAT IT READS IS OF BULK AT MOST 1048576: true; the input reads as it did. -/
def growCutsUptoRow : OpenClaim := { program := "ytmpfadapbbjbkaagreat", sum := "d771c7b87c66d9b4b040a73e9f63668103e202c531432e416c049c7b7200ccf6", func := "hectare/hectarelaw9.GrowCuts", spec := "growCuts", inPlace := ["slices.overlaps[hectare/api.Wall]", "math/bits.Add64"], unfollowed := true, recurses := true, plainKeys := false, apart := false, narrowed := true }
def GrowCutsUptoSaid : Prop := growCutsUptoRow.holds Tryz.pinned (OpenSpec.upto growCutsSpec)

/-- 'hectarelaw9.GrowRim', WHERE WHAT IT READS IS OF BULK AT MOST 1048576: true; the input reads as it did. -/
def growRimUptoRow : OpenClaim := { program := "ytmpfadapbbjbkaagreat", sum := "d771c7b87c66d9b4b040a73e9f63668103e202c531432e416c049c7b7200ccf6", func := "hectare/hectarelaw9.GrowRim", spec := "growRim", inPlace := ["slices.overlaps[hectare/api.Wall]", "math/bits.Add64"], unfollowed := true, recurses := true, plainKeys := false, apart := false, narrowed := true }
def GrowRimUptoSaid : Prop := growRimUptoRow.holds Tryz.pinned (OpenSpec.upto growRimSpec)

end Rows
end Go.Proofs.YtmpfadapbbjbkaaGreat
