/- slices.MinFunc over four points, by Cmp: the least. -/
import Derived.Test.YtijdbddjhnjcdaaRows
import Derived.Test.YtijdbddjhnjcdaaStr
import Derived.Test.YtijdbddjhnjcdaaExC
import Derived.Test.YtijdbddjhnjcdaaPost
import Derived.WalkKit
import Derived.WalkSpells
import Derived.WalkLawsBesides
import Derived.Laws.Externs
import Derived.Deep.QuietTactic
import Derived.BigQuiet
import Derived.Lib.Hide
import Derived.Handy
import Derived.LoopTactic
namespace Go.Proofs.Ytijdbddjhnjcdaa
open Go.RowKit Go.Sort
attribute [local go_sem] rOper rAt rUpon cell_set sg_i64 sg_u64 alloc_cell alloc_frozen
attribute [local go_sem 10000] pt_eql pt_neq
attribute [local irreducible] rWalk

/-- The lesser, the second one if they are equal. -/
def lsr (p m : Pt) : Pt := if cmpP p m < 0 then p else m
def min4 (a b c d : Pt) : Pt := lsr d (lsr c (lsr b a))
def minTo (a b c d : Pt) (k : Nat) : Pt := if k = 1 then a else if k = 2 then lsr b a else if k = 3 then lsr c (lsr b a) else min4 a b c d
end Go.Proofs.Ytijdbddjhnjcdaa
