/- The document's own Make, over the program. -/
import Derived.Test.YtijdbddjhnjcdaaRows
import Derived.Test.YtijdbddjhnjcdaaSto
import Derived.Test.YtijdbddjhnjcdaaExN
import Derived.Test.YtijdbddjhnjcdaaPost
import Derived.Test.YtijdbddjhnjcdaaExL
import Derived.WalkKit
import Derived.WalkSpells
import Derived.WalkLawsBesides
import Derived.Laws.Externs
import Derived.Deep.QuietTactic
import Derived.BigQuiet
import Derived.Lib.Hide
import Derived.Handy
import Derived.LoopN
import Derived.RegionTactic
namespace Go.Proofs.Ytijdbddjhnjcdaa
open Go.RowKit Go.Sort
attribute [local go_sem] rOper rAt rUpon cell_set sg_i64 sg_u64 alloc_cell alloc_frozen
attribute [local go_sem 10000] pt_eql pt_neq
attribute [local irreducible] rWalk

theorem Box.drew {w : World} {b : Nat} {cs : List Value} {T : TypeId} (h : Box w b cs T) : Box w.drew b cs T := h
end Go.Proofs.Ytijdbddjhnjcdaa
