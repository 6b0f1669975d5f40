/- The contracts of package wide's and of the document's own sums, differences, opposites, signs and order, over the program. -/
import Derived.Test.YtijdbddjhnjcdaaRows
import Derived.Test.YtijdbddjhnjcdaaWideB
import Derived.Test.YtijdbddjhnjcdaaRegion
import Derived.WalkKit
import Derived.WalkSpells
import Derived.WalkLawsBesides
import Derived.Laws.Externs
import Derived.Deep.QuietTactic
import Derived.BigQuiet
import Derived.Lib.Hide
import Derived.Handy
namespace Go.Proofs.Ytijdbddjhnjcdaa
open Go.RowKit
attribute [local go_sem] rOper rAt rUpon cell_set sg_i64 sg_u64 alloc_cell alloc_frozen

theorem sgn_mk {n m : Int} (h : m = -1 ∧ n < 0 ∨ m = 0 ∧ n = 0 ∨ m = 1 ∧ 0 < n) : m = sgn n := by
  unfold sgn; split
  · omega
  · split <;> omega
end Go.Proofs.Ytijdbddjhnjcdaa
