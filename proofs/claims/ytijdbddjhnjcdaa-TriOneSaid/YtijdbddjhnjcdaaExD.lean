/- The contract of exact.lifted: on which side of a circle, as a determinant. -/
import Derived.Test.YtijdbddjhnjcdaaRows
import Derived.Test.YtijdbddjhnjcdaaSto
import Derived.Test.YtijdbddjhnjcdaaExC
import Derived.Test.YtijdbddjhnjcdaaPost
import Derived.Test.YtijdbddjhnjcdaaMany
import Derived.Test.YtijdbddjhnjcdaaLate
import Derived.Test.YtijdbddjhnjcdaaSlip
import Derived.Test.YtijdbddjhnjcdaaWideH
import Derived.WalkKit
import Derived.WalkSpells
import Derived.WalkLawsBesides
import Derived.Laws.Externs
import Derived.Deep.QuietTactic
import Derived.BigQuiet
import Derived.Lib.Hide
import Derived.Handy
namespace Go.Proofs.Ytijdbddjhnjcdaa
open Go.RowKit Go.Sort
attribute [local go_sem] rOper rAt rUpon cell_set sg_i64 sg_u64 alloc_cell alloc_frozen
attribute [local go_sem 10000] pt_eql pt_neq
attribute [local irreducible] rWalk

/-- The determinant of three points with their heights, as seen from the fourth. -/
def lft (a b c d : Pt) : Int := ht (way d a) * cr (way d b) (way d c) + ht (way d b) * cr (way d c) (way d a) + ht (way d c) * cr (way d a) (way d b)
theorem big_mul {p q : Int} (hp : 0 ≤ p ∧ p ≤ 562949886312450) (hq : -562949886312450 ≤ q ∧ q ≤ 562949886312450) : -316912574500061154317695502500 ≤ p * q ∧ p * q ≤ 316912574500061154317695502500 := by
  have h1 : p.natAbs ≤ 562949886312450 := by omega
  have h2 : q.natAbs ≤ 562949886312450 := by omega
  have h3 := Nat.mul_le_mul h1 h2
  rw [← Int.natAbs_mul] at h3
  generalize p * q = r at *
  omega
end Go.Proofs.Ytijdbddjhnjcdaa
