/- The document's own Meet, over the program. -/
import Derived.Test.YtijdbddjhnjcdaaRows
import Derived.Test.YtijdbddjhnjcdaaStr
import Derived.Test.YtijdbddjhnjcdaaSto
import Derived.Test.YtijdbddjhnjcdaaExL
import Derived.Test.YtijdbddjhnjcdaaPost
import Derived.Test.YtijdbddjhnjcdaaMany
import Derived.WalkKit
import Derived.WalkSpells
import Derived.WalkLawsBesides
import Derived.Laws.Externs
import Derived.Deep.QuietTactic
import Derived.BigQuiet
import Derived.Lib.Hide
import Derived.Handy
namespace Go.Proofs.Ytijdbddjhnjcdaa
open Go.RowKit Go.Sort
attribute [local go_sem] rOper rAt rUpon cell_set sg_i64 sg_u64 alloc_cell alloc_frozen
attribute [local go_sem 10000] pt_eql pt_neq
attribute [local irreducible] rWalk

def mx4 (x y z v : Int) : Int := max (max (max x y) z) v
theorem run_max4 {P : Program} {w : World} (ts : Array TypeId) (t : TypeId) (k k' k'' k3 : IntKind) (x y z v : Int) : (Builtin.max_ ts t #[.int k x, .int k' y, .int k'' z, .int k3 v]).run P w = .ok (.int k (mx4 x y z v)) w := by
  have e : ∀ p q : Int, (if p < q then q else p) = max p q := fun p q => by split <;> omega
  simp [Builtin.max_, Builtin.max2, mx4, go_sem, e]
attribute [local go_sem] run_max4
def lap (a b c d : Pt) : Int := if cmpP (rg (rl a b) (rl c d)) (rl (rg a b) (rg c d)) < 0 then 3 else 0
def meetR (a b c d : Pt) : Int :=
  if vld a = false then 0 else if vld b = false then 0 else if vld c = false then 0 else if vld d = false then 0 else if peqI a.x a.y b.x b.y = true then 0 else if peqI c.x c.y d.x d.y = true then 0
  else if ori a b c = 0 ∧ ori a b d = 0 then lap a b c d
  else if ori a b c * ori a b d < 0 ∧ ori c d a * ori c d b < 0 then 1
  else mx4 (tch a c d) (tch b c d) (tch c a b) (tch d a b)
theorem tch_bd (p a b : Pt) : 0 ≤ tch p a b ∧ tch p a b ≤ 2 := by unfold tch; (repeat' split) <;> omega
end Go.Proofs.Ytijdbddjhnjcdaa
