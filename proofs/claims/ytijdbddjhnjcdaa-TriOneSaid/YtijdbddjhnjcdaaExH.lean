/- The contract of exact.Meet. -/
import Derived.Test.YtijdbddjhnjcdaaRows
import Derived.Test.YtijdbddjhnjcdaaStr
import Derived.Test.YtijdbddjhnjcdaaExD
import Derived.Test.YtijdbddjhnjcdaaPost
import Derived.Test.YtijdbddjhnjcdaaExG
import Derived.WalkKit
import Derived.WalkSpells
import Derived.WalkLawsBesides
import Derived.Laws.Externs
import Derived.Deep.QuietTactic
import Derived.BigQuiet
import Derived.Lib.Hide
import Derived.Handy
namespace Go.Proofs.Ytijdbddjhnjcdaa
open Go.RowKit Go.Sort
attribute [local go_sem] rOper rAt rUpon cell_set sg_i64 sg_u64 alloc_cell alloc_frozen
attribute [local go_sem 10000] pt_eql pt_neq
attribute [local irreducible] rWalk

/-- How two segments meet that do not lie on one line, by the sides of their ends. -/
def fin (sA sB sC sD : Int) : Int := if sA = sB then 0 else if sC = sD then 0 else if sA = 0 then 2 else if sB = 0 then 2 else if sC = 0 then 2 else if sD = 0 then 2 else 1
def meetS (a b c d : Pt) : Int :=
  if vld a = false then 0 else if vld b = false then 0 else if vld c = false then 0 else if vld d = false then 0 else if peqI a.x a.y b.x b.y = true then 0 else if peqI c.x c.y d.x d.y = true then 0
  else if ori a b c = 0 ∧ ori a b d = 0 then mil a b c d
  else if peqI a.x a.y c.x c.y = true then 0 else if peqI a.x a.y d.x d.y = true then 0 else if peqI b.x b.y c.x c.y = true then 0 else if peqI b.x b.y d.x d.y = true then 0
  else fin (ori c d a) (ori c d b) (ori a b c) (ori a b d)
end Go.Proofs.Ytijdbddjhnjcdaa
