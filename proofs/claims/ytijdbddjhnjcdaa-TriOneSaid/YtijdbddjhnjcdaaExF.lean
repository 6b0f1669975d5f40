/- The contract of exact.Circle. -/
import Derived.Test.YtijdbddjhnjcdaaRows
import Derived.Test.YtijdbddjhnjcdaaExD
import Derived.Test.YtijdbddjhnjcdaaPost
import Derived.Test.YtijdbddjhnjcdaaExE
import Derived.WalkKit
import Derived.WalkSpells
import Derived.WalkLawsBesides
import Derived.Laws.Externs
import Derived.Deep.QuietTactic
import Derived.BigQuiet
import Derived.Lib.Hide
import Derived.Handy
namespace Go.Proofs.Ytijdbddjhnjcdaa
open Go.RowKit Go.Sort
attribute [local go_sem] rOper rAt rUpon cell_set sg_i64 sg_u64 alloc_cell alloc_frozen
attribute [local go_sem 10000] pt_eql pt_neq
attribute [local irreducible] rWalk

/-- The tie: of four on one circle the least tells. -/
def tie (a b c d m : Pt) (o : Int) : Int := if peqI m.x m.y d.x d.y = true then o else if peqI m.x m.y a.x a.y = true then -ori d b c else if peqI m.x m.y b.x b.y = true then -ori a d c else -ori a b d
def circ (a b c d : Pt) : Int :=
  if ori a b c = 0 then 0 else if vld d = false then 0 else if peqI d.x d.y a.x a.y = true then 0 else if peqI d.x d.y b.x b.y = true then 0 else if peqI d.x d.y c.x c.y = true then 0
  else if ¬ sgn (lft a b c d) = 0 then sgn (lft a b c d) else tie a b c d (min4 a b c d) (ori a b c)
theorem sgn_bd (n : Int) : -1 ≤ sgn n ∧ sgn n ≤ 1 := by unfold sgn; split <;> (try split) <;> omega
theorem ori_bd (a b c : Pt) : -1 ≤ ori a b c ∧ ori a b c ≤ 1 := by unfold ori; split; exact sgn_bd _; omega
theorem ori_vld {a b c : Pt} (h : ¬ ori a b c = 0) : vld a = true ∧ vld b = true ∧ vld c = true := by
  unfold ori at h; split at h; assumption; exact absurd rfl h
end Go.Proofs.Ytijdbddjhnjcdaa
