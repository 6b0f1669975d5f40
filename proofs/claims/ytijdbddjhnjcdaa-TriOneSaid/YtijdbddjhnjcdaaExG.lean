/- The contracts of exact.On and exact.Meet. -/
import Derived.Test.YtijdbddjhnjcdaaRows
import Derived.Test.YtijdbddjhnjcdaaStr
import Derived.Test.YtijdbddjhnjcdaaSto
import Derived.Test.YtijdbddjhnjcdaaExD
import Derived.Test.YtijdbddjhnjcdaaPost
import Derived.Test.YtijdbddjhnjcdaaExF
import Derived.WalkKit
import Derived.WalkSpells
import Derived.WalkLawsBesides
import Derived.Laws.Externs
import Derived.Deep.QuietTactic
import Derived.BigQuiet
import Derived.Lib.Hide
import Derived.Handy
namespace Go.Proofs.Ytijdbddjhnjcdaa
open Go.RowKit Go.Sort
attribute [local go_sem] rOper rAt rUpon cell_set sg_i64 sg_u64 alloc_cell alloc_frozen
attribute [local go_sem 10000] pt_eql pt_neq
attribute [local irreducible] rWalk

theorem cmpN_bd (a b : Int) : -1 ≤ cmpN a b ∧ cmpN a b ≤ 1 := sgn_bd _
theorem cmpP_bd (p q : Pt) : -1 ≤ cmpP p q ∧ cmpP p q ≤ 1 := by unfold cmpP; split <;> exact sgn_bd _
theorem mul_bd1 {a b : Int} (ha : -1 ≤ a ∧ a ≤ 1) (hb : -1 ≤ b ∧ b ≤ 1) : -1 ≤ a * b ∧ a * b ≤ 1 := by
  have h1 : a = -1 ∨ a = 0 ∨ a = 1 := by omega
  rcases h1 with rfl | rfl | rfl <;> omega
def onS (p a b : Pt) : Bool := vld p && (vld a && (vld b && (decide (ori a b p = 0) && decide (0 ≤ cmpP a p * cmpP p b))))
def lo2 (p q : Pt) : Pt := if cmpP q p < 0 then q else p
def hi2 (p q : Pt) : Pt := if cmpP q p < 0 then p else q
def mil (a b c d : Pt) : Int := if cmpP (lo2 a b) (hi2 c d) < 0 then (if cmpP (lo2 c d) (hi2 a b) < 0 then 3 else 0) else 0
end Go.Proofs.Ytijdbddjhnjcdaa
