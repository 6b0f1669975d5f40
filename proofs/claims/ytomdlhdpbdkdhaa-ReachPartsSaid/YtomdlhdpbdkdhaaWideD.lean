/- The contracts of package wide's and of the document's own sums, differences, opposites, signs and order, over the program. -/
import Derived.Test.YtomdlhdpbdkdhaaRows
import Derived.Test.YtomdlhdpbdkdhaaWideB
import Derived.Test.YtomdlhdpbdkdhaaRegion
import Derived.WalkKit
import Derived.WalkSpells
import Derived.WalkLawsBesides
import Derived.Laws.Externs
import Derived.Deep.QuietTactic
import Derived.BigQuiet
import Derived.Lib.Hide
import Derived.Handy
namespace Go.Proofs.Ytomdlhdpbdkdhaa
open Go.RowKit
attribute [local go_sem] rOper rAt rUpon cell_set sg_i64 sg_u64 alloc_cell alloc_frozen

theorem sgn_mk {n m : Int} (h : m = -1 ∧ n < 0 ∨ m = 0 ∧ n = 0 ∨ m = 1 ∧ 0 < n) : m = sgn n := by
  unfold sgn; split
  · omega
  · split <;> omega
theorem r_cmp (h1 l1 h2 l2 : Int) (k : Ok h1 l1) (q : Ok h2 l2) (w : World) :
    Calls Try.prog 42 #[.agg #[.int .i64 h1, .int .u64 l1], .agg #[.int .i64 h2, .int .u64 l2]] w fun e w' => e = .returned (.int .i64 (sgn (V h1 l1 - V h2 l2))) ∧ Below w.heap.size w w' := by
  have K := Lib.hid k
  have Q := Lib.hid q
  clear k q
  go_enter Try.func42, Try.ntmps42
  go_wp2
  all_goals go_ret
  all_goals refine ⟨ret_int (sgn_mk ?_), by go_grown⟩
  all_goals obtain ⟨a1, a2, a3, a4⟩ := K.out
  all_goals obtain ⟨b1, b2, b3, b4⟩ := Q.out
  all_goals unfold V
  all_goals omega
end Go.Proofs.Ytomdlhdpbdkdhaa
