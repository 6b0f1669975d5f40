/- The contracts of package wide's and of the document's own sums, differences, opposites, signs and order, over the program. -/
import Derived.Test.YtmdehannbbpnaaaRows
import Derived.Test.YtmdehannbbpnaaaWideB
import Derived.Test.YtmdehannbbpnaaaRegion
import Derived.WalkKit
import Derived.WalkSpells
import Derived.WalkLawsBesides
import Derived.Laws.Externs
import Derived.Deep.QuietTactic
import Derived.BigQuiet
import Derived.Lib.Hide
import Derived.Handy
namespace Go.Proofs.Ytmdehannbbpnaaa
open Go.RowKit
attribute [local go_sem] rOper rAt rUpon cell_set sg_i64 sg_u64 alloc_cell alloc_frozen

theorem sgn_mk {n m : Int} (h : m = -1 ∧ n < 0 ∨ m = 0 ∧ n = 0 ∨ m = 1 ∧ 0 < n) : m = sgn n := by
  unfold sgn; split
  · omega
  · split <;> omega
theorem r_sign (h l : Int) (k : Ok h l) (w : World) :
    Calls Try.prog 37 #[.agg #[.int .i64 h, .int .u64 l]] w fun e w' => e = .returned (.int .i64 (sgn (V h l))) ∧ Below w.heap.size w w' := by
  have K := Lib.hid k
  clear k
  go_enter Try.func37, Try.ntmps37
  go_wp2
  all_goals go_ret
  all_goals refine ⟨ret_int (sgn_mk ?_), by go_grown⟩
  all_goals obtain ⟨a1, a2, a3, a4⟩ := K.out
  all_goals unfold V
  · rename_i a; omega
  · rename_i a b c; simp at c; omega
  · rename_i a b c; simp at c; omega
  · omega
end Go.Proofs.Ytmdehannbbpnaaa
