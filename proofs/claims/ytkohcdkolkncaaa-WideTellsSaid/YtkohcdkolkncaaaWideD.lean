/- The contracts of package wide's and of the document's own sums, differences, opposites, signs and order, over the program. -/
import Derived.Test.YtkohcdkolkncaaaRows
import Derived.Test.YtkohcdkolkncaaaWideB
import Derived.Test.YtkohcdkolkncaaaRegion
import Derived.WalkKit
import Derived.WalkSpells
import Derived.WalkLawsBesides
import Derived.Laws.Externs
import Derived.Deep.QuietTactic
import Derived.BigQuiet
import Derived.Lib.Hide
import Derived.Handy
namespace Go.Proofs.Ytkohcdkolkncaaa
open Go.RowKit
attribute [local go_sem] rOper rAt rUpon cell_set sg_i64 sg_u64 alloc_cell alloc_frozen

theorem sgn_mk {n m : Int} (h : m = -1 ∧ n < 0 ∨ m = 0 ∧ n = 0 ∨ m = 1 ∧ 0 < n) : m = sgn n := by
  unfold sgn; split
  · omega
  · split <;> omega
theorem r_sign (h l : Int) (k : Ok h l) (w : World) :
    Calls Try.prog 18 #[.agg #[.int .i64 h, .int .u64 l]] w fun e w' => e = .returned (.int .i64 (sgn (V h l))) ∧ Below w.heap.size w w' := by
  have K := Lib.hid k
  clear k
  go_enter Try.func18, Try.ntmps18
  go_wp2
  all_goals go_ret
  all_goals refine ⟨ret_int (sgn_mk ?_), by go_grown⟩
  all_goals obtain ⟨a1, a2, a3, a4⟩ := K.out
  all_goals unfold V
  · rename_i a; omega
  · rename_i a b c; simp at c; omega
  · rename_i a b c; simp at c; omega
  · omega
theorem r_cmp (h1 l1 h2 l2 : Int) (k : Ok h1 l1) (q : Ok h2 l2) (w : World) :
    Calls Try.prog 20 #[.agg #[.int .i64 h1, .int .u64 l1], .agg #[.int .i64 h2, .int .u64 l2]] w fun e w' => e = .returned (.int .i64 (sgn (V h1 l1 - V h2 l2))) ∧ Below w.heap.size w w' := by
  have K := Lib.hid k
  have Q := Lib.hid q
  clear k q
  go_enter Try.func20, Try.ntmps20
  go_wp2
  all_goals go_ret
  all_goals refine ⟨ret_int (sgn_mk ?_), by go_grown⟩
  all_goals obtain ⟨a1, a2, a3, a4⟩ := K.out
  all_goals obtain ⟨b1, b2, b3, b4⟩ := Q.out
  all_goals unfold V
  all_goals omega
theorem r_from (n : Int) (b0 : -9223372036854775808 ≤ n) (b1 : n ≤ 9223372036854775807) (w : World) :
    Calls Try.prog 24 #[.int .i64 n] w fun e w' => e = .returned (.agg #[.int .i64 (cH n), .int .u64 (cL n)]) ∧ Below w.heap.size w w' := by
  have ef : fits n = true := by rw [fits_iff]; omega
  go_enter Try.func24, Try.ntmps24
  go_wp2
  all_goals go_returns
  all_goals refine ⟨?_, by go_grown⟩
  all_goals unfold cH cL
  all_goals rw [if_pos ef, if_pos ef]
  · rw [IntKind.wrap_u64, show n / 18446744073709551616 = -1 by omega]
  · rw [show n / 18446744073709551616 = 0 by omega, show n % 18446744073709551616 = n by omega]
theorem of_any (h l : Int) (w : World) :
    Calls Try.prog 11 #[.agg #[.int .i64 h, .int .u64 l]] w fun e w' => e = .returned (.agg #[.int .i64 h, .int .u64 l]) ∧ Below w.heap.size w w' := by
  go_enter Try.func11, Try.ntmps11
  go_wp2
  all_goals go_returns
  exact ⟨rfl, by go_grown⟩
end Go.Proofs.Ytkohcdkolkncaaa
