/- The contracts of package exact's small functions and of the document's own, over the program. -/
import Derived.Test.YtijdbddjhnjcdaaRows
import Derived.Test.YtijdbddjhnjcdaaExM
import Derived.Test.YtijdbddjhnjcdaaRegion
import Derived.WalkKit
import Derived.WalkSpells
import Derived.WalkLawsBesides
import Derived.Laws.Externs
import Derived.Deep.QuietTactic
import Derived.BigQuiet
import Derived.Lib.Hide
import Derived.Handy
namespace Go.Proofs.Ytijdbddjhnjcdaa
open Go.RowKit
attribute [local go_sem] rOper rAt rUpon cell_set sg_i64 sg_u64 alloc_cell alloc_frozen

theorem inGrid_any (n : Int) (w : World) :
    Calls Try.prog 31 #[.int .i64 n] w fun e w' => e = .returned (.bool (inG n)) ∧ w = w' := by
  go_enter Try.func31, Try.ntmps31
  go_wp2
  all_goals go_ret
  all_goals exact ⟨ret_bool (by simp [inG]; omega), rfl⟩
theorem cmp_int (a b : Int) (w : World) :
    Calls Try.prog 27 #[.int .i64 a, .int .i64 b] w fun e w' => e = .returned (.int .i64 (cmpN a b)) ∧ w = w' := by
  go_enter Try.func27, Try.ntmps27
  go_wp2
  all_goals go_ret
  · exact ⟨ret_int (by unfold cmpN sgn; rw [if_pos (by omega)]), rfl⟩
  · exact ⟨ret_int (by unfold cmpN sgn; rw [if_neg (by omega), if_pos (by omega)]), rfl⟩
  · exact ⟨ret_int (by unfold cmpN sgn; rw [if_neg (by omega), if_neg (by omega)]), rfl⟩
theorem valid_any (p : Pt) (w : World) :
    Calls Try.prog 24 #[.agg #[.int .i64 p.x, .int .i64 p.y]] w fun e w' => e = .returned (.bool (vld p)) ∧ Below w.heap.size w w' := by
  have hv : vld p = (inG p.x && inG p.y) := rfl
  have Hv := Lib.hid hv; clear hv
  go_enter Try.func24, Try.ntmps24
  go_wp2_with (go_at_call 31; refine (inGrid_any _ _).mono ?_; rintro e w' ⟨rfl, rfl⟩)
  all_goals go_returns

  all_goals exact ⟨ret_bool (by rw [Hv.out]; simp [*]), by go_grown⟩
/-- Are two points one? -/
def peqI (a b c d : Int) : Bool := decide (a = c) && decide (b = d)
theorem pt_eql (a b c d : Int) (w : World) : (binOp .eql 23 (.agg #[.int .i64 a, .int .i64 b]) (.agg #[.int .i64 c, .int .i64 d])).run Try.prog w = .ok (.bool (peqI a b c d)) w := by
  unfold peqI
  by_cases h1 : a = c <;> by_cases h2 : b = d <;> simp [go_sem, h1, h2]
theorem pt_neq (a b c d : Int) (w : World) : (binOp .neq 23 (.agg #[.int .i64 a, .int .i64 b]) (.agg #[.int .i64 c, .int .i64 d])).run Try.prog w = .ok (.bool (!peqI a b c d)) w := by
  unfold peqI
  by_cases h1 : a = c <;> by_cases h2 : b = d <;> simp [go_sem, h1, h2]
theorem peqI_iff {a b c d : Int} : peqI a b c d = true ↔ a = c ∧ b = d := by simp [peqI]
end Go.Proofs.Ytijdbddjhnjcdaa
