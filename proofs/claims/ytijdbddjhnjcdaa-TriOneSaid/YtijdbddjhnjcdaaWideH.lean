/- The contracts of package wide's and of the document's own sums, differences, opposites, signs and order, over the program. -/
import Derived.Test.YtijdbddjhnjcdaaRows
import Derived.Test.YtijdbddjhnjcdaaWideG
import Derived.Test.YtijdbddjhnjcdaaRegion
import Derived.WalkKit
import Derived.WalkSpells
import Derived.WalkLawsBesides
import Derived.Laws.Externs
import Derived.Deep.QuietTactic
import Derived.BigQuiet
import Derived.Lib.Hide
import Derived.Handy
import Derived.Laws.MathBits
namespace Go.Proofs.Ytijdbddjhnjcdaa
open Go.RowKit
attribute [local go_sem] rOper rAt rUpon cell_set sg_i64 sg_u64 alloc_cell alloc_frozen

/-- Three sums, one behind the other. -/
theorem mm_two {a b c n : Int} (h : a + b + c = n) : mH (V (mH (a + b)) (mL (a + b)) + c) = mH n ∧ mL (V (mH (a + b)) (mL (a + b)) + c) = mL n := by
  obtain ⟨k, hk⟩ := V_m (a + b)
  exact m_cong k (by omega)
theorem mm_neg {a b c n : Int} (h : a + b + c = n) : mH (-V (mH (V (mH (a + b)) (mL (a + b)) + c)) (mL (V (mH (a + b)) (mL (a + b)) + c))) = mH (-n) ∧ mL (-V (mH (V (mH (a + b)) (mL (a + b)) + c)) (mL (V (mH (a + b)) (mL (a + b)) + c))) = mL (-n) := by
  obtain ⟨k, hk⟩ := V_m (a + b)
  obtain ⟨j, hj⟩ := V_m (V (mH (a + b)) (mL (a + b)) + c)
  exact m_cong (-j - k) (by omega)
end Go.Proofs.Ytijdbddjhnjcdaa
