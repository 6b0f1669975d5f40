/- The document's own circle, over the program. -/
import Derived.Test.YtijdbddjhnjcdaaRows
import Derived.Test.YtijdbddjhnjcdaaStr
import Derived.Test.YtijdbddjhnjcdaaSto
import Derived.Test.YtijdbddjhnjcdaaExJ
import Derived.Test.YtijdbddjhnjcdaaPost
import Derived.Test.YtijdbddjhnjcdaaWideH
import Derived.Test.YtijdbddjhnjcdaaWideD
import Derived.WalkKit
import Derived.WalkSpells
import Derived.WalkLawsBesides
import Derived.Laws.Externs
import Derived.Deep.QuietTactic
import Derived.BigQuiet
import Derived.Lib.Hide
import Derived.Handy
namespace Go.Proofs.Ytijdbddjhnjcdaa
open Go.RowKit Go.Sort
attribute [local go_sem] rOper rAt rUpon cell_set sg_i64 sg_u64 alloc_cell alloc_frozen
attribute [local go_sem 10000] pt_eql pt_neq
attribute [local irreducible] rWalk

theorem lft_r (u v z : Pt) : (u.x * u.x + u.y * u.y) * (v.x * z.y - z.x * v.y) + -((v.x * v.x + v.y * v.y) * (u.x * z.y - z.x * u.y)) + (z.x * z.x + z.y * z.y) * (u.x * v.y - v.x * u.y) = ht u * cr v z + ht v * cr z u + ht z * cr u v := by
  unfold ht cr; grind
theorem peqI_symm {a b c d : Int} : peqI a b c d = peqI c d a b := by
  rw [Bool.eq_iff_iff, peqI_iff, peqI_iff]; omega
theorem peqI_self (a b : Int) : peqI a b a b = true := by rw [peqI_iff]; exact ⟨rfl, rfl⟩
theorem det_ne {a b c : Pt} (h : ¬ ori a b c = 0) : peqI b.x b.y a.x a.y = false ∧ peqI c.x c.y a.x a.y = false ∧ peqI c.x c.y b.x b.y = false := by
  have hd : ¬ det a b c = 0 := fun hd => h (by unfold ori; rw [hd]; simp [sgn])
  refine ⟨?_, ?_, ?_⟩ <;> (rw [← Bool.not_eq_true, peqI_iff]; rintro ⟨h1, h2⟩; apply hd; unfold det; rw [h1, h2])
  · simp
  · simp
  · grind
/-- The contract of the document's own order, under a name. -/
def Calls2 (p q : Pt) : Prop := ∀ w, Calls Try.prog 22 #[.agg #[.int .i64 p.x, .int .i64 p.y], .agg #[.int .i64 q.x, .int .i64 q.y]] w fun e w' => e = .returned (.int .i64 (cmpP p q)) ∧ Below w.heap.size w w'
end Go.Proofs.Ytijdbddjhnjcdaa
