/- The contracts of package wide's and of the document's own sums, differences, opposites, signs and order, over the program. -/
import Derived.Test.YtomdlhdpbdkdhaaRows
import Derived.Test.YtomdlhdpbdkdhaaWideA
import Derived.Test.YtomdlhdpbdkdhaaRegion
import Derived.WalkKit
import Derived.WalkSpells
import Derived.WalkLawsBesides
import Derived.Laws.Externs
import Derived.Deep.QuietTactic
import Derived.BigQuiet
import Derived.Lib.Hide
import Derived.Handy
namespace Go.Proofs.Ytomdlhdpbdkdhaa
open Go.RowKit
attribute [local go_sem] rOper rAt rUpon cell_set sg_i64 sg_u64

/-- The document's own. -/
theorem r_add0 (h1 l1 h2 l2 : Int) (k : Ok h1 l1) (q : Ok h2 l2) (w : World) :
    Calls Try.prog 55 #[.agg #[.int .i64 h1, .int .u64 l1], .agg #[.int .i64 h2, .int .u64 l2]] w fun e w' =>
      e = .returned (.agg #[.int .i64 (mH (V h1 l1 + V h2 l2)), .int .u64 (mL (V h1 l1 + V h2 l2))]) ∧ Below w.heap.size w w' := by
  obtain ⟨e1, e2⟩ := m_sum k q
  obtain ⟨c1, c2⟩ := lo_lt k.l0 k.l1 q.l0 q.l1
  have e3 : lo l1 l2 = IntKind.u64.wrap (l1 + l2) := by rw [IntKind.wrap_u64]; rfl
  rw [e1, e2, e3]
  rw [e3] at c1 c2
  clear e1 e2 e3
  go_enter Try.func55, Try.ntmps55
  go_wp2
  all_goals go_returns
  · rename_i h
    exact ⟨by rw [c1 h], by go_grown⟩
  · rename_i h
    exact ⟨by rw [c2 h, Int.add_zero], by go_grown⟩
theorem r_neg0 (h l : Int) (k : Ok h l) (w : World) :
    Calls Try.prog 56 #[.agg #[.int .i64 h, .int .u64 l]] w fun e w' =>
      e = .returned (.agg #[.int .i64 (mH (-V h l)), .int .u64 (mL (-V h l))]) ∧ Below w.heap.size w w' := by
  have x1 := xor_i64 h k.h0 k.h1
  have x2 := xor_u64 l k.l0 k.l1
  have c := r_add0 (-1 - h) (18446744073709551615 - l) 0 1 ⟨by have := k.h0; have := k.h1; omega, by have := k.h0; have := k.h1; omega, by have := k.l0; have := k.l1; omega, by have := k.l0; have := k.l1; omega⟩ ⟨by omega, by omega, by omega, by omega⟩
  rw [show V (-1 - h) (18446744073709551615 - l) + V 0 1 = -V h l by unfold V; omega] at c
  go_enter Try.func56, Try.ntmps56
  go_wp2_with fail
  refine (c _).mono ?_
  rintro e w1 ⟨rfl, hb⟩
  simp only [World.size_alloc] at hb
  obtain ⟨hc, hf, hz, hy, hv⟩ := bcell hb (by simp only [World.size_alloc])
  go_wp2
  refine bodyPost_ret (by simp [results, Try.results56, go_sem, hc]; try rfl) rfl ⟨rfl, ?_⟩
  exact ((((Below.refl _ _).alloc (Nat.le_refl _) _).alloc (by simp) _).trans (hb.mono (by omega))).setCell (by simp) _ |>.setCell (by simp) _
end Go.Proofs.Ytomdlhdpbdkdhaa
