/- The contracts of package wide's and of the document's own sums, differences, opposites, signs and order, over the program. -/
import Derived.Test.YtkohcdkolkncaaaRows
import Derived.Test.YtkohcdkolkncaaaWideB
import Derived.Test.YtkohcdkolkncaaaRegion
import Derived.WalkKit
import Derived.WalkSpells
import Derived.WalkLawsBesides
import Derived.Laws.Externs
import Derived.Deep.QuietTactic
import Derived.BigQuiet
import Derived.Lib.Hide
import Derived.Handy
namespace Go.Proofs.Ytkohcdkolkncaaa
open Go.RowKit Go.Sort
attribute [local go_sem] rOper rAt rUpon cell_set sg_i64 sg_u64 alloc_cell alloc_frozen

theorem r_sub (h1 l1 h2 l2 : Int) (k : Ok h1 l1) (q : Ok h2 l2) (w : World) :
    Calls Try.prog 13 #[.agg #[.int .i64 h1, .int .u64 l1], .agg #[.int .i64 h2, .int .u64 l2]] w fun e w' =>
      e = .returned (.tuple #[.agg #[.int .i64 (cH (V h1 l1 - V h2 l2)), .int .u64 (cL (V h1 l1 - V h2 l2))], .bool (fits (V h1 l1 - V h2 l2))]) ∧ Below w.heap.size w w' := by
  have c := r_neg0 h2 l2 q
  have d := r_add0 h1 l1 (mH (-V h2 l2)) (mL (-V h2 l2)) k (ok_m _)
  obtain ⟨mk, hmk⟩ := V_m (-V h2 l2)
  obtain ⟨em1, em2⟩ := m_cong (a := V h1 l1 + V (mH (-V h2 l2)) (mL (-V h2 l2))) (b := V h1 l1 - V h2 l2) mk (by rw [hmk]; omega)
  rw [em1, em2] at d
  have E1 := Lib.hid (sub_m k q)
  clear mk hmk em1 em2
  go_enter Try.func13, Try.ntmps13
  go_wp2_with fail
  refine at_world fun W hW => ?_
  have B0 : Box W w.heap.size [.int .i64 h1, .int .u64 l1] 27 := by rw [hW]; exact ((Box.new rfl).old _).old _
  have B1 : Box W (w.heap.size + 1) [.int .i64 h2, .int .u64 l2] 27 := by rw [hW]; exact (Box.new (by simp)).old _
  have B2 : Box W (w.heap.size + 1 + 1) [.int .i64 0, .int .u64 0] 27 := by rw [hW]; exact Box.new (by simp)
  have hw : Below w.heap.size w W := by rw [hW]; go_grown
  clear hW
  have g0 := B0.cells
  have g1 := B1.cells
  refine wp_region_fresh 5 4 6 rfl rfl rfl rfl (fun ρ W => by simp [execOp, go_sem]; rfl) (by kernel_rfl) (by kernel_rfl) (C := fun w' => ∃ p : Regrown, w' = grow (redrawn W p.d) p.os) (fun w' h => regrown_of_below h) ?_
  simp only [List.take_succ_cons, List.take_zero, List.drop_succ_cons, List.drop_zero, List.eraseIdx_cons_succ, List.eraseIdx_cons_zero]
  repeat (refine rWalk_step (fun K hK => ?_); go_simp; first | (refine hK _ ?_; clear hK K) | (apply Exists.intro; refine ⟨fun _ => ?_, hK _ ?_⟩; (first | exact c _ | exact d _); clear hK K))
  refine rWalk_nil ?_
  intro w1 bz hb h1b h2b h3b
  obtain ⟨x0, y0, z0, v0⟩ := (B0.ext hb rfl).facts
  obtain ⟨x1, y1, z1, v1⟩ := (B1.ext hb rfl).facts
  obtain ⟨x2, y2, z2, v2⟩ := (B2.ext hb rfl).facts
  obtain ⟨x3, y3, z3, v3⟩ := Box.facts (cs := [.int .i64 0, .int .u64 0]) h3b
  have n02 : (w.heap.size = bz) = False := by have := B0.lt; simp; omega
  have n12 : (w.heap.size + 1 = bz) = False := by have := B1.lt; simp; omega
  have n22 : (w.heap.size + 1 + 1 = bz) = False := by have := B2.lt; simp; omega
  have m02 : (bz = w.heap.size) = False := by have := B0.lt; simp; omega
  have m12 : (bz = w.heap.size + 1) = False := by have := B1.lt; simp; omega
  have m22 : (bz = w.heap.size + 1 + 1) = False := by have := B2.lt; simp; omega
  replace hw := hw.trans (hb.mono hw.size)
  have hl := hw.size
  have hbz : w.heap.size ≤ bz := by have := B0.lt; omega
  clear B0 B1 B2 hb g0 g1 h1b h2b h3b
  simp only [Act.put]
  go_wp2
  all_goals refine bodyPost_ret (by simp [results, Try.results13, go_sem, x2, m22]; try rfl) rfl ⟨?_, by go_grown⟩
  · rename_i a
    have e0 := E1.out.2 (fun b => b.1 a)
    obtain ⟨e1, e2⟩ := m_c e0
    rw [e0, e1, e2]
  · rename_i a b
    have e0 := E1.out.1 (by simp at b; exact ⟨a, by omega⟩)
    obtain ⟨e1, e2⟩ := c_not e0
    rw [e0, e1, e2]
  · rename_i a b
    have e0 := E1.out.2 (by simp at b; omega)
    obtain ⟨e1, e2⟩ := m_c e0
    rw [e0, e1, e2]
end Go.Proofs.Ytkohcdkolkncaaa
