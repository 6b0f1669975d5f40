/- The contracts of package wide's and of the document's own sums, differences, opposites, signs and order, over the program. -/
import Derived.Test.YtkohcdkolkncaaaRows
import Derived.Test.YtkohcdkolkncaaaWideB
import Derived.Test.YtkohcdkolkncaaaRegion
import Derived.WalkKit
import Derived.WalkSpells
import Derived.WalkLawsBesides
import Derived.Laws.Externs
import Derived.Deep.QuietTactic
import Derived.BigQuiet
import Derived.Lib.Hide
import Derived.Handy
namespace Go.Proofs.Ytkohcdkolkncaaa
open Go.RowKit
attribute [local go_sem] rOper rAt rUpon cell_set sg_i64 sg_u64 alloc_cell alloc_frozen

theorem r_add (h1 l1 h2 l2 : Int) (k : Ok h1 l1) (q : Ok h2 l2) (w : World) :
    Calls Try.prog 10 #[.agg #[.int .i64 h1, .int .u64 l1], .agg #[.int .i64 h2, .int .u64 l2]] w fun e w' =>
      e = .returned (.tuple #[.agg #[.int .i64 (cH (V h1 l1 + V h2 l2)), .int .u64 (cL (V h1 l1 + V h2 l2))], .bool (fits (V h1 l1 + V h2 l2))]) ∧ Below w.heap.size w w' := by
  have c := r_add0 h1 l1 h2 l2 k q
  obtain ⟨e1, e2⟩ := m_sum k q
  have E1 := Lib.hid e1; have E2 := Lib.hid e2; clear e1 e2
  go_enter Try.func10, Try.ntmps10
  go_wp2_with fail
  refine at_call fun W hW => ?_
  have B0 : Box W w.heap.size [.int .i64 h1, .int .u64 l1] 27 := by rw [hW]; exact ((Box.new rfl).old _).old _
  have B2 : Box W (w.heap.size + 1 + 1) [.int .i64 0, .int .u64 0] 27 := by rw [hW]; exact Box.new (by simp)
  have B1 : Box W (w.heap.size + 1) [.int .i64 h2, .int .u64 l2] 27 := by rw [hW]; exact (Box.new (by simp)).old _
  have hw : Below w.heap.size w W := by rw [hW]; go_grown
  clear hW
  refine (c _).mono ?_
  rintro e w1 ⟨rfl, hb⟩
  obtain ⟨x0, y0, z0, v0⟩ := (B0.ext hb rfl).facts
  obtain ⟨x1, y1, z1, v1⟩ := (B1.ext hb rfl).facts
  obtain ⟨x2, y2, z2, v2⟩ := (B2.ext hb rfl).facts
  replace hw := hw.trans (hb.mono hw.size)
  clear B0 B1 B2 hb
  have hl := hw.size
  go_wp2
  all_goals refine bodyPost_ret (by simp [results, Try.results10, go_sem, x2, z2]; try rfl) rfl ⟨?_, by go_grown⟩
  · rename_i a b
    obtain ⟨e1, e2⟩ := c_not (add_over k q a (by rw [← E2.out]; simp at b; omega))
    rw [e1, e2, add_over k q a (by rw [← E2.out]; simp at b; omega)]
  · rename_i a b
    obtain ⟨e0, e1, e2⟩ := add_in k q (fun _ => by rw [← E2.out]; simp at b; omega)
    rw [e0, e1, e2, E1.out, E2.out]
  · rename_i a
    obtain ⟨e0, e1, e2⟩ := add_in k q (fun b => absurd b a)
    rw [e0, e1, e2, E1.out, E2.out]
end Go.Proofs.Ytkohcdkolkncaaa
