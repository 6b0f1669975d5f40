/- The contracts of package wide's and of the document's own sums, differences, opposites, signs and order, over the program. -/
import Derived.Test.YtkohcdkolkncaaaRows
import Derived.Test.YtkohcdkolkncaaaWideB
import Derived.Test.YtkohcdkolkncaaaRegion
import Derived.WalkKit
import Derived.WalkSpells
import Derived.WalkLawsBesides
import Derived.Laws.Externs
import Derived.Deep.QuietTactic
import Derived.BigQuiet
import Derived.Lib.Hide
import Derived.Handy
namespace Go.Proofs.Ytkohcdkolkncaaa
open Go.RowKit
attribute [local go_sem] rOper rAt rUpon cell_set sg_i64 sg_u64 alloc_cell alloc_frozen

theorem r_neg (h l : Int) (k : Ok h l) (w : World) :
    Calls Try.prog 15 #[.agg #[.int .i64 h, .int .u64 l]] w fun e w' =>
      e = .returned (.tuple #[.agg #[.int .i64 (cH (-V h l)), .int .u64 (cL (-V h l))], .bool (fits (-V h l))]) ∧ Below w.heap.size w w' := by
  have c := r_least h l
  have d := r_neg0 h l k
  by_cases m : h = -9223372036854775808 ∧ l = 0
  · have e0 : fits (-V h l) = false := by rw [fits_not]; unfold V; omega
    obtain ⟨e1, e2⟩ := c_not e0
    rw [e0, e1, e2]
    rw [decide_eq_true m] at c
    clear d e0 e1 e2 m
    go_enter Try.func15, Try.ntmps15
    go_wp2_with fail
    refine at_call fun W hW => ?_
    have B0 : Box W w.heap.size [.int .i64 h, .int .u64 l] 27 := by rw [hW]; exact (Box.new rfl).old _
    have B1 : Box W (w.heap.size + 1) [.int .i64 0, .int .u64 0] 27 := by rw [hW]; exact Box.new (by simp)
    have hw : Below w.heap.size w W := by rw [hW]; go_grown
    clear hW
    refine (c _).mono ?_
    rintro e w1 ⟨rfl, hb⟩
    replace B0 := B0.ext hb rfl
    replace B1 := B1.ext hb rfl
    replace hw := hw.trans (hb.mono hw.size)
    obtain ⟨x0, y0, z0, v0⟩ := B0.facts
    obtain ⟨x1, y1, z1, v1⟩ := B1.facts
    have hl := hw.size
    clear hb
    clear B0 B1
    go_wp2
    refine bodyPost_ret (by simp [results, Try.results15, go_sem, x1]; try rfl) rfl ⟨rfl, by go_grown⟩
  · have e0 : fits (-V h l) = true := by rw [fits_iff]; obtain ⟨a1, a2, a3, a4⟩ := k; unfold V; unfold V at *; omega
    obtain ⟨e1, e2⟩ := m_c e0
    rw [e0, ← e1, ← e2]
    rw [decide_eq_false m] at c
    clear e0 e1 e2 m
    go_enter Try.func15, Try.ntmps15
    go_wp2_with fail
    refine at_call fun W hW => ?_
    have B0 : Box W w.heap.size [.int .i64 h, .int .u64 l] 27 := by rw [hW]; exact (Box.new rfl).old _
    have B1 : Box W (w.heap.size + 1) [.int .i64 0, .int .u64 0] 27 := by rw [hW]; exact Box.new (by simp)
    have hw : Below w.heap.size w W := by rw [hW]; go_grown
    clear hW
    refine (c _).mono ?_
    rintro e w1 ⟨rfl, hb⟩
    replace B0 := B0.ext hb rfl
    replace B1 := B1.ext hb rfl
    replace hw := hw.trans (hb.mono hw.size)
    obtain ⟨x0, y0, z0, v0⟩ := B0.facts
    obtain ⟨x1, y1, z1, v1⟩ := B1.facts
    have hl := hw.size
    clear hb
    go_wp2_with fail
    refine (d _).mono ?_
    rintro e w2 ⟨rfl, hb⟩
    clear x0 y0 z0 v0 x1 y1 z1 v1
    obtain ⟨x0, y0, z0, v0⟩ := (B0.ext hb rfl).facts
    obtain ⟨x1, y1, z1, v1⟩ := (B1.ext hb rfl).facts
    replace hw := hw.trans (hb.mono hw.size)
    replace hl := hw.size
    clear hb B0 B1
    go_wp2
    refine bodyPost_ret (by simp [results, Try.results15, go_sem, x1]; try rfl) rfl ⟨rfl, by go_grown⟩
end Go.Proofs.Ytkohcdkolkncaaa
