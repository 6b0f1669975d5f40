/- What the law TriOne leans on: the six orders; the corners' own facts; what is held of a region. -/
import Derived.Test.YtijdbddjhnjcdaaRows
import Derived.Test.YtijdbddjhnjcdaaTrT
import Derived.Test.YtijdbddjhnjcdaaPost
import Derived.WalkKit
import Derived.WalkSpells
import Derived.WalkLawsBesides
import Derived.Laws.Externs
import Derived.Deep.QuietTactic
import Derived.BigQuiet
import Derived.Lib.Hide
import Derived.Handy
namespace Go.Proofs.Ytijdbddjhnjcdaa
open Go.RowKit Go.Sort
attribute [local go_sem] rOper rAt rUpon cell_set sg_i64 sg_u64 alloc_cell alloc_frozen
attribute [local go_sem 10000] pt_eql pt_neq tri_eql
attribute [local irreducible] rWalk

theorem tri_neq (s u : Tri3) (w : World) : (binOp .neq 25 (.agg #[.int .i64 s.A.x, .int .i64 s.A.y, .int .i64 s.B.x, .int .i64 s.B.y, .int .i64 s.C.x, .int .i64 s.C.y]) (.agg #[.int .i64 u.A.x, .int .i64 u.A.y, .int .i64 u.B.x, .int .i64 u.B.y, .int .i64 u.C.x, .int .i64 u.C.y])).run Try.prog w = .ok (.bool (!teq s u)) w := by
  have h := tri_eql s u w
  unfold teq peqI at *
  by_cases h1 : s.A.x = u.A.x
  case neg => simp [go_sem, h1]
  case pos =>
  by_cases h2 : s.A.y = u.A.y
  case neg => simp [go_sem, h1, h2]
  case pos =>
  by_cases h3 : s.B.x = u.B.x
  case neg => simp [go_sem, h1, h2, h3]
  case pos =>
  by_cases h4 : s.B.y = u.B.y
  case neg => simp [go_sem, h1, h2, h3, h4]
  case pos =>
  by_cases h5 : s.C.x = u.C.x
  case neg => simp [go_sem, h1, h2, h3, h4, h5]
  case pos =>
  by_cases h6 : s.C.y = u.C.y
  · simp [go_sem, h1, h2, h3, h4, h5, h6]
  · simp [go_sem, h1, h2, h3, h4, h5, h6]
theorem mk_p1 (a b c : Pt) : mk b a c = mk a b c := by rw [mk_swap b c a, mk_cyc]
theorem mk_p2 (a b c : Pt) : mk c a b = mk a b c := by rw [mk_cyc, mk_cyc]
theorem mk_p3 (a b c : Pt) : mk c b a = mk a b c := by rw [mk_cyc, mk_swap]
theorem ori_p0 (a b c : Pt) : decide (ori a c b = 0) = decide (ori a b c = 0) := by rw [ori_swap2, decide_eq_decide]; omega
theorem ori_p1 (a b c : Pt) : decide (ori b a c = 0) = decide (ori a b c = 0) := by rw [ori_swap, decide_eq_decide]; omega
theorem ori_p2 (a b c : Pt) : decide (ori c a b = 0) = decide (ori a b c = 0) := by rw [ori_cyc, ori_cyc]
theorem ori_p3 (a b c : Pt) : decide (ori c b a = 0) = decide (ori a b c = 0) := by rw [ori_cyc, ori_p0]
theorem corner_facts {M : Tri3} (h : valT M = true) : ori M.A M.B M.C = 1 ∧ ori M.B M.C M.A = 1 ∧ ori M.C M.A M.B = 1 ∧ hasP M M.A = true ∧ hasP M M.B = true ∧ hasP M M.C = true ∧
    insP M M.A = false ∧ insP M M.B = false ∧ insP M M.C = false ∧ decide (0 < twi M) = true := by
  obtain ⟨uA, uB, uC, hD⟩ := tri_signs h
  have hb := ori_bd M.A M.B M.C
  have o1 : ori M.A M.B M.C = 1 := by have := (ori_sg uA uB uC).1; omega
  obtain ⟨k1, k2, k3⟩ := at_corner M.A hD
  obtain ⟨l1, l2, l3⟩ := at_corner M.B hD
  obtain ⟨r1, r2, r3⟩ := at_corner M.C hD
  have q1 := k1.1 rfl
  have q2 := l2.1 rfl
  have q3 := r3.1 rfl
  have s1 := det_sum M.A M.B M.C M.A
  have s2 := det_sum M.A M.B M.C M.B
  have s3 := det_sum M.A M.B M.C M.C
  refine ⟨o1, by rw [ori_cyc]; exact o1, by rw [ori_cyc, ori_cyc]; exact o1, (hasP_iff h uA).2 (by omega), (hasP_iff h uB).2 (by omega), (hasP_iff h uC).2 (by omega), ?_, ?_, ?_, ?_⟩
  · rw [← Bool.not_eq_true, insP_iff h uA]; omega
  · rw [← Bool.not_eq_true, insP_iff h uB]; omega
  · rw [← Bool.not_eq_true, insP_iff h uC]; omega
  · unfold twi; rw [if_pos h]; exact decide_eq_true hD
/-- What is held of a region's worlds: two boxes. -/
theorem held_first {w W : World} {b g : Nat} {cs ds : List Value} {T U : TypeId} (hw : Below w.heap.size w W) (h1 : Box W b cs T) (h2 : Box W g ds U) :
    Below w.heap.size w W.drew ∧ Box W.drew b cs T ∧ Box W.drew g ds U ∧ (∀ i, W.drew.cell? ⟨b, i, none⟩ = cs[i]?) ∧ (∀ i, W.drew.cell? ⟨g, i, none⟩ = ds[i]?) :=
  ⟨hw.drew, h1, h2, Box.facts (w := W.drew) h1 |>.1, Box.facts (w := W.drew) h2 |>.1⟩
theorem held_alloc {w W : World} {b g : Nat} {cs ds : List Value} {T U : TypeId} (o : Obj) (h : Below w.heap.size w W ∧ Box W b cs T ∧ Box W g ds U ∧ (∀ i, W.cell? ⟨b, i, none⟩ = cs[i]?) ∧ (∀ i, W.cell? ⟨g, i, none⟩ = ds[i]?)) :
    Below w.heap.size w (W.alloc o) ∧ Box (W.alloc o) b cs T ∧ Box (W.alloc o) g ds U ∧ (∀ i, (W.alloc o).cell? ⟨b, i, none⟩ = cs[i]?) ∧ (∀ i, (W.alloc o).cell? ⟨g, i, none⟩ = ds[i]?) :=
  ⟨h.1.alloc h.1.size o, h.2.1.old o, h.2.2.1.old o, (h.2.1.old o).facts.1, (h.2.2.1.old o).facts.1⟩
theorem held_below {w W W2 : World} {b g : Nat} {cs ds : List Value} {T U : TypeId} (h : Below w.heap.size w W ∧ Box W b cs T ∧ Box W g ds U ∧ (∀ i, W.cell? ⟨b, i, none⟩ = cs[i]?) ∧ (∀ i, W.cell? ⟨g, i, none⟩ = ds[i]?)) (hb : Below W.heap.size W W2) :
    Below w.heap.size w W2 ∧ Box W2 b cs T ∧ Box W2 g ds U ∧ (∀ i, W2.cell? ⟨b, i, none⟩ = cs[i]?) ∧ (∀ i, W2.cell? ⟨g, i, none⟩ = ds[i]?) :=
  ⟨h.1.trans (hb.mono h.1.size), h.2.1.ext hb rfl, h.2.2.1.ext hb rfl, (h.2.1.ext hb rfl).facts.1, (h.2.2.1.ext hb rfl).facts.1⟩
theorem held_box {w W : World} {b g : Nat} {cs ds : List Value} {T U : TypeId} (h : Below w.heap.size w W ∧ Box W b cs T ∧ Box W g ds U ∧ (∀ i, W.cell? ⟨b, i, none⟩ = cs[i]?) ∧ (∀ i, W.cell? ⟨g, i, none⟩ = ds[i]?)) : Box W g ds U := h.2.2.1
end Go.Proofs.Ytijdbddjhnjcdaa
