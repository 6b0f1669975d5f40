/- The document's own Make, ValidTri and HasPoint, over the program. -/
import Derived.Test.YtijdbddjhnjcdaaRows
import Derived.Test.YtijdbddjhnjcdaaExU
import Derived.Test.YtijdbddjhnjcdaaPost
import Derived.Test.YtijdbddjhnjcdaaExQ
import Derived.WalkKit
import Derived.WalkSpells
import Derived.WalkLawsBesides
import Derived.Laws.Externs
import Derived.Deep.QuietTactic
import Derived.BigQuiet
import Derived.Lib.Hide
import Derived.Handy
namespace Go.Proofs.Ytijdbddjhnjcdaa
open Go.RowKit Go.Sort
attribute [local go_sem] rOper rAt rUpon cell_set sg_i64 sg_u64 alloc_cell alloc_frozen
attribute [local go_sem 10000] pt_eql pt_neq
attribute [local irreducible] rWalk

/-- Three points in their order. -/
structure Tri3 where
  A : Pt
  B : Pt
  C : Pt
def mkT (x y z : Pt) : Tri3 := if cmpP y x < 0 ∨ cmpP z x < 0 then (if cmpP z y < 0 ∨ cmpP x y < 0 then ⟨z, x, y⟩ else ⟨y, z, x⟩) else ⟨x, y, z⟩
/-- The triangle of three points; of a line none. -/
def mk (a b c : Pt) : Tri3 := if ori a b c = 0 then ⟨⟨0, 0⟩, ⟨0, 0⟩, ⟨0, 0⟩⟩ else if ori a b c = 1 then mkT a b c else mkT a c b
theorem mkT_rot {x y z : Pt} (hx : vld x = true) (hy : vld y = true) (hz : vld z = true) (n1 : key x ≠ key y) (n2 : key x ≠ key z) (n3 : key y ≠ key z) :
    (key x < key y ∧ key x < key z ∧ mkT x y z = ⟨x, y, z⟩) ∨ (key y < key x ∧ key y < key z ∧ mkT x y z = ⟨y, z, x⟩) ∨ (key z < key x ∧ key z < key y ∧ mkT x y z = ⟨z, x, y⟩) := by
  unfold mkT
  simp only [cmp_lt hy hx, cmp_lt hz hx, cmp_lt hz hy, cmp_lt hx hy]
  (repeat' split) <;> simp <;> omega
theorem dlt {p q : Pt} (hp : vld p = true) (hq : vld q = true) (h : key p < key q) : decide (cmpP p q < 0) = true := by simpa using (cmp_lt hp hq).2 h
theorem dge {p q : Pt} (hp : vld p = true) (hq : vld q = true) (h : key q ≤ key p) : decide (cmpP p q < 0) = false := by
  have := cmp_lt hp hq
  simp; omega
/-- Are two triangles one? -/
def teq (s u : Tri3) : Bool := peqI s.A.x s.A.y u.A.x u.A.y && (peqI s.B.x s.B.y u.B.x u.B.y && peqI s.C.x s.C.y u.C.x u.C.y)
theorem tri_eql (s u : Tri3) (w : World) : (binOp .eql 25 (.agg #[.int .i64 s.A.x, .int .i64 s.A.y, .int .i64 s.B.x, .int .i64 s.B.y, .int .i64 s.C.x, .int .i64 s.C.y]) (.agg #[.int .i64 u.A.x, .int .i64 u.A.y, .int .i64 u.B.x, .int .i64 u.B.y, .int .i64 u.C.x, .int .i64 u.C.y])).run Try.prog w = .ok (.bool (teq s u)) w := by
  unfold teq peqI
  by_cases h1 : s.A.x = u.A.x
  case neg => simp [go_sem, h1]
  case pos =>
  by_cases h2 : s.A.y = u.A.y
  case neg => simp [go_sem, h1, h2]
  case pos =>
  by_cases h3 : s.B.x = u.B.x
  case neg => simp [go_sem, h1, h2, h3]
  case pos =>
  by_cases h4 : s.B.y = u.B.y
  case neg => simp [go_sem, h1, h2, h3, h4]
  case pos =>
  by_cases h5 : s.C.x = u.C.x
  case neg => simp [go_sem, h1, h2, h3, h4, h5]
  case pos =>
  by_cases h6 : s.C.y = u.C.y
  · simp [go_sem, h1, h2, h3, h4, h5, h6]
  · simp [go_sem, h1, h2, h3, h4, h5, h6]
end Go.Proofs.Ytijdbddjhnjcdaa
