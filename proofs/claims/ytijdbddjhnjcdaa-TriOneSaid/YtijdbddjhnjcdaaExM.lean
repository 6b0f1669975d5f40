/- Points of the grid as pairs of whole numbers: which may be, which is less, on which side one lies: the plain mathematics that the walks of package exact and of the document's own answer need. -/
import Derived.Test.YtijdbddjhnjcdaaWideM
namespace Go.Proofs.Ytijdbddjhnjcdaa
open Go.RowKit

structure Pt where
  x : Int
  y : Int
theorem Pt.eq_iff {p q : Pt} : p = q ↔ p.x = q.x ∧ p.y = q.y := by
  cases p; cases q; simp
/-- A word of 64 bits. -/
def W64 (n : Int) : Prop := -9223372036854775808 ≤ n ∧ n ≤ 9223372036854775807
def WP (p : Pt) : Prop := W64 p.x ∧ W64 p.y
def inG (n : Int) : Bool := decide (0 ≤ n ∧ n < 16777216)
def vld (p : Pt) : Bool := inG p.x && inG p.y
def cmpN (a b : Int) : Int := sgn (a - b)
def cmpP (p q : Pt) : Int := if p.x = q.x then cmpN p.y q.y else cmpN p.x q.x
def peq (p q : Pt) : Bool := decide (p.x = q.x) && decide (p.y = q.y)
def det (a b c : Pt) : Int := (b.x - a.x) * (c.y - a.y) - (b.y - a.y) * (c.x - a.x)
def ori (a b c : Pt) : Int := if vld a = true ∧ vld b = true ∧ vld c = true then sgn (det a b c) else 0
theorem inG_iff {n : Int} : inG n = true ↔ 0 ≤ n ∧ n < 16777216 := by simp [inG]
theorem vld_iff {p : Pt} : vld p = true ↔ (0 ≤ p.x ∧ p.x < 16777216) ∧ 0 ≤ p.y ∧ p.y < 16777216 := by simp [vld, inG]
end Go.Proofs.Ytijdbddjhnjcdaa
