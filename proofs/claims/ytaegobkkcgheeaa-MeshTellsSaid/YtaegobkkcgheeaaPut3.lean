/- Put together: WideA, WideB, WideD, WideG, WideH, ExD, ExE, ExF. -/
import Derived.Test.YtaegobkkcgheeaaRows
import Derived.Test.YtaegobkkcgheeaaPut0
import Derived.WalkKit
import Derived.WalkSpells
import Derived.WalkLawsBesides
import Derived.Laws.Externs
import Derived.Deep.QuietTactic
import Derived.BigQuiet
import Derived.Lib.Hide
import Derived.Handy
import Derived.Laws.MathBits
import Derived.Test.YtaegobkkcgheeaaPut1
import Derived.Test.YtaegobkkcgheeaaPut2
import Derived.LoopTactic
namespace Go.Proofs.Ytaegobkkcgheeaa
open Go.RowKit
attribute [local go_sem] rOper rAt rUpon cell_set

def sub64Entry : Array Value → Sem Value := fun args => do
  let (x, y, b) ← Extern.MathBitsCarry.three "Sub64" args
  pure (Extern.MathBitsCarry.pair ((x + Extern.MathBitsCarry.m64 - y - b) % Extern.MathBitsCarry.m64) (if x < y + b then 1 else 0))
theorem sub64_run {P : Program} (x y k : Nat) (hk : k = 0 ∨ k = 1) (w : World) :
    (sub64Entry #[.int .u64 x, .int .u64 y, .int .u64 k]).run P w = .ok (Extern.MathBitsCarry.pair ((x + Extern.MathBitsCarry.m64 - y - k) % Extern.MathBitsCarry.m64) (if x < y + k then 1 else 0)) w := by
  rcases hk with rfl | rfl <;> rfl
end Go.Proofs.Ytaegobkkcgheeaa

namespace Go.Proofs.Ytaegobkkcgheeaa
open Go.RowKit
attribute [local go_sem] rOper rAt rUpon cell_set sg_i64 sg_u64

end Go.Proofs.Ytaegobkkcgheeaa

namespace Go.Proofs.Ytaegobkkcgheeaa
open Go.RowKit
attribute [local go_sem] rOper rAt rUpon cell_set sg_i64 sg_u64 alloc_cell alloc_frozen

theorem sgn_mk {n m : Int} (h : m = -1 ∧ n < 0 ∨ m = 0 ∧ n = 0 ∨ m = 1 ∧ 0 < n) : m = sgn n := by
  unfold sgn; split
  · omega
  · split <;> omega
end Go.Proofs.Ytaegobkkcgheeaa

namespace Go.Proofs.Ytaegobkkcgheeaa
open Go.RowKit
attribute [local go_sem] rOper rAt rUpon cell_set sg_i64 sg_u64 alloc_cell alloc_frozen

theorem ret_two {k k' : IntKind} {a b c d : Int} (h : a = c) (h2 : b = d) : Ending.returned (.tuple #[.int k a, .int k' b]) = .returned (.tuple #[.int k c, .int k' d]) := by rw [h, h2]
end Go.Proofs.Ytaegobkkcgheeaa

namespace Go.Proofs.Ytaegobkkcgheeaa
open Go.RowKit
attribute [local go_sem] rOper rAt rUpon cell_set sg_i64 sg_u64 alloc_cell alloc_frozen

/-- Three sums, one behind the other. -/
theorem mm_two {a b c n : Int} (h : a + b + c = n) : mH (V (mH (a + b)) (mL (a + b)) + c) = mH n ∧ mL (V (mH (a + b)) (mL (a + b)) + c) = mL n := by
  obtain ⟨k, hk⟩ := V_m (a + b)
  exact m_cong k (by omega)
theorem mm_neg {a b c n : Int} (h : a + b + c = n) : mH (-V (mH (V (mH (a + b)) (mL (a + b)) + c)) (mL (V (mH (a + b)) (mL (a + b)) + c))) = mH (-n) ∧ mL (-V (mH (V (mH (a + b)) (mL (a + b)) + c)) (mL (V (mH (a + b)) (mL (a + b)) + c))) = mL (-n) := by
  obtain ⟨k, hk⟩ := V_m (a + b)
  obtain ⟨j, hj⟩ := V_m (V (mH (a + b)) (mL (a + b)) + c)
  exact m_cong (-j - k) (by omega)
end Go.Proofs.Ytaegobkkcgheeaa

namespace Go.Proofs.Ytaegobkkcgheeaa
open Go.RowKit Go.Sort
attribute [local go_sem] rOper rAt rUpon cell_set sg_i64 sg_u64 alloc_cell alloc_frozen
attribute [local go_sem 10000] pt_eql pt_neq
attribute [local irreducible] rWalk

/-- The determinant of three points with their heights, as seen from the fourth. -/
def lft (a b c d : Pt) : Int := ht (way d a) * cr (way d b) (way d c) + ht (way d b) * cr (way d c) (way d a) + ht (way d c) * cr (way d a) (way d b)
theorem big_mul {p q : Int} (hp : 0 ≤ p ∧ p ≤ 562949886312450) (hq : -562949886312450 ≤ q ∧ q ≤ 562949886312450) : -316912574500061154317695502500 ≤ p * q ∧ p * q ≤ 316912574500061154317695502500 := by
  have h1 : p.natAbs ≤ 562949886312450 := by omega
  have h2 : q.natAbs ≤ 562949886312450 := by omega
  have h3 := Nat.mul_le_mul h1 h2
  rw [← Int.natAbs_mul] at h3
  generalize p * q = r at *
  omega
end Go.Proofs.Ytaegobkkcgheeaa

namespace Go.Proofs.Ytaegobkkcgheeaa
open Go.RowKit Go.Sort
attribute [local go_sem] rOper rAt rUpon cell_set sg_i64 sg_u64 alloc_cell alloc_frozen
attribute [local go_sem 10000] pt_eql pt_neq
attribute [local irreducible] rWalk

/-- The lesser, the second one if they are equal. -/
def lsr (p m : Pt) : Pt := if cmpP p m < 0 then p else m
def min4 (a b c d : Pt) : Pt := lsr d (lsr c (lsr b a))
def minTo (a b c d : Pt) (k : Nat) : Pt := if k = 1 then a else if k = 2 then lsr b a else if k = 3 then lsr c (lsr b a) else min4 a b c d
end Go.Proofs.Ytaegobkkcgheeaa

namespace Go.Proofs.Ytaegobkkcgheeaa
open Go.RowKit Go.Sort
attribute [local go_sem] rOper rAt rUpon cell_set sg_i64 sg_u64 alloc_cell alloc_frozen
attribute [local go_sem 10000] pt_eql pt_neq
attribute [local irreducible] rWalk

/-- The tie: of four on one circle the least tells. -/
def tie (a b c d m : Pt) (o : Int) : Int := if peqI m.x m.y d.x d.y = true then o else if peqI m.x m.y a.x a.y = true then -ori d b c else if peqI m.x m.y b.x b.y = true then -ori a d c else -ori a b d
def circ (a b c d : Pt) : Int :=
  if ori a b c = 0 then 0 else if vld d = false then 0 else if peqI d.x d.y a.x a.y = true then 0 else if peqI d.x d.y b.x b.y = true then 0 else if peqI d.x d.y c.x c.y = true then 0
  else if ¬ sgn (lft a b c d) = 0 then sgn (lft a b c d) else tie a b c d (min4 a b c d) (ori a b c)
theorem sgn_bd (n : Int) : -1 ≤ sgn n ∧ sgn n ≤ 1 := by unfold sgn; split <;> (try split) <;> omega
theorem ori_bd (a b c : Pt) : -1 ≤ ori a b c ∧ ori a b c ≤ 1 := by unfold ori; split; exact sgn_bd _; omega
theorem ori_vld {a b c : Pt} (h : ¬ ori a b c = 0) : vld a = true ∧ vld b = true ∧ vld c = true := by
  unfold ori at h; split at h; assumption; exact absurd rfl h
end Go.Proofs.Ytaegobkkcgheeaa
