/- The contracts of exact.Orient's parts, over the program. -/
import Derived.Test.YtijdbddjhnjcdaaRows
import Derived.Test.YtijdbddjhnjcdaaExA
import Derived.Test.YtijdbddjhnjcdaaPost
import Derived.WalkKit
import Derived.WalkSpells
import Derived.WalkLawsBesides
import Derived.Laws.Externs
import Derived.Deep.QuietTactic
import Derived.BigQuiet
import Derived.Lib.Hide
import Derived.Handy
namespace Go.Proofs.Ytijdbddjhnjcdaa
open Go.RowKit Go.Sort
attribute [local go_sem] rOper rAt rUpon cell_set sg_i64 sg_u64 alloc_cell alloc_frozen
attribute [local irreducible] rWalk

theorem cmp_pt (p q : Pt) (w : World) :
    Calls Try.prog 26 #[.agg #[.int .i64 p.x, .int .i64 p.y], .agg #[.int .i64 q.x, .int .i64 q.y]] w fun e w' => e = .returned (.int .i64 (cmpP p q)) ∧ Below w.heap.size w w' := by
  by_cases h : p.x = q.x
  · have e1 : (p.x != q.x) = false := by simp [h]
    have e2 : cmpP p q = cmpN p.y q.y := by unfold cmpP; rw [if_pos h]
    rw [e2]
    clear e2 h
    go_enter Try.func26, Try.ntmps26
    go_wp2_with (go_at_call 27; refine (cmp_int _ _ _).mono ?_; rintro e w' ⟨rfl, rfl⟩)
    go_returns
    exact ⟨rfl, by go_grown⟩
  · have e1 : (p.x != q.x) = true := by simp [h]
    have e2 : cmpP p q = cmpN p.x q.x := by unfold cmpP; rw [if_neg h]
    rw [e2]
    clear e2 h
    go_enter Try.func26, Try.ntmps26
    go_wp2_with (go_at_call 27; refine (cmp_int _ _ _).mono ?_; rintro e w' ⟨rfl, rfl⟩)
    go_returns
    exact ⟨rfl, by go_grown⟩
/-- The way from one to another, between points that may be. -/
def way (a b : Pt) : Pt := ⟨b.x - a.x, b.y - a.y⟩
/-- 24 bits and a sign. -/
def sm (n : Int) : Prop := -16777215 ≤ n ∧ n ≤ 16777215
def smP (p : Pt) : Prop := sm p.x ∧ sm p.y
theorem way_sm {a b : Pt} (ha : vld a = true) (hb : vld b = true) : smP (way a b) := by
  rw [vld_iff] at ha hb; unfold smP sm way; simp only; omega
theorem away_any (a b : Pt) (ha : vld a = true) (hb : vld b = true) (w : World) :
    Calls Try.prog 29 #[.agg #[.int .i64 a.x, .int .i64 a.y], .agg #[.int .i64 b.x, .int .i64 b.y]] w fun e w' => e = .returned (.agg #[.int .i64 (way a b).x, .int .i64 (way a b).y]) ∧ Below w.heap.size w w' := by
  rw [vld_iff] at ha hb
  have x1 : wrap64 (b.x - a.x) = (way a b).x := by rw [w64]; unfold way; simp only; omega
  have y1 : wrap64 (b.y - a.y) = (way a b).y := by rw [w64]; unfold way; simp only; omega
  have X := Lib.hid x1; have Y := Lib.hid y1; clear x1 y1 ha hb
  generalize (way a b).x = u at *
  generalize (way a b).y = v at *
  go_enter Try.func29, Try.ntmps29
  go_wp2
  refine bodyPost_ret (v := .agg #[.int .i64 u, .int .i64 v]) (by simp [results, Try.results29, go_sem, X.out, Y.out]) rfl ⟨rfl, by go_grown⟩
theorem mul_sm {a b : Int} (ha : sm a) (hb : sm b) : -281474943156225 ≤ a * b ∧ a * b ≤ 281474943156225 := by
  unfold sm at ha hb
  have h1 : a.natAbs ≤ 16777215 := by omega
  have h2 : b.natAbs ≤ 16777215 := by omega
  have h3 := Nat.mul_le_mul h1 h2
  rw [← Int.natAbs_mul] at h3
  generalize a * b = p at *
  omega
theorem sq_pos (a : Int) : 0 ≤ a * a := by
  rcases Int.le_total 0 a with h | h
  · exact Int.mul_nonneg h h
  · exact Int.mul_nonneg_of_nonpos_of_nonpos h h
def cr (u v : Pt) : Int := u.x * v.y - u.y * v.x
def ht (u : Pt) : Int := u.x * u.x + u.y * u.y
theorem cr_bd {u v : Pt} (hu : smP u) (hv : smP v) : -562949886312450 ≤ cr u v ∧ cr u v ≤ 562949886312450 := by
  have h1 := mul_sm hu.1 hv.2
  have h2 := mul_sm hu.2 hv.1
  unfold cr; omega
theorem ht_bd {u : Pt} (hu : smP u) : 0 ≤ ht u ∧ ht u ≤ 562949886312450 := by
  have h1 := mul_sm hu.1 hu.1
  have h2 := mul_sm hu.2 hu.2
  have h3 := sq_pos u.x
  have h4 := sq_pos u.y
  unfold ht; omega
theorem cross_any (u v : Pt) (hu : smP u) (hv : smP v) (w : World) :
    Calls Try.prog 28 #[.agg #[.int .i64 u.x, .int .i64 u.y], .agg #[.int .i64 v.x, .int .i64 v.y]] w fun e w' => e = .returned (.int .i64 (cr u v)) ∧ Below w.heap.size w w' := by
  have h1 := mul_sm hu.1 hv.2
  have h2 := mul_sm hu.2 hv.1
  have e : wrap64 (wrap64 (u.x * v.y) - wrap64 (u.y * v.x)) = cr u v := by
    simp only [w64]; unfold cr
    generalize u.x * v.y = p at *
    generalize u.y * v.x = q at *
    omega
  have E := Lib.hid e; clear e h1 h2 hu hv
  go_enter Try.func28, Try.ntmps28
  go_wp2
  go_ret
  exact ⟨ret_int (by simpa using E.out), by go_grown⟩
end Go.Proofs.Ytijdbddjhnjcdaa
