/- The contracts of package wide's and of the document's own sums, differences, opposites, signs and order, over the program. -/
import Derived.Test.YtmdehannbbpnaaaRows
import Derived.Test.YtmdehannbbpnaaaWideM
import Derived.Test.YtmdehannbbpnaaaRegion
import Derived.WalkKit
import Derived.WalkSpells
import Derived.WalkLawsBesides
import Derived.Laws.Externs
import Derived.Deep.QuietTactic
import Derived.BigQuiet
import Derived.Lib.Hide
import Derived.Handy
namespace Go.Proofs.Ytmdehannbbpnaaa
open Go.RowKit
attribute [local go_sem] rOper rAt rUpon cell_set

theorem ext_add (x y : Int) (hx : 0 ≤ x) (hy : 0 ≤ y) (w : World) :
    (callFunc 50 #[.int .u64 x, .int .u64 y, .int .u64 0]).run Try.prog w = .ok (.value (.tuple #[.int .u64 (lo x y), .int .u64 (cy x y)])) w := by
  rw [run_callFunc_extern (e := add64Entry) Try.func50 (by kernel_rfl) (by kernel_rfl) (by kernel_rfl) (by kernel_rfl), run_add64 x y 0 hx hy (by omega) (by omega)]
  simp [lo, cy, Result.andThen]

def sub64Entry : Array Value → Sem Value := fun args => do
  let (x, y, b) ← Extern.MathBitsCarry.three "Sub64" args
  pure (Extern.MathBitsCarry.pair ((x + Extern.MathBitsCarry.m64 - y - b) % Extern.MathBitsCarry.m64) (if x < y + b then 1 else 0))
theorem sub64_run {P : Program} (x y k : Nat) (hk : k = 0 ∨ k = 1) (w : World) :
    (sub64Entry #[.int .u64 x, .int .u64 y, .int .u64 k]).run P w = .ok (Extern.MathBitsCarry.pair ((x + Extern.MathBitsCarry.m64 - y - k) % Extern.MathBitsCarry.m64) (if x < y + k then 1 else 0)) w := by
  rcases hk with rfl | rfl <;> rfl
theorem add_any (h1 l1 h2 l2 : Int) (k : Ok h1 l1) (q : Ok h2 l2) (w : World) :
    Calls Try.prog 47 #[.agg #[.int .i64 h1, .int .u64 l1], .agg #[.int .i64 h2, .int .u64 l2]] w fun e w' =>
      e = .returned (.tuple #[.agg #[.int .i64 (cH (V h1 l1 + V h2 l2)), .int .u64 (cL (V h1 l1 + V h2 l2))], .bool (fits (V h1 l1 + V h2 l2))]) ∧ Below w.heap.size w w' := by
  have hx := ext_add l1 l2 k.l0 q.l0
  obtain ⟨c0, c1⟩ := cy_01 k.l0 k.l1 q.l0 q.l1
  go_enter Try.func47, Try.ntmps47
  go_wp2
  all_goals go_returns
  · rename_i a b
    obtain ⟨e1, e2⟩ := c_not (add_over k q a (by simpa using b))
    refine ⟨?_, by go_grown⟩
    rw [e1, e2, add_over k q a (by simpa using b)]
  · rename_i a b
    obtain ⟨e0, e1, e2⟩ := add_in k q (fun _ => by simpa using b)
    refine ⟨?_, by go_grown⟩
    rw [e0, e1, e2]
  · rename_i a
    obtain ⟨e0, e1, e2⟩ := add_in k q (fun b => absurd b a)
    refine ⟨?_, by go_grown⟩
    rw [e0, e1, e2]
theorem cmp_i64 (a b : Int) (w : World) :
    Calls Try.prog 52 #[.int .i64 a, .int .i64 b] w fun e w' => e = .returned (.int .i64 (sgn (a - b))) ∧ w = w' := by
  go_enter Try.func52, Try.ntmps52
  go_wp2
  all_goals go_ret
  · exact ⟨ret_int (by unfold sgn; rw [if_pos (by omega)]), rfl⟩
  · exact ⟨ret_int (by unfold sgn; rw [if_neg (by omega), if_pos (by omega)]), rfl⟩
  · exact ⟨ret_int (by unfold sgn; rw [if_neg (by omega), if_neg (by omega)]), rfl⟩
theorem cmp_u64 (a b : Int) (w : World) :
    Calls Try.prog 53 #[.int .u64 a, .int .u64 b] w fun e w' => e = .returned (.int .i64 (sgn (a - b))) ∧ w = w' := by
  go_enter Try.func53, Try.ntmps53
  go_wp2
  all_goals go_ret
  · exact ⟨ret_int (by unfold sgn; rw [if_pos (by omega)]), rfl⟩
  · exact ⟨ret_int (by unfold sgn; rw [if_neg (by omega), if_pos (by omega)]), rfl⟩
  · exact ⟨ret_int (by unfold sgn; rw [if_neg (by omega), if_neg (by omega)]), rfl⟩
theorem cmp_any (h1 l1 h2 l2 : Int) (k : Ok h1 l1) (q : Ok h2 l2) (w : World) :
    Calls Try.prog 51 #[.agg #[.int .i64 h1, .int .u64 l1], .agg #[.int .i64 h2, .int .u64 l2]] w fun e w' => e = .returned (.int .i64 (sgn (V h1 l1 - V h2 l2))) ∧ Below w.heap.size w w' := by
  have ea : ¬ h1 = h2 → sgn (h1 - h2) = sgn (V h1 l1 - V h2 l2) := fun c => by
    obtain ⟨a1, a2, a3, a4⟩ := k; obtain ⟨b1, b2, b3, b4⟩ := q
    unfold sgn V; split <;> split <;> (first | rfl | omega | (split <;> first | rfl | omega | (split <;> first | rfl | omega)))
  have eb : h1 = h2 → sgn (l1 - l2) = sgn (V h1 l1 - V h2 l2) := fun c => by
    have : V h1 l1 - V h2 l2 = l1 - l2 := by unfold V; omega
    rw [this]
  have EA := Lib.hid ea; have EB := Lib.hid eb; clear ea eb
  go_enter Try.func51, Try.ntmps51
  by_cases c : h1 = h2
  · have cc : (h1 != h2) = false := by simp [c]
    go_wp2_with (first | (go_at_call 53; refine (cmp_u64 _ _ _).mono ?_; rintro e w' ⟨rfl, rfl⟩))
    go_returns
    exact ⟨ret_int (EB.out c), by go_grown⟩
  · have cc : (h1 != h2) = true := by simp [c]
    go_wp2_with (first | (go_at_call 52; refine (cmp_i64 _ _ _).mono ?_; rintro e w' ⟨rfl, rfl⟩))
    go_returns
    exact ⟨ret_int (EA.out c), by go_grown⟩
end Go.Proofs.Ytmdehannbbpnaaa
