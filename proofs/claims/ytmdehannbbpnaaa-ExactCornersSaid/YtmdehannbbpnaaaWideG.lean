/- The contracts of package wide's and of the document's own sums, differences, opposites, signs and order, over the program. -/
import Derived.Test.YtmdehannbbpnaaaRows
import Derived.Test.YtmdehannbbpnaaaWideD
import Derived.Test.YtmdehannbbpnaaaRegion
import Derived.WalkKit
import Derived.WalkSpells
import Derived.WalkLawsBesides
import Derived.Laws.Externs
import Derived.Deep.QuietTactic
import Derived.BigQuiet
import Derived.Lib.Hide
import Derived.Handy
import Derived.Laws.MathBits
namespace Go.Proofs.Ytmdehannbbpnaaa
open Go.RowKit
attribute [local go_sem] rOper rAt rUpon cell_set sg_i64 sg_u64 alloc_cell alloc_frozen

theorem ret_two {k k' : IntKind} {a b c d : Int} (h : a = c) (h2 : b = d) : Ending.returned (.tuple #[.int k a, .int k' b]) = .returned (.tuple #[.int k c, .int k' d]) := by rw [h, h2]
theorem mul64_any (x y : Int) (x0 : 0 ≤ x) (x1 : x ≤ 18446744073709551615) (y0 : 0 ≤ y) (y1 : y ≤ 18446744073709551615) (w : World) :
    Calls Try.prog 49 #[.int .u64 x, .int .u64 y] w fun e w' =>
      e = .returned (.tuple #[.int .u64 (x * y / 18446744073709551616), .int .u64 (x * y % 18446744073709551616)]) ∧ w = w' := by
  have E := Lib.hid (mul64_arith x y x0 (by omega) y0 (by omega))
  have al : ∀ z : Int, bits .and .u64 (z % 18446744073709551616) 4294967295 = z % 18446744073709551616 % 4294967296 := fun z => and_low32 _ (by omega) (by omega)
  have A := Lib.hid al
  have ax := Lib.hid (and_low32 x x0 (by omega))
  have ay := Lib.hid (and_low32 y y0 (by omega))
  clear al
  go_enter Try.func49, Try.ntmps49
  go_wp2
  go_ret2
  refine ⟨ret_two ?_ (by rw [IntKind.wrap_u64]), rfl⟩
  simp only [ax.out, ay.out, A.out, IntKind.wrap_u64]
  exact E.out
set_option maxHeartbeats 1000000 in
theorem mul_any (a b : Int) (a0 : -9223372036854775808 ≤ a) (a1 : a ≤ 9223372036854775807) (b0 : -9223372036854775808 ≤ b) (b1 : b ≤ 9223372036854775807) (w : World) :
    Calls Try.prog 45 #[.int .i64 a, .int .i64 b] w fun e w' =>
      e = .returned (.agg #[.int .i64 (cH (a * b)), .int .u64 (cL (a * b))]) ∧ Below w.heap.size w w' := by
  have c := mul64_any (IntKind.u64.wrap a) (IntKind.u64.wrap b) (by rw [IntKind.wrap_u64]; omega) (by rw [IntKind.wrap_u64]; omega) (by rw [IntKind.wrap_u64]; omega) (by rw [IntKind.wrap_u64]; omega)
  obtain ⟨e0, e1, e2, e3, e4⟩ := mul_words a b a0 a1 b0 b1
  rcases Int.lt_or_le a 0 with ha | ha <;> rcases Int.lt_or_le b 0 with hb | hb
  · rw [e0, e4 ha hb]
    clear e0 e1 e2 e3 e4
    go_enter Try.func45, Try.ntmps45
    go_wp2_with (first | (go_at_call 49; refine (c _).mono ?_; rintro e w' ⟨rfl, rfl⟩))
    go_returns
    exact ⟨rfl, by go_grown⟩
  · rw [e0, e2 ha hb]
    have eb : IntKind.u64.wrap b = b := by rw [IntKind.wrap_u64]; omega
    rw [eb] at c ⊢
    clear e0 e1 e2 e3 e4 eb
    go_enter Try.func45, Try.ntmps45
    go_wp2_with (first | (go_at_call 49; refine (c _).mono ?_; rintro e w' ⟨rfl, rfl⟩))
    go_returns
    exact ⟨rfl, by go_grown⟩
  · rw [e0, e3 ha hb]
    have ea : IntKind.u64.wrap a = a := by rw [IntKind.wrap_u64]; omega
    rw [ea] at c ⊢
    clear e0 e1 e2 e3 e4 ea
    go_enter Try.func45, Try.ntmps45
    go_wp2_with (first | (go_at_call 49; refine (c _).mono ?_; rintro e w' ⟨rfl, rfl⟩))
    go_returns
    exact ⟨rfl, by go_grown⟩
  · rw [e0, e1 ha hb]
    have ea : IntKind.u64.wrap a = a := by rw [IntKind.wrap_u64]; omega
    rw [ea] at c ⊢
    have eb : IntKind.u64.wrap b = b := by rw [IntKind.wrap_u64]; omega
    rw [eb] at c ⊢
    clear e0 e1 e2 e3 e4 ea eb
    go_enter Try.func45, Try.ntmps45
    go_wp2_with (first | (go_at_call 49; refine (c _).mono ?_; rintro e w' ⟨rfl, rfl⟩))
    go_returns
    exact ⟨rfl, by go_grown⟩
end Go.Proofs.Ytmdehannbbpnaaa
