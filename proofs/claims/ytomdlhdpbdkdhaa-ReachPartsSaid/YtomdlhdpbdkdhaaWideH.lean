/- The contracts of package wide's and of the document's own sums, differences, opposites, signs and order, over the program. -/
import Derived.Test.YtomdlhdpbdkdhaaRows
import Derived.Test.YtomdlhdpbdkdhaaWideG
import Derived.Test.YtomdlhdpbdkdhaaRegion
import Derived.WalkKit
import Derived.WalkSpells
import Derived.WalkLawsBesides
import Derived.Laws.Externs
import Derived.Deep.QuietTactic
import Derived.BigQuiet
import Derived.Lib.Hide
import Derived.Handy
import Derived.Laws.MathBits
namespace Go.Proofs.Ytomdlhdpbdkdhaa
open Go.RowKit
attribute [local go_sem] rOper rAt rUpon cell_set sg_i64 sg_u64 alloc_cell alloc_frozen

/-- Three sums, one behind the other. -/
theorem mm_two {a b c n : Int} (h : a + b + c = n) : mH (V (mH (a + b)) (mL (a + b)) + c) = mH n ∧ mL (V (mH (a + b)) (mL (a + b)) + c) = mL n := by
  obtain ⟨k, hk⟩ := V_m (a + b)
  exact m_cong k (by omega)
theorem mm_neg {a b c n : Int} (h : a + b + c = n) : mH (-V (mH (V (mH (a + b)) (mL (a + b)) + c)) (mL (V (mH (a + b)) (mL (a + b)) + c))) = mH (-n) ∧ mL (-V (mH (V (mH (a + b)) (mL (a + b)) + c)) (mL (V (mH (a + b)) (mL (a + b)) + c))) = mL (-n) := by
  obtain ⟨k, hk⟩ := V_m (a + b)
  obtain ⟨j, hj⟩ := V_m (V (mH (a + b)) (mL (a + b)) + c)
  exact m_cong (-j - k) (by omega)
set_option maxHeartbeats 1000000 in
theorem r_mul (a b : Int) (a0 : -9223372036854775808 ≤ a) (a1 : a ≤ 9223372036854775807) (b0 : -9223372036854775808 ≤ b) (b1 : b ≤ 9223372036854775807) (w : World) :
    Calls Try.prog 43 #[.int .i64 a, .int .i64 b] w fun e w' =>
      e = .returned (.agg #[.int .i64 (cH (a * b)), .int .u64 (cL (a * b))]) ∧ Below w.heap.size w w' := by
  obtain ⟨m1, m2⟩ := m_c (fits_mul a b a0 a1 b0 b1)
  rcases Int.lt_or_le a 0 with ha | ha <;> rcases Int.lt_or_le b 0 with hb | hb
  · rw [← m1, ← m2]
    obtain ⟨X, hX⟩ : ∃ X, IntKind.u64.wrap (-IntKind.u64.wrap a) = X := ⟨_, rfl⟩
    have eX : X = -a := by rw [← hX, IntKind.wrap_u64, IntKind.wrap_u64]; omega
    obtain ⟨Y, hY⟩ : ∃ Y, IntKind.u64.wrap (-IntKind.u64.wrap b) = Y := ⟨_, rfl⟩
    have eY : Y = -b := by rw [← hY, IntKind.wrap_u64, IntKind.wrap_u64]; omega
    have x0 : 0 ≤ X := by omega
    have x1 : X ≤ 9223372036854775808 := by omega
    have y0 : 0 ≤ Y := by omega
    have y1 : Y ≤ 9223372036854775808 := by omega
    have hx : bits .and .u64 X 4294967295 = X % 4294967296 := and_low32 X x0 (by omega)
    have hy : bits .and .u64 Y 4294967295 = Y % 4294967296 := and_low32 Y y0 (by omega)
    have HH := Lib.hid (halves X Y x0 x1 y0 y1)
    have HE : X * Y = a * b := by rw [eX, eY]; exact Int.neg_mul_neg a b
    have HE' := Lib.hid HE; clear HE
    have EX := Lib.hid eX; have EY := Lib.hid eY; clear eX eY m1 m2
    go_enter Try.func43, Try.ntmps43
    go_wp2_with fail
    refine at_call fun W hW => ?_
    have B0 : Box W w.heap.size [.int .i64 0, .int .u64 0] 62 := by rw [hW]; exact (Box.new rfl).old _
    obtain ⟨d0, d1, B1⟩ : ∃ d0 d1, Box W (w.heap.size + 1) [d0, d1] 62 := ⟨_, _, by rw [hW]; exact Box.new (by simp)⟩
    have hw : Below w.heap.size w W := by rw [hW]; go_grown
    clear hW
    refine (r_add0 _ _ _ _ (ok_w _ _) (ok_w _ _) _).mono ?_
    rintro e w1 ⟨rfl, hb1⟩
    replace B0 := B0.ext hb1 rfl
    replace B1 := B1.ext hb1 rfl
    replace hw := hw.trans (hb1.mono hw.size)
    obtain ⟨x0', y0', z0', v0'⟩ := B0.facts
    obtain ⟨x1', y1', z1', v1'⟩ := B1.facts
    clear hb1
    go_wp2_with fail
    refine at_call fun W2 hW => ?_
    replace B0 : Box W2 w.heap.size [.int .i64 0, .int .u64 0] 62 := by rw [hW]; exact (B0.set_ne _ _ (by simp)).set_ne _ _ (by simp)
    obtain ⟨d2, d3, B1⟩ : ∃ d0 d1, Box W2 (w.heap.size + 1) [d0, d1] 62 := ⟨_, _, by rw [hW]; exact (B1.set 0 _).set 1 _⟩
    replace hw : Below w.heap.size w W2 := by have hl := hw.size; rw [hW]; go_grown
    clear hW x0' y0' z0' v0' x1' y1' z1' v1'
    refine (r_add0 _ _ _ _ (ok_m _) (ok_w _ _) _).mono ?_
    rintro e w2 ⟨rfl, hb1⟩
    replace B0 := B0.ext hb1 rfl
    replace B1 := B1.ext hb1 rfl
    replace hw := hw.trans (hb1.mono hw.size)
    obtain ⟨x0', y0', z0', v0'⟩ := B0.facts
    obtain ⟨x1', y1', z1', v1'⟩ := B1.facts
    clear hb1
    go_wp2_with fail
    have hl := hw.size
    refine bodyPost_ret (by simp [results, Try.results43, go_sem, x0']; try rfl) rfl ⟨?_, by go_grown⟩
    obtain ⟨q1, q2⟩ := mm_two HH.out
    rw [q1, q2, HE'.out]
  · rw [← m1, ← m2]
    obtain ⟨X, hX⟩ : ∃ X, IntKind.u64.wrap (-IntKind.u64.wrap a) = X := ⟨_, rfl⟩
    have eX : X = -a := by rw [← hX, IntKind.wrap_u64, IntKind.wrap_u64]; omega
    obtain ⟨Y, eY⟩ : ∃ Y, Y = b := ⟨_, rfl⟩
    rw [← eY]
    rw [← eY] at hb b0 b1
    have db : decide (Y < 0) = false := decide_eq_false (by omega)
    have x0 : 0 ≤ X := by omega
    have x1 : X ≤ 9223372036854775808 := by omega
    have y0 : 0 ≤ Y := by omega
    have y1 : Y ≤ 9223372036854775808 := by omega
    have hx : bits .and .u64 X 4294967295 = X % 4294967296 := and_low32 X x0 (by omega)
    have hy : bits .and .u64 Y 4294967295 = Y % 4294967296 := and_low32 Y y0 (by omega)
    have HH := Lib.hid (halves X Y x0 x1 y0 y1)
    have HE : -(X * Y) = a * Y := by rw [eX, Int.neg_mul, Int.neg_neg]
    have HE' := Lib.hid HE; clear HE
    have EX := Lib.hid eX; have EY := Lib.hid eY; clear eX eY m1 m2
    go_enter Try.func43, Try.ntmps43
    go_wp2_with fail
    refine at_call fun W hW => ?_
    have B0 : Box W w.heap.size [.int .i64 0, .int .u64 0] 62 := by rw [hW]; exact (Box.new rfl).old _
    obtain ⟨d0, d1, B1⟩ : ∃ d0 d1, Box W (w.heap.size + 1) [d0, d1] 62 := ⟨_, _, by rw [hW]; exact Box.new (by simp)⟩
    have hw : Below w.heap.size w W := by rw [hW]; go_grown
    clear hW
    refine (r_add0 _ _ _ _ (ok_w _ _) (ok_w _ _) _).mono ?_
    rintro e w1 ⟨rfl, hb1⟩
    replace B0 := B0.ext hb1 rfl
    replace B1 := B1.ext hb1 rfl
    replace hw := hw.trans (hb1.mono hw.size)
    obtain ⟨x0', y0', z0', v0'⟩ := B0.facts
    obtain ⟨x1', y1', z1', v1'⟩ := B1.facts
    clear hb1
    go_wp2_with fail
    refine at_call fun W2 hW => ?_
    replace B0 : Box W2 w.heap.size [.int .i64 0, .int .u64 0] 62 := by rw [hW]; exact (B0.set_ne _ _ (by simp)).set_ne _ _ (by simp)
    obtain ⟨d2, d3, B1⟩ : ∃ d0 d1, Box W2 (w.heap.size + 1) [d0, d1] 62 := ⟨_, _, by rw [hW]; exact (B1.set 0 _).set 1 _⟩
    replace hw : Below w.heap.size w W2 := by have hl := hw.size; rw [hW]; go_grown
    clear hW x0' y0' z0' v0' x1' y1' z1' v1'
    refine (r_add0 _ _ _ _ (ok_m _) (ok_w _ _) _).mono ?_
    rintro e w2 ⟨rfl, hb1⟩
    replace B0 := B0.ext hb1 rfl
    replace B1 := B1.ext hb1 rfl
    replace hw := hw.trans (hb1.mono hw.size)
    obtain ⟨x0', y0', z0', v0'⟩ := B0.facts
    obtain ⟨x1', y1', z1', v1'⟩ := B1.facts
    clear hb1
    go_wp2_with fail
    refine at_call fun W3 hW => ?_
    replace B0 : Box W3 w.heap.size [.int .i64 0, .int .u64 0] 62 := by rw [hW]; exact (B0.set_ne _ _ (by simp)).set_ne _ _ (by simp)
    replace hw : Below w.heap.size w W3 := by have hl := hw.size; rw [hW]; go_grown
    clear hW x0' y0' z0' v0' x1' y1' z1' v1'
    refine (r_neg0 _ _ (ok_m _) _).mono ?_
    rintro e w3 ⟨rfl, hb1⟩
    replace B0 := B0.ext hb1 rfl
    replace hw := hw.trans (hb1.mono hw.size)
    obtain ⟨x0', y0', z0', v0'⟩ := B0.facts
    clear hb1
    go_wp2
    have hl := hw.size
    refine bodyPost_ret (by simp [results, Try.results43, go_sem, x0']; try rfl) rfl ⟨?_, by go_grown⟩
    obtain ⟨q1, q2⟩ := mm_neg HH.out
    rw [q1, q2, HE'.out]
  · rw [← m1, ← m2]
    obtain ⟨X, eX⟩ : ∃ X, X = a := ⟨_, rfl⟩
    rw [← eX]
    rw [← eX] at ha a0 a1
    have da : decide (X < 0) = false := decide_eq_false (by omega)
    obtain ⟨Y, hY⟩ : ∃ Y, IntKind.u64.wrap (-IntKind.u64.wrap b) = Y := ⟨_, rfl⟩
    have eY : Y = -b := by rw [← hY, IntKind.wrap_u64, IntKind.wrap_u64]; omega
    have x0 : 0 ≤ X := by omega
    have x1 : X ≤ 9223372036854775808 := by omega
    have y0 : 0 ≤ Y := by omega
    have y1 : Y ≤ 9223372036854775808 := by omega
    have hx : bits .and .u64 X 4294967295 = X % 4294967296 := and_low32 X x0 (by omega)
    have hy : bits .and .u64 Y 4294967295 = Y % 4294967296 := and_low32 Y y0 (by omega)
    have HH := Lib.hid (halves X Y x0 x1 y0 y1)
    have HE : -(X * Y) = X * b := by rw [eY, Int.mul_neg, Int.neg_neg]
    have HE' := Lib.hid HE; clear HE
    have EX := Lib.hid eX; have EY := Lib.hid eY; clear eX eY m1 m2
    go_enter Try.func43, Try.ntmps43
    go_wp2_with fail
    refine at_call fun W hW => ?_
    have B0 : Box W w.heap.size [.int .i64 0, .int .u64 0] 62 := by rw [hW]; exact (Box.new rfl).old _
    obtain ⟨d0, d1, B1⟩ : ∃ d0 d1, Box W (w.heap.size + 1) [d0, d1] 62 := ⟨_, _, by rw [hW]; exact Box.new (by simp)⟩
    have hw : Below w.heap.size w W := by rw [hW]; go_grown
    clear hW
    refine (r_add0 _ _ _ _ (ok_w _ _) (ok_w _ _) _).mono ?_
    rintro e w1 ⟨rfl, hb1⟩
    replace B0 := B0.ext hb1 rfl
    replace B1 := B1.ext hb1 rfl
    replace hw := hw.trans (hb1.mono hw.size)
    obtain ⟨x0', y0', z0', v0'⟩ := B0.facts
    obtain ⟨x1', y1', z1', v1'⟩ := B1.facts
    clear hb1
    go_wp2_with fail
    refine at_call fun W2 hW => ?_
    replace B0 : Box W2 w.heap.size [.int .i64 0, .int .u64 0] 62 := by rw [hW]; exact (B0.set_ne _ _ (by simp)).set_ne _ _ (by simp)
    obtain ⟨d2, d3, B1⟩ : ∃ d0 d1, Box W2 (w.heap.size + 1) [d0, d1] 62 := ⟨_, _, by rw [hW]; exact (B1.set 0 _).set 1 _⟩
    replace hw : Below w.heap.size w W2 := by have hl := hw.size; rw [hW]; go_grown
    clear hW x0' y0' z0' v0' x1' y1' z1' v1'
    refine (r_add0 _ _ _ _ (ok_m _) (ok_w _ _) _).mono ?_
    rintro e w2 ⟨rfl, hb1⟩
    replace B0 := B0.ext hb1 rfl
    replace B1 := B1.ext hb1 rfl
    replace hw := hw.trans (hb1.mono hw.size)
    obtain ⟨x0', y0', z0', v0'⟩ := B0.facts
    obtain ⟨x1', y1', z1', v1'⟩ := B1.facts
    clear hb1
    go_wp2_with fail
    refine at_call fun W3 hW => ?_
    replace B0 : Box W3 w.heap.size [.int .i64 0, .int .u64 0] 62 := by rw [hW]; exact (B0.set_ne _ _ (by simp)).set_ne _ _ (by simp)
    replace hw : Below w.heap.size w W3 := by have hl := hw.size; rw [hW]; go_grown
    clear hW x0' y0' z0' v0' x1' y1' z1' v1'
    refine (r_neg0 _ _ (ok_m _) _).mono ?_
    rintro e w3 ⟨rfl, hb1⟩
    replace B0 := B0.ext hb1 rfl
    replace hw := hw.trans (hb1.mono hw.size)
    obtain ⟨x0', y0', z0', v0'⟩ := B0.facts
    clear hb1
    go_wp2
    have hl := hw.size
    refine bodyPost_ret (by simp [results, Try.results43, go_sem, x0']; try rfl) rfl ⟨?_, by go_grown⟩
    obtain ⟨q1, q2⟩ := mm_neg HH.out
    rw [q1, q2, HE'.out]
  · rw [← m1, ← m2]
    obtain ⟨X, eX⟩ : ∃ X, X = a := ⟨_, rfl⟩
    rw [← eX]
    rw [← eX] at ha a0 a1
    have da : decide (X < 0) = false := decide_eq_false (by omega)
    obtain ⟨Y, eY⟩ : ∃ Y, Y = b := ⟨_, rfl⟩
    rw [← eY]
    rw [← eY] at hb b0 b1
    have db : decide (Y < 0) = false := decide_eq_false (by omega)
    have x0 : 0 ≤ X := by omega
    have x1 : X ≤ 9223372036854775808 := by omega
    have y0 : 0 ≤ Y := by omega
    have y1 : Y ≤ 9223372036854775808 := by omega
    have hx : bits .and .u64 X 4294967295 = X % 4294967296 := and_low32 X x0 (by omega)
    have hy : bits .and .u64 Y 4294967295 = Y % 4294967296 := and_low32 Y y0 (by omega)
    have HH := Lib.hid (halves X Y x0 x1 y0 y1)
    have HE : X * Y = X * Y := rfl
    have HE' := Lib.hid HE; clear HE
    have EX := Lib.hid eX; have EY := Lib.hid eY; clear eX eY m1 m2
    go_enter Try.func43, Try.ntmps43
    go_wp2_with fail
    refine at_call fun W hW => ?_
    have B0 : Box W w.heap.size [.int .i64 0, .int .u64 0] 62 := by rw [hW]; exact (Box.new rfl).old _
    obtain ⟨d0, d1, B1⟩ : ∃ d0 d1, Box W (w.heap.size + 1) [d0, d1] 62 := ⟨_, _, by rw [hW]; exact Box.new (by simp)⟩
    have hw : Below w.heap.size w W := by rw [hW]; go_grown
    clear hW
    refine (r_add0 _ _ _ _ (ok_w _ _) (ok_w _ _) _).mono ?_
    rintro e w1 ⟨rfl, hb1⟩
    replace B0 := B0.ext hb1 rfl
    replace B1 := B1.ext hb1 rfl
    replace hw := hw.trans (hb1.mono hw.size)
    obtain ⟨x0', y0', z0', v0'⟩ := B0.facts
    obtain ⟨x1', y1', z1', v1'⟩ := B1.facts
    clear hb1
    go_wp2_with fail
    refine at_call fun W2 hW => ?_
    replace B0 : Box W2 w.heap.size [.int .i64 0, .int .u64 0] 62 := by rw [hW]; exact (B0.set_ne _ _ (by simp)).set_ne _ _ (by simp)
    obtain ⟨d2, d3, B1⟩ : ∃ d0 d1, Box W2 (w.heap.size + 1) [d0, d1] 62 := ⟨_, _, by rw [hW]; exact (B1.set 0 _).set 1 _⟩
    replace hw : Below w.heap.size w W2 := by have hl := hw.size; rw [hW]; go_grown
    clear hW x0' y0' z0' v0' x1' y1' z1' v1'
    refine (r_add0 _ _ _ _ (ok_m _) (ok_w _ _) _).mono ?_
    rintro e w2 ⟨rfl, hb1⟩
    replace B0 := B0.ext hb1 rfl
    replace B1 := B1.ext hb1 rfl
    replace hw := hw.trans (hb1.mono hw.size)
    obtain ⟨x0', y0', z0', v0'⟩ := B0.facts
    obtain ⟨x1', y1', z1', v1'⟩ := B1.facts
    clear hb1
    go_wp2_with fail
    have hl := hw.size
    refine bodyPost_ret (by simp [results, Try.results43, go_sem, x0']; try rfl) rfl ⟨?_, by go_grown⟩
    obtain ⟨q1, q2⟩ := mm_two HH.out
    rw [q1, q2]
end Go.Proofs.Ytomdlhdpbdkdhaa
