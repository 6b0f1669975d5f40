/- Put together: WideH, ExD, ExE, ExF, ExG, ExH. -/
import Derived.Test.YtjkfakaehjmnbaaGreatRows
import Derived.Test.YtjkfakaehjmnbaaGreatPmf0
import Derived.WalkKit
import Derived.WalkSpells
import Derived.WalkLawsBesides
import Derived.Laws.Externs
import Derived.Deep.QuietTactic
import Derived.BigQuiet
import Derived.Lib.Hide
import Derived.Handy
import Derived.Laws.MathBits
import Derived.Test.YtjkfakaehjmnbaaGreatPmf1
import Derived.LoopTactic
set_option maxRecDepth 100000
set_option maxHeartbeats 8000000
namespace Go.Proofs.YtjkfakaehjmnbaaGreat
open Go.RowKit
attribute [local go_sem] rOper rAt rUpon cell_set sg_i64 sg_u64 alloc_cell alloc_frozen
theorem mm_two {a b c n : Int} (h : a + b + c = n) : mH (V (mH (a + b)) (mL (a + b)) + c) = mH n ∧ mL (V (mH (a + b)) (mL (a + b)) + c) = mL n := by
 obtain ⟨k, hk⟩ := V_m (a + b);exact m_cong k (by omega)
theorem mm_neg {a b c n : Int} (h : a + b + c = n) : mH (-V (mH (V (mH (a + b)) (mL (a + b)) + c)) (mL (V (mH (a + b)) (mL (a + b)) + c))) = mH (-n) ∧ mL (-V (mH (V (mH (a + b)) (mL (a + b)) + c)) (mL (V (mH (a + b)) (mL (a + b)) + c))) = mL (-n) := by
 obtain ⟨k, hk⟩ := V_m (a + b);obtain ⟨j, hj⟩ := V_m (V (mH (a + b)) (mL (a + b)) + c);exact m_cong (-j - k) (by omega)
theorem r_mul (a b : Int) (a0 : -9223372036854775808 ≤ a) (a1 : a ≤ 9223372036854775807) (b0 : -9223372036854775808 ≤ b) (b1 : b ≤ 9223372036854775807) (w : World) :
    Calls Tryz.prog 84 #[.int .i64 a, .int .i64 b] w fun e w' =>
     e = .returned (.agg #[.int .i64 (cH (a * b)), .int .u64 (cL (a * b))]) ∧ Below w.heap.size w w' := by
 obtain ⟨m1, m2⟩ := m_c (fits_mul a b a0 a1 b0 b1);rcases Int.lt_or_le a 0 with ha | ha <;> rcases Int.lt_or_le b 0 with hb | hb
 ·rw [← m1, ← m2];obtain ⟨X, hX⟩ : ∃ X, IntKind.u64.wrap (-IntKind.u64.wrap a) = X := ⟨_, rfl⟩;have eX : X = -a := by rw [← hX, IntKind.wrap_u64, IntKind.wrap_u64]; omega
  obtain ⟨Y, hY⟩ : ∃ Y, IntKind.u64.wrap (-IntKind.u64.wrap b) = Y := ⟨_, rfl⟩;have eY : Y = -b := by rw [← hY, IntKind.wrap_u64, IntKind.wrap_u64]; omega
  have x0 : 0 ≤ X := by omega
  have x1 : X ≤ 9223372036854775808 := by omega
  have y0 : 0 ≤ Y := by omega
  have y1 : Y ≤ 9223372036854775808 := by omega
  have hx : bits .and .u64 X 4294967295 = X % 4294967296 := and_low32 X x0 (by omega);have hy : bits .and .u64 Y 4294967295 = Y % 4294967296 := and_low32 Y y0 (by omega);have HH := Lib.hid (halves X Y x0 x1 y0 y1);have HE : X * Y = a * b := by rw [eX, eY]; exact Int.neg_mul_neg a b
  have HE' := Lib.hid HE; clear HE;have EX := Lib.hid eX; have EY := Lib.hid eY; clear eX eY m1 m2
  go_enter Tryz.func84, Tryz.ntmps84
  go_wp2_with fail;refine zA1 fun W hW => ?_;have B0 : Box W w.heap.size [.int .i64 0, .int .u64 0] 129 := by rw [hW]; exact (Box.new rfl).old _
  obtain ⟨d0, d1, B1⟩ : ∃ d0 d1, Box W (w.heap.size + 1) [d0, d1] 129 := ⟨_, _, by rw [hW]; exact Box.new (by simp)⟩;have hw : Below w.heap.size w W := by rw [hW]; go_grown
  clear hW;refine (zE4 _ _ _ _ (ok_w _ _) (ok_w _ _) _).mono ?_;rintro e w1 ⟨rfl, hb1⟩;replace B0 := B0.ee hb1;replace B1 := B1.ee hb1;replace hw := upB hw hb1;obtain ⟨x0', y0', z0', v0'⟩ := B0.f;obtain ⟨x1', y1', z1', v1'⟩ := B1.f;clear hb1;go_wp2_with fail;refine zA1 fun W2 hW => ?_;replace B0 : Box W2 w.heap.size [.int .i64 0, .int .u64 0] 129 := by rw [hW]; exact (B0.set_ne _ _ (by simp)).set_ne _ _ (by simp)
  obtain ⟨d2, d3, B1⟩ : ∃ d0 d1, Box W2 (w.heap.size + 1) [d0, d1] 129 := ⟨_, _, by rw [hW]; exact (B1.set 0 _).set 1 _⟩;replace hw : Below w.heap.size w W2 := by have hl := hw.size; rw [hW]; go_grown
  clear hW x0' y0' z0' v0' x1' y1' z1' v1';refine (zE4 _ _ _ _ (ok_m _) (ok_w _ _) _).mono ?_;rintro e w2 ⟨rfl, hb1⟩;replace B0 := B0.ee hb1;replace B1 := B1.ee hb1;replace hw := upB hw hb1;obtain ⟨x0', y0', z0', v0'⟩ := B0.f;obtain ⟨x1', y1', z1', v1'⟩ := B1.f;clear hb1;go_wp2_with fail;have hl := hw.size;refine bodyPost_ret (by simp [results, Tryz.results84, go_sem, x0']; try rfl) rfl ⟨?_, by go_grown⟩;obtain ⟨q1, q2⟩ := mm_two HH.out;rw [q1, q2, HE'.out]
 ·rw [← m1, ← m2];obtain ⟨X, hX⟩ : ∃ X, IntKind.u64.wrap (-IntKind.u64.wrap a) = X := ⟨_, rfl⟩;have eX : X = -a := by rw [← hX, IntKind.wrap_u64, IntKind.wrap_u64]; omega
  obtain ⟨Y, eY⟩ : ∃ Y, Y = b := ⟨_, rfl⟩;rw [← eY];rw [← eY] at hb b0 b1;have db : decide (Y < 0) = false := decide_eq_false (by omega);have x0 : 0 ≤ X := by omega
  have x1 : X ≤ 9223372036854775808 := by omega
  have y0 : 0 ≤ Y := by omega
  have y1 : Y ≤ 9223372036854775808 := by omega
  have hx : bits .and .u64 X 4294967295 = X % 4294967296 := and_low32 X x0 (by omega);have hy : bits .and .u64 Y 4294967295 = Y % 4294967296 := and_low32 Y y0 (by omega);have HH := Lib.hid (halves X Y x0 x1 y0 y1);have HE : -(X * Y) = a * Y := by rw [eX, Int.neg_mul, Int.neg_neg]
  have HE' := Lib.hid HE; clear HE;have EX := Lib.hid eX; have EY := Lib.hid eY; clear eX eY m1 m2
  go_enter Tryz.func84, Tryz.ntmps84
  go_wp2_with fail;refine zA1 fun W hW => ?_;have B0 : Box W w.heap.size [.int .i64 0, .int .u64 0] 129 := by rw [hW]; exact (Box.new rfl).old _
  obtain ⟨d0, d1, B1⟩ : ∃ d0 d1, Box W (w.heap.size + 1) [d0, d1] 129 := ⟨_, _, by rw [hW]; exact Box.new (by simp)⟩;have hw : Below w.heap.size w W := by rw [hW]; go_grown
  clear hW;refine (zE4 _ _ _ _ (ok_w _ _) (ok_w _ _) _).mono ?_;rintro e w1 ⟨rfl, hb1⟩;replace B0 := B0.ee hb1;replace B1 := B1.ee hb1;replace hw := upB hw hb1;obtain ⟨x0', y0', z0', v0'⟩ := B0.f;obtain ⟨x1', y1', z1', v1'⟩ := B1.f;clear hb1;go_wp2_with fail;refine zA1 fun W2 hW => ?_;replace B0 : Box W2 w.heap.size [.int .i64 0, .int .u64 0] 129 := by rw [hW]; exact (B0.set_ne _ _ (by simp)).set_ne _ _ (by simp)
  obtain ⟨d2, d3, B1⟩ : ∃ d0 d1, Box W2 (w.heap.size + 1) [d0, d1] 129 := ⟨_, _, by rw [hW]; exact (B1.set 0 _).set 1 _⟩;replace hw : Below w.heap.size w W2 := by have hl := hw.size; rw [hW]; go_grown
  clear hW x0' y0' z0' v0' x1' y1' z1' v1';refine (zE4 _ _ _ _ (ok_m _) (ok_w _ _) _).mono ?_;rintro e w2 ⟨rfl, hb1⟩;replace B0 := B0.ee hb1;replace B1 := B1.ee hb1;replace hw := upB hw hb1;obtain ⟨x0', y0', z0', v0'⟩ := B0.f;obtain ⟨x1', y1', z1', v1'⟩ := B1.f;clear hb1;go_wp2_with fail;refine zA1 fun W3 hW => ?_;replace B0 : Box W3 w.heap.size [.int .i64 0, .int .u64 0] 129 := by rw [hW]; exact (B0.set_ne _ _ (by simp)).set_ne _ _ (by simp)
  replace hw : Below w.heap.size w W3 := by have hl := hw.size; rw [hW]; go_grown
  clear hW x0' y0' z0' v0' x1' y1' z1' v1';refine (zK8 _ _ (ok_m _) _).mono ?_;rintro e w3 ⟨rfl, hb1⟩;replace B0 := B0.ee hb1;replace hw := upB hw hb1;obtain ⟨x0', y0', z0', v0'⟩ := B0.f;clear hb1;go_wp2;have hl := hw.size;refine bodyPost_ret (by simp [results, Tryz.results84, go_sem, x0']; try rfl) rfl ⟨?_, by go_grown⟩;obtain ⟨q1, q2⟩ := mm_neg HH.out;rw [q1, q2, HE'.out]
 ·rw [← m1, ← m2];obtain ⟨X, eX⟩ : ∃ X, X = a := ⟨_, rfl⟩;rw [← eX];rw [← eX] at ha a0 a1;have da : decide (X < 0) = false := decide_eq_false (by omega);obtain ⟨Y, hY⟩ : ∃ Y, IntKind.u64.wrap (-IntKind.u64.wrap b) = Y := ⟨_, rfl⟩;have eY : Y = -b := by rw [← hY, IntKind.wrap_u64, IntKind.wrap_u64]; omega
  have x0 : 0 ≤ X := by omega
  have x1 : X ≤ 9223372036854775808 := by omega
  have y0 : 0 ≤ Y := by omega
  have y1 : Y ≤ 9223372036854775808 := by omega
  have hx : bits .and .u64 X 4294967295 = X % 4294967296 := and_low32 X x0 (by omega);have hy : bits .and .u64 Y 4294967295 = Y % 4294967296 := and_low32 Y y0 (by omega);have HH := Lib.hid (halves X Y x0 x1 y0 y1);have HE : -(X * Y) = X * b := by rw [eY, Int.mul_neg, Int.neg_neg]
  have HE' := Lib.hid HE; clear HE;have EX := Lib.hid eX; have EY := Lib.hid eY; clear eX eY m1 m2
  go_enter Tryz.func84, Tryz.ntmps84
  go_wp2_with fail;refine zA1 fun W hW => ?_;have B0 : Box W w.heap.size [.int .i64 0, .int .u64 0] 129 := by rw [hW]; exact (Box.new rfl).old _
  obtain ⟨d0, d1, B1⟩ : ∃ d0 d1, Box W (w.heap.size + 1) [d0, d1] 129 := ⟨_, _, by rw [hW]; exact Box.new (by simp)⟩;have hw : Below w.heap.size w W := by rw [hW]; go_grown
  clear hW;refine (zE4 _ _ _ _ (ok_w _ _) (ok_w _ _) _).mono ?_;rintro e w1 ⟨rfl, hb1⟩;replace B0 := B0.ee hb1;replace B1 := B1.ee hb1;replace hw := upB hw hb1;obtain ⟨x0', y0', z0', v0'⟩ := B0.f;obtain ⟨x1', y1', z1', v1'⟩ := B1.f;clear hb1;go_wp2_with fail;refine zA1 fun W2 hW => ?_;replace B0 : Box W2 w.heap.size [.int .i64 0, .int .u64 0] 129 := by rw [hW]; exact (B0.set_ne _ _ (by simp)).set_ne _ _ (by simp)
  obtain ⟨d2, d3, B1⟩ : ∃ d0 d1, Box W2 (w.heap.size + 1) [d0, d1] 129 := ⟨_, _, by rw [hW]; exact (B1.set 0 _).set 1 _⟩;replace hw : Below w.heap.size w W2 := by have hl := hw.size; rw [hW]; go_grown
  clear hW x0' y0' z0' v0' x1' y1' z1' v1';refine (zE4 _ _ _ _ (ok_m _) (ok_w _ _) _).mono ?_;rintro e w2 ⟨rfl, hb1⟩;replace B0 := B0.ee hb1;replace B1 := B1.ee hb1;replace hw := upB hw hb1;obtain ⟨x0', y0', z0', v0'⟩ := B0.f;obtain ⟨x1', y1', z1', v1'⟩ := B1.f;clear hb1;go_wp2_with fail;refine zA1 fun W3 hW => ?_;replace B0 : Box W3 w.heap.size [.int .i64 0, .int .u64 0] 129 := by rw [hW]; exact (B0.set_ne _ _ (by simp)).set_ne _ _ (by simp)
  replace hw : Below w.heap.size w W3 := by have hl := hw.size; rw [hW]; go_grown
  clear hW x0' y0' z0' v0' x1' y1' z1' v1';refine (zK8 _ _ (ok_m _) _).mono ?_;rintro e w3 ⟨rfl, hb1⟩;replace B0 := B0.ee hb1;replace hw := upB hw hb1;obtain ⟨x0', y0', z0', v0'⟩ := B0.f;clear hb1;go_wp2;have hl := hw.size;refine bodyPost_ret (by simp [results, Tryz.results84, go_sem, x0']; try rfl) rfl ⟨?_, by go_grown⟩;obtain ⟨q1, q2⟩ := mm_neg HH.out;rw [q1, q2, HE'.out]
 ·rw [← m1, ← m2];obtain ⟨X, eX⟩ : ∃ X, X = a := ⟨_, rfl⟩;rw [← eX];rw [← eX] at ha a0 a1;have da : decide (X < 0) = false := decide_eq_false (by omega);obtain ⟨Y, eY⟩ : ∃ Y, Y = b := ⟨_, rfl⟩;rw [← eY];rw [← eY] at hb b0 b1;have db : decide (Y < 0) = false := decide_eq_false (by omega);have x0 : 0 ≤ X := by omega
  have x1 : X ≤ 9223372036854775808 := by omega
  have y0 : 0 ≤ Y := by omega
  have y1 : Y ≤ 9223372036854775808 := by omega
  have hx : bits .and .u64 X 4294967295 = X % 4294967296 := and_low32 X x0 (by omega);have hy : bits .and .u64 Y 4294967295 = Y % 4294967296 := and_low32 Y y0 (by omega);have HH := Lib.hid (halves X Y x0 x1 y0 y1);have HE : X * Y = X * Y := rfl;have HE' := Lib.hid HE; clear HE;have EX := Lib.hid eX; have EY := Lib.hid eY; clear eX eY m1 m2
  go_enter Tryz.func84, Tryz.ntmps84
  go_wp2_with fail;refine zA1 fun W hW => ?_;have B0 : Box W w.heap.size [.int .i64 0, .int .u64 0] 129 := by rw [hW]; exact (Box.new rfl).old _
  obtain ⟨d0, d1, B1⟩ : ∃ d0 d1, Box W (w.heap.size + 1) [d0, d1] 129 := ⟨_, _, by rw [hW]; exact Box.new (by simp)⟩;have hw : Below w.heap.size w W := by rw [hW]; go_grown
  clear hW;refine (zE4 _ _ _ _ (ok_w _ _) (ok_w _ _) _).mono ?_;rintro e w1 ⟨rfl, hb1⟩;replace B0 := B0.ee hb1;replace B1 := B1.ee hb1;replace hw := upB hw hb1;obtain ⟨x0', y0', z0', v0'⟩ := B0.f;obtain ⟨x1', y1', z1', v1'⟩ := B1.f;clear hb1;go_wp2_with fail;refine zA1 fun W2 hW => ?_;replace B0 : Box W2 w.heap.size [.int .i64 0, .int .u64 0] 129 := by rw [hW]; exact (B0.set_ne _ _ (by simp)).set_ne _ _ (by simp)
  obtain ⟨d2, d3, B1⟩ : ∃ d0 d1, Box W2 (w.heap.size + 1) [d0, d1] 129 := ⟨_, _, by rw [hW]; exact (B1.set 0 _).set 1 _⟩;replace hw : Below w.heap.size w W2 := by have hl := hw.size; rw [hW]; go_grown
  clear hW x0' y0' z0' v0' x1' y1' z1' v1';refine (zE4 _ _ _ _ (ok_m _) (ok_w _ _) _).mono ?_;rintro e w2 ⟨rfl, hb1⟩;replace B0 := B0.ee hb1;replace B1 := B1.ee hb1;replace hw := upB hw hb1;obtain ⟨x0', y0', z0', v0'⟩ := B0.f;obtain ⟨x1', y1', z1', v1'⟩ := B1.f;clear hb1;go_wp2_with fail;have hl := hw.size;refine bodyPost_ret (by simp [results, Tryz.results84, go_sem, x0']; try rfl) rfl ⟨?_, by go_grown⟩;obtain ⟨q1, q2⟩ := mm_two HH.out;rw [q1, q2]
end Go.Proofs.YtjkfakaehjmnbaaGreat
namespace Go.Proofs.YtjkfakaehjmnbaaGreat
open Go.RowKit Go.Sort
attribute [local go_sem] rOper rAt rUpon cell_set sg_i64 sg_u64 alloc_cell alloc_frozen
attribute [local go_sem 10000] pt_eql pt_neq
attribute [local irreducible] rWalk
def lft (a b c d : Pt) : Int := ht (way d a) * cr (way d b) (way d c) + ht (way d b) * cr (way d c) (way d a) + ht (way d c) * cr (way d a) (way d b)
theorem zGd {p q : Int} (hp : 0 ≤ p ∧ p ≤ 562949886312450) (hq : -562949886312450 ≤ q ∧ q ≤ 562949886312450) : -316912574500061154317695502500 ≤ p * q ∧ p * q ≤ 316912574500061154317695502500 := by
 have h1 : p.natAbs ≤ 562949886312450 := by omega
 have h2 : q.natAbs ≤ 562949886312450 := by omega
 have h3 := Nat.mul_le_mul h1 h2;rw [← Int.natAbs_mul] at h3;generalize p * q = r at *
 omega
def lsr (p m : Pt) : Pt := if cmpP p m < 0 then p else m
def min4 (a b c d : Pt) : Pt := lsr d (lsr c (lsr b a))
def tie (a b c d m : Pt) (o : Int) : Int := if peqI m.x m.y d.x d.y = true then o else if peqI m.x m.y a.x a.y = true then -ori d b c else if peqI m.x m.y b.x b.y = true then -ori a d c else -ori a b d
def circ (a b c d : Pt) : Int :=
 if ori a b c = 0 then 0 else if vld d = false then 0 else if peqI d.x d.y a.x a.y = true then 0 else if peqI d.x d.y b.x b.y = true then 0 else if peqI d.x d.y c.x c.y = true then 0
 else if ¬ sgn (lft a b c d) = 0 then sgn (lft a b c d) else tie a b c d (min4 a b c d) (ori a b c)
theorem sgn_bd (n : Int) : -1 ≤ sgn n ∧ sgn n ≤ 1 := by unfold sgn; split <;> (try split) <;> omega
theorem zC4 (a b c : Pt) : -1 ≤ ori a b c ∧ ori a b c ≤ 1 := by unfold ori; split; exact sgn_bd _; omega
theorem zCl {a b c : Pt} (h : ¬ ori a b c = 0) : vld a = true ∧ vld b = true ∧ vld c = true := by
 unfold ori at h; split at h; assumption; exact absurd rfl h
def lo2 (p q : Pt) : Pt := if cmpP q p < 0 then q else p
def hi2 (p q : Pt) : Pt := if cmpP q p < 0 then p else q
def mil (a b c d : Pt) : Int := if cmpP (lo2 a b) (hi2 c d) < 0 then (if cmpP (lo2 c d) (hi2 a b) < 0 then 3 else 0) else 0
theorem mil_000 (a b c d : Pt) (g1 : decide (cmpP b a < 0) = false) (g2 : decide (cmpP d c < 0) = false) (g3 : decide (cmpP a d < 0) = false) (w : World) :
    Calls Tryz.prog 104 #[.agg #[.int .i64 a.x, .int .i64 a.y], .agg #[.int .i64 b.x, .int .i64 b.y], .agg #[.int .i64 c.x, .int .i64 c.y], .agg #[.int .i64 d.x, .int .i64 d.y]] w fun e w' => e = .returned (.int .i64 0) ∧ Below w.heap.size w w' := by
 have k1 := zAv b a;have k2 := zAv d c;have k3 := zAv a d;generalize cmpP b a = x0 at *
 generalize cmpP d c = x1 at *
 generalize cmpP a d = x2 at *
 go_enter Tryz.func104, Tryz.ntmps104
 go_wp2_with fail;refine zA1 fun W1 hW => ?_;obtain ⟨Ba, Bb, Bc, Bd, hw⟩ := N4 hW;clear hW;refine (k1 _).mono ?_;rintro e w2 ⟨rfl, hb⟩;obtain ⟨Ba, Bb, Bc, Bd, hw, F_abcd⟩ := X4 Ba Bb Bc Bd hw hb;clear hb;go_wp2_with fail;refine (k2 _).mono ?_;rintro e w3 ⟨rfl, hb⟩;clear F_abcd;obtain ⟨Ba, Bb, Bc, Bd, hw, F_abcd⟩ := X4 Ba Bb Bc Bd hw hb;clear hb;go_wp2_with fail;refine (k3 _).mono ?_;rintro e w4 ⟨rfl, hb⟩;clear F_abcd;obtain ⟨Ba, Bb, Bc, Bd, hw, -⟩ := X4 Ba Bb Bc Bd hw hb;clear hb;go_wp2
 go_ret
 exact ⟨rfl, hw⟩
theorem mil_001 (a b c d : Pt) (g1 : decide (cmpP b a < 0) = false) (g2 : decide (cmpP d c < 0) = false) (g3 : decide (cmpP a d < 0) = true) (g4 : decide (cmpP c b < 0) = false) (w : World) :
    Calls Tryz.prog 104 #[.agg #[.int .i64 a.x, .int .i64 a.y], .agg #[.int .i64 b.x, .int .i64 b.y], .agg #[.int .i64 c.x, .int .i64 c.y], .agg #[.int .i64 d.x, .int .i64 d.y]] w fun e w' => e = .returned (.int .i64 0) ∧ Below w.heap.size w w' := by
 have k1 := zAv b a;have k2 := zAv d c;have k3 := zAv a d;have k4 := zAv c b;generalize cmpP b a = x0 at *
 generalize cmpP d c = x1 at *
 generalize cmpP a d = x2 at *
 generalize cmpP c b = x3 at *
 go_enter Tryz.func104, Tryz.ntmps104
 go_wp2_with fail;refine zA1 fun W1 hW => ?_;obtain ⟨Ba, Bb, Bc, Bd, hw⟩ := N4 hW;clear hW;refine (k1 _).mono ?_;rintro e w2 ⟨rfl, hb⟩;obtain ⟨Ba, Bb, Bc, Bd, hw, F_abcd⟩ := X4 Ba Bb Bc Bd hw hb;clear hb;go_wp2_with fail;refine (k2 _).mono ?_;rintro e w3 ⟨rfl, hb⟩;clear F_abcd;obtain ⟨Ba, Bb, Bc, Bd, hw, F_abcd⟩ := X4 Ba Bb Bc Bd hw hb;clear hb;go_wp2_with fail;refine (k3 _).mono ?_;rintro e w4 ⟨rfl, hb⟩;clear F_abcd;obtain ⟨Ba, Bb, Bc, Bd, hw, F_abcd⟩ := X4 Ba Bb Bc Bd hw hb;clear hb;go_wp2_with fail;refine (k4 _).mono ?_;rintro e w5 ⟨rfl, hb⟩;clear F_abcd;obtain ⟨Ba, Bb, Bc, Bd, hw, -⟩ := X4 Ba Bb Bc Bd hw hb;clear hb;go_wp2
 go_ret
 exact ⟨rfl, hw⟩
theorem mil_002 (a b c d : Pt) (g1 : decide (cmpP b a < 0) = false) (g2 : decide (cmpP d c < 0) = false) (g3 : decide (cmpP a d < 0) = true) (g4 : decide (cmpP c b < 0) = true) (w : World) :
    Calls Tryz.prog 104 #[.agg #[.int .i64 a.x, .int .i64 a.y], .agg #[.int .i64 b.x, .int .i64 b.y], .agg #[.int .i64 c.x, .int .i64 c.y], .agg #[.int .i64 d.x, .int .i64 d.y]] w fun e w' => e = .returned (.int .i64 3) ∧ Below w.heap.size w w' := by
 have k1 := zAv b a;have k2 := zAv d c;have k3 := zAv a d;have k4 := zAv c b;generalize cmpP b a = x0 at *
 generalize cmpP d c = x1 at *
 generalize cmpP a d = x2 at *
 generalize cmpP c b = x3 at *
 go_enter Tryz.func104, Tryz.ntmps104
 go_wp2_with fail;refine zA1 fun W1 hW => ?_;obtain ⟨Ba, Bb, Bc, Bd, hw⟩ := N4 hW;clear hW;refine (k1 _).mono ?_;rintro e w2 ⟨rfl, hb⟩;obtain ⟨Ba, Bb, Bc, Bd, hw, F_abcd⟩ := X4 Ba Bb Bc Bd hw hb;clear hb;go_wp2_with fail;refine (k2 _).mono ?_;rintro e w3 ⟨rfl, hb⟩;clear F_abcd;obtain ⟨Ba, Bb, Bc, Bd, hw, F_abcd⟩ := X4 Ba Bb Bc Bd hw hb;clear hb;go_wp2_with fail;refine (k3 _).mono ?_;rintro e w4 ⟨rfl, hb⟩;clear F_abcd;obtain ⟨Ba, Bb, Bc, Bd, hw, F_abcd⟩ := X4 Ba Bb Bc Bd hw hb;clear hb;go_wp2_with fail;refine (k4 _).mono ?_;rintro e w5 ⟨rfl, hb⟩;clear F_abcd;obtain ⟨Ba, Bb, Bc, Bd, hw, -⟩ := X4 Ba Bb Bc Bd hw hb;clear hb;go_wp2
 go_ret
 exact ⟨rfl, hw⟩
theorem mil_010 (a b c d : Pt) (g1 : decide (cmpP b a < 0) = false) (g2 : decide (cmpP d c < 0) = true) (g3 : decide (cmpP a c < 0) = false) (w : World) :
    Calls Tryz.prog 104 #[.agg #[.int .i64 a.x, .int .i64 a.y], .agg #[.int .i64 b.x, .int .i64 b.y], .agg #[.int .i64 c.x, .int .i64 c.y], .agg #[.int .i64 d.x, .int .i64 d.y]] w fun e w' => e = .returned (.int .i64 0) ∧ Below w.heap.size w w' := by
 have k1 := zAv b a;have k2 := zAv d c;have k3 := zAv a c;generalize cmpP b a = x0 at *
 generalize cmpP d c = x1 at *
 generalize cmpP a c = x2 at *
 go_enter Tryz.func104, Tryz.ntmps104
 go_wp2_with fail;refine zA1 fun W1 hW => ?_;obtain ⟨Ba, Bb, Bc, Bd, hw⟩ := N4 hW;clear hW;refine (k1 _).mono ?_;rintro e w2 ⟨rfl, hb⟩;obtain ⟨Ba, Bb, Bc, Bd, hw, F_abcd⟩ := X4 Ba Bb Bc Bd hw hb;clear hb;go_wp2_with fail;refine (k2 _).mono ?_;rintro e w3 ⟨rfl, hb⟩;clear F_abcd;obtain ⟨Ba, Bb, Bc, Bd, hw, F_abcd⟩ := X4 Ba Bb Bc Bd hw hb;clear hb;go_wp2_with fail;refine zA1 fun W4 hW => ?_;have Ca : Box W4 (w.heap.size) [.int .i64 a.x, .int .i64 a.y] 30 := by rw [hW]; exact ((((Ba.set_ne ⟨w.heap.size + 1 + 1, 0, none⟩ (.int .i64 d.x) (by show (w.heap.size + 1 + 1 : Nat) ≠ _; omega)).set_ne ⟨w.heap.size + 1 + 1, 1, none⟩ (.int .i64 d.y) (by show (w.heap.size + 1 + 1 : Nat) ≠ _; omega)).set_ne ⟨w.heap.size + 1 + 1 + 1, 0, none⟩ (.int .i64 c.x) (by show (w.heap.size + 1 + 1 + 1 : Nat) ≠ _; omega)).set_ne ⟨w.heap.size + 1 + 1 + 1, 1, none⟩ (.int .i64 c.y) (by show (w.heap.size + 1 + 1 + 1 : Nat) ≠ _; omega))
 have Cb : Box W4 (w.heap.size + 1) [.int .i64 b.x, .int .i64 b.y] 30 := by rw [hW]; exact ((((Bb.set_ne ⟨w.heap.size + 1 + 1, 0, none⟩ (.int .i64 d.x) (by show (w.heap.size + 1 + 1 : Nat) ≠ _; omega)).set_ne ⟨w.heap.size + 1 + 1, 1, none⟩ (.int .i64 d.y) (by show (w.heap.size + 1 + 1 : Nat) ≠ _; omega)).set_ne ⟨w.heap.size + 1 + 1 + 1, 0, none⟩ (.int .i64 c.x) (by show (w.heap.size + 1 + 1 + 1 : Nat) ≠ _; omega)).set_ne ⟨w.heap.size + 1 + 1 + 1, 1, none⟩ (.int .i64 c.y) (by show (w.heap.size + 1 + 1 + 1 : Nat) ≠ _; omega))
 have Cc : Box W4 (w.heap.size + 1 + 1) [.int .i64 d.x, .int .i64 d.y] 30 := by rw [hW]; exact ((((Bc.set 0 (.int .i64 d.x)).set 1 (.int .i64 d.y)).set_ne ⟨w.heap.size + 1 + 1 + 1, 0, none⟩ (.int .i64 c.x) (by show (w.heap.size + 1 + 1 + 1 : Nat) ≠ _; omega)).set_ne ⟨w.heap.size + 1 + 1 + 1, 1, none⟩ (.int .i64 c.y) (by show (w.heap.size + 1 + 1 + 1 : Nat) ≠ _; omega))
 have Cd : Box W4 (w.heap.size + 1 + 1 + 1) [.int .i64 c.x, .int .i64 c.y] 30 := by rw [hW]; exact ((((Bd.set_ne ⟨w.heap.size + 1 + 1, 0, none⟩ (.int .i64 d.x) (by show (w.heap.size + 1 + 1 : Nat) ≠ _; omega)).set_ne ⟨w.heap.size + 1 + 1, 1, none⟩ (.int .i64 d.y) (by show (w.heap.size + 1 + 1 : Nat) ≠ _; omega)).set 0 (.int .i64 c.x)).set 1 (.int .i64 c.y))
 replace hw : Below w.heap.size w W4 := by have hl := hw.size; rw [hW]; go_grown
 clear F_abcd;clear hW Ba Bb Bc Bd;have Ba := Ca;have Bb := Cb;have Bc := Cc;have Bd := Cd;clear Ca Cb Cc Cd;refine (k3 _).mono ?_;rintro e w5 ⟨rfl, hb⟩;obtain ⟨Ba, Bb, Bc, Bd, hw, -⟩ := X4 Ba Bb Bc Bd hw hb;clear hb;go_wp2
 go_ret
 exact ⟨rfl, hw⟩
theorem mil_011 (a b c d : Pt) (g1 : decide (cmpP b a < 0) = false) (g2 : decide (cmpP d c < 0) = true) (g3 : decide (cmpP a c < 0) = true) (g4 : decide (cmpP d b < 0) = false) (w : World) :
    Calls Tryz.prog 104 #[.agg #[.int .i64 a.x, .int .i64 a.y], .agg #[.int .i64 b.x, .int .i64 b.y], .agg #[.int .i64 c.x, .int .i64 c.y], .agg #[.int .i64 d.x, .int .i64 d.y]] w fun e w' => e = .returned (.int .i64 0) ∧ Below w.heap.size w w' := by
 have k1 := zAv b a;have k2 := zAv d c;have k3 := zAv a c;have k4 := zAv d b;generalize cmpP b a = x0 at *
 generalize cmpP d c = x1 at *
 generalize cmpP a c = x2 at *
 generalize cmpP d b = x3 at *
 go_enter Tryz.func104, Tryz.ntmps104
 go_wp2_with fail;refine zA1 fun W1 hW => ?_;obtain ⟨Ba, Bb, Bc, Bd, hw⟩ := N4 hW;clear hW;refine (k1 _).mono ?_;rintro e w2 ⟨rfl, hb⟩;obtain ⟨Ba, Bb, Bc, Bd, hw, F_abcd⟩ := X4 Ba Bb Bc Bd hw hb;clear hb;go_wp2_with fail;refine (k2 _).mono ?_;rintro e w3 ⟨rfl, hb⟩;clear F_abcd;obtain ⟨Ba, Bb, Bc, Bd, hw, F_abcd⟩ := X4 Ba Bb Bc Bd hw hb;clear hb;go_wp2_with fail;refine zA1 fun W4 hW => ?_;have Ca : Box W4 (w.heap.size) [.int .i64 a.x, .int .i64 a.y] 30 := by rw [hW]; exact ((((Ba.set_ne ⟨w.heap.size + 1 + 1, 0, none⟩ (.int .i64 d.x) (by show (w.heap.size + 1 + 1 : Nat) ≠ _; omega)).set_ne ⟨w.heap.size + 1 + 1, 1, none⟩ (.int .i64 d.y) (by show (w.heap.size + 1 + 1 : Nat) ≠ _; omega)).set_ne ⟨w.heap.size + 1 + 1 + 1, 0, none⟩ (.int .i64 c.x) (by show (w.heap.size + 1 + 1 + 1 : Nat) ≠ _; omega)).set_ne ⟨w.heap.size + 1 + 1 + 1, 1, none⟩ (.int .i64 c.y) (by show (w.heap.size + 1 + 1 + 1 : Nat) ≠ _; omega))
 have Cb : Box W4 (w.heap.size + 1) [.int .i64 b.x, .int .i64 b.y] 30 := by rw [hW]; exact ((((Bb.set_ne ⟨w.heap.size + 1 + 1, 0, none⟩ (.int .i64 d.x) (by show (w.heap.size + 1 + 1 : Nat) ≠ _; omega)).set_ne ⟨w.heap.size + 1 + 1, 1, none⟩ (.int .i64 d.y) (by show (w.heap.size + 1 + 1 : Nat) ≠ _; omega)).set_ne ⟨w.heap.size + 1 + 1 + 1, 0, none⟩ (.int .i64 c.x) (by show (w.heap.size + 1 + 1 + 1 : Nat) ≠ _; omega)).set_ne ⟨w.heap.size + 1 + 1 + 1, 1, none⟩ (.int .i64 c.y) (by show (w.heap.size + 1 + 1 + 1 : Nat) ≠ _; omega))
 have Cc : Box W4 (w.heap.size + 1 + 1) [.int .i64 d.x, .int .i64 d.y] 30 := by rw [hW]; exact ((((Bc.set 0 (.int .i64 d.x)).set 1 (.int .i64 d.y)).set_ne ⟨w.heap.size + 1 + 1 + 1, 0, none⟩ (.int .i64 c.x) (by show (w.heap.size + 1 + 1 + 1 : Nat) ≠ _; omega)).set_ne ⟨w.heap.size + 1 + 1 + 1, 1, none⟩ (.int .i64 c.y) (by show (w.heap.size + 1 + 1 + 1 : Nat) ≠ _; omega))
 have Cd : Box W4 (w.heap.size + 1 + 1 + 1) [.int .i64 c.x, .int .i64 c.y] 30 := by rw [hW]; exact ((((Bd.set_ne ⟨w.heap.size + 1 + 1, 0, none⟩ (.int .i64 d.x) (by show (w.heap.size + 1 + 1 : Nat) ≠ _; omega)).set_ne ⟨w.heap.size + 1 + 1, 1, none⟩ (.int .i64 d.y) (by show (w.heap.size + 1 + 1 : Nat) ≠ _; omega)).set 0 (.int .i64 c.x)).set 1 (.int .i64 c.y))
 replace hw : Below w.heap.size w W4 := by have hl := hw.size; rw [hW]; go_grown
 clear F_abcd;clear hW Ba Bb Bc Bd;have Ba := Ca;have Bb := Cb;have Bc := Cc;have Bd := Cd;clear Ca Cb Cc Cd;refine (k3 _).mono ?_;rintro e w5 ⟨rfl, hb⟩;obtain ⟨Ba, Bb, Bc, Bd, hw, F_abcd⟩ := X4 Ba Bb Bc Bd hw hb;clear hb;go_wp2_with fail;refine (k4 _).mono ?_;rintro e w6 ⟨rfl, hb⟩;clear F_abcd;obtain ⟨Ba, Bb, Bc, Bd, hw, -⟩ := X4 Ba Bb Bc Bd hw hb;clear hb;go_wp2
 go_ret
 exact ⟨rfl, hw⟩
theorem mil_012 (a b c d : Pt) (g1 : decide (cmpP b a < 0) = false) (g2 : decide (cmpP d c < 0) = true) (g3 : decide (cmpP a c < 0) = true) (g4 : decide (cmpP d b < 0) = true) (w : World) :
    Calls Tryz.prog 104 #[.agg #[.int .i64 a.x, .int .i64 a.y], .agg #[.int .i64 b.x, .int .i64 b.y], .agg #[.int .i64 c.x, .int .i64 c.y], .agg #[.int .i64 d.x, .int .i64 d.y]] w fun e w' => e = .returned (.int .i64 3) ∧ Below w.heap.size w w' := by
 have k1 := zAv b a;have k2 := zAv d c;have k3 := zAv a c;have k4 := zAv d b;generalize cmpP b a = x0 at *
 generalize cmpP d c = x1 at *
 generalize cmpP a c = x2 at *
 generalize cmpP d b = x3 at *
 go_enter Tryz.func104, Tryz.ntmps104
 go_wp2_with fail;refine zA1 fun W1 hW => ?_;obtain ⟨Ba, Bb, Bc, Bd, hw⟩ := N4 hW;clear hW;refine (k1 _).mono ?_;rintro e w2 ⟨rfl, hb⟩;obtain ⟨Ba, Bb, Bc, Bd, hw, F_abcd⟩ := X4 Ba Bb Bc Bd hw hb;clear hb;go_wp2_with fail;refine (k2 _).mono ?_;rintro e w3 ⟨rfl, hb⟩;clear F_abcd;obtain ⟨Ba, Bb, Bc, Bd, hw, F_abcd⟩ := X4 Ba Bb Bc Bd hw hb;clear hb;go_wp2_with fail;refine zA1 fun W4 hW => ?_;have Ca : Box W4 (w.heap.size) [.int .i64 a.x, .int .i64 a.y] 30 := by rw [hW]; exact ((((Ba.set_ne ⟨w.heap.size + 1 + 1, 0, none⟩ (.int .i64 d.x) (by show (w.heap.size + 1 + 1 : Nat) ≠ _; omega)).set_ne ⟨w.heap.size + 1 + 1, 1, none⟩ (.int .i64 d.y) (by show (w.heap.size + 1 + 1 : Nat) ≠ _; omega)).set_ne ⟨w.heap.size + 1 + 1 + 1, 0, none⟩ (.int .i64 c.x) (by show (w.heap.size + 1 + 1 + 1 : Nat) ≠ _; omega)).set_ne ⟨w.heap.size + 1 + 1 + 1, 1, none⟩ (.int .i64 c.y) (by show (w.heap.size + 1 + 1 + 1 : Nat) ≠ _; omega))
 have Cb : Box W4 (w.heap.size + 1) [.int .i64 b.x, .int .i64 b.y] 30 := by rw [hW]; exact ((((Bb.set_ne ⟨w.heap.size + 1 + 1, 0, none⟩ (.int .i64 d.x) (by show (w.heap.size + 1 + 1 : Nat) ≠ _; omega)).set_ne ⟨w.heap.size + 1 + 1, 1, none⟩ (.int .i64 d.y) (by show (w.heap.size + 1 + 1 : Nat) ≠ _; omega)).set_ne ⟨w.heap.size + 1 + 1 + 1, 0, none⟩ (.int .i64 c.x) (by show (w.heap.size + 1 + 1 + 1 : Nat) ≠ _; omega)).set_ne ⟨w.heap.size + 1 + 1 + 1, 1, none⟩ (.int .i64 c.y) (by show (w.heap.size + 1 + 1 + 1 : Nat) ≠ _; omega))
 have Cc : Box W4 (w.heap.size + 1 + 1) [.int .i64 d.x, .int .i64 d.y] 30 := by rw [hW]; exact ((((Bc.set 0 (.int .i64 d.x)).set 1 (.int .i64 d.y)).set_ne ⟨w.heap.size + 1 + 1 + 1, 0, none⟩ (.int .i64 c.x) (by show (w.heap.size + 1 + 1 + 1 : Nat) ≠ _; omega)).set_ne ⟨w.heap.size + 1 + 1 + 1, 1, none⟩ (.int .i64 c.y) (by show (w.heap.size + 1 + 1 + 1 : Nat) ≠ _; omega))
 have Cd : Box W4 (w.heap.size + 1 + 1 + 1) [.int .i64 c.x, .int .i64 c.y] 30 := by rw [hW]; exact ((((Bd.set_ne ⟨w.heap.size + 1 + 1, 0, none⟩ (.int .i64 d.x) (by show (w.heap.size + 1 + 1 : Nat) ≠ _; omega)).set_ne ⟨w.heap.size + 1 + 1, 1, none⟩ (.int .i64 d.y) (by show (w.heap.size + 1 + 1 : Nat) ≠ _; omega)).set 0 (.int .i64 c.x)).set 1 (.int .i64 c.y))
 replace hw : Below w.heap.size w W4 := by have hl := hw.size; rw [hW]; go_grown
 clear F_abcd;clear hW Ba Bb Bc Bd;have Ba := Ca;have Bb := Cb;have Bc := Cc;have Bd := Cd;clear Ca Cb Cc Cd;refine (k3 _).mono ?_;rintro e w5 ⟨rfl, hb⟩;obtain ⟨Ba, Bb, Bc, Bd, hw, F_abcd⟩ := X4 Ba Bb Bc Bd hw hb;clear hb;go_wp2_with fail;refine (k4 _).mono ?_;rintro e w6 ⟨rfl, hb⟩;clear F_abcd;obtain ⟨Ba, Bb, Bc, Bd, hw, -⟩ := X4 Ba Bb Bc Bd hw hb;clear hb;go_wp2
 go_ret
 exact ⟨rfl, hw⟩
theorem mil_100 (a b c d : Pt) (g1 : decide (cmpP b a < 0) = true) (g2 : decide (cmpP d c < 0) = false) (g3 : decide (cmpP b d < 0) = false) (w : World) :
    Calls Tryz.prog 104 #[.agg #[.int .i64 a.x, .int .i64 a.y], .agg #[.int .i64 b.x, .int .i64 b.y], .agg #[.int .i64 c.x, .int .i64 c.y], .agg #[.int .i64 d.x, .int .i64 d.y]] w fun e w' => e = .returned (.int .i64 0) ∧ Below w.heap.size w w' := by
 have k1 := zAv b a;have k2 := zAv d c;have k3 := zAv b d;generalize cmpP b a = x0 at *
 generalize cmpP d c = x1 at *
 generalize cmpP b d = x2 at *
 go_enter Tryz.func104, Tryz.ntmps104
 go_wp2_with fail;refine zA1 fun W1 hW => ?_;obtain ⟨Ba, Bb, Bc, Bd, hw⟩ := N4 hW;clear hW;refine (k1 _).mono ?_;rintro e w2 ⟨rfl, hb⟩;obtain ⟨Ba, Bb, Bc, Bd, hw, F_abcd⟩ := X4 Ba Bb Bc Bd hw hb;clear hb;go_wp2_with fail;refine zA1 fun W3 hW => ?_;have Ca : Box W3 (w.heap.size) [.int .i64 b.x, .int .i64 b.y] 30 := by rw [hW]; exact ((((Ba.set 0 (.int .i64 b.x)).set 1 (.int .i64 b.y)).set_ne ⟨w.heap.size + 1, 0, none⟩ (.int .i64 a.x) (by show (w.heap.size + 1 : Nat) ≠ _; omega)).set_ne ⟨w.heap.size + 1, 1, none⟩ (.int .i64 a.y) (by show (w.heap.size + 1 : Nat) ≠ _; omega))
 have Cb : Box W3 (w.heap.size + 1) [.int .i64 a.x, .int .i64 a.y] 30 := by rw [hW]; exact ((((Bb.set_ne ⟨w.heap.size, 0, none⟩ (.int .i64 b.x) (by show (w.heap.size : Nat) ≠ _; omega)).set_ne ⟨w.heap.size, 1, none⟩ (.int .i64 b.y) (by show (w.heap.size : Nat) ≠ _; omega)).set 0 (.int .i64 a.x)).set 1 (.int .i64 a.y))
 have Cc : Box W3 (w.heap.size + 1 + 1) [.int .i64 c.x, .int .i64 c.y] 30 := by rw [hW]; exact ((((Bc.set_ne ⟨w.heap.size, 0, none⟩ (.int .i64 b.x) (by show (w.heap.size : Nat) ≠ _; omega)).set_ne ⟨w.heap.size, 1, none⟩ (.int .i64 b.y) (by show (w.heap.size : Nat) ≠ _; omega)).set_ne ⟨w.heap.size + 1, 0, none⟩ (.int .i64 a.x) (by show (w.heap.size + 1 : Nat) ≠ _; omega)).set_ne ⟨w.heap.size + 1, 1, none⟩ (.int .i64 a.y) (by show (w.heap.size + 1 : Nat) ≠ _; omega))
 have Cd : Box W3 (w.heap.size + 1 + 1 + 1) [.int .i64 d.x, .int .i64 d.y] 30 := by rw [hW]; exact ((((Bd.set_ne ⟨w.heap.size, 0, none⟩ (.int .i64 b.x) (by show (w.heap.size : Nat) ≠ _; omega)).set_ne ⟨w.heap.size, 1, none⟩ (.int .i64 b.y) (by show (w.heap.size : Nat) ≠ _; omega)).set_ne ⟨w.heap.size + 1, 0, none⟩ (.int .i64 a.x) (by show (w.heap.size + 1 : Nat) ≠ _; omega)).set_ne ⟨w.heap.size + 1, 1, none⟩ (.int .i64 a.y) (by show (w.heap.size + 1 : Nat) ≠ _; omega))
 replace hw : Below w.heap.size w W3 := by have hl := hw.size; rw [hW]; go_grown
 clear F_abcd;clear hW Ba Bb Bc Bd;have Ba := Ca;have Bb := Cb;have Bc := Cc;have Bd := Cd;clear Ca Cb Cc Cd;refine (k2 _).mono ?_;rintro e w4 ⟨rfl, hb⟩;obtain ⟨Ba, Bb, Bc, Bd, hw, F_abcd⟩ := X4 Ba Bb Bc Bd hw hb;clear hb;go_wp2_with fail;refine (k3 _).mono ?_;rintro e w5 ⟨rfl, hb⟩;clear F_abcd;obtain ⟨Ba, Bb, Bc, Bd, hw, -⟩ := X4 Ba Bb Bc Bd hw hb;clear hb;go_wp2
 go_ret
 exact ⟨rfl, hw⟩
theorem mil_101 (a b c d : Pt) (g1 : decide (cmpP b a < 0) = true) (g2 : decide (cmpP d c < 0) = false) (g3 : decide (cmpP b d < 0) = true) (g4 : decide (cmpP c a < 0) = false) (w : World) :
    Calls Tryz.prog 104 #[.agg #[.int .i64 a.x, .int .i64 a.y], .agg #[.int .i64 b.x, .int .i64 b.y], .agg #[.int .i64 c.x, .int .i64 c.y], .agg #[.int .i64 d.x, .int .i64 d.y]] w fun e w' => e = .returned (.int .i64 0) ∧ Below w.heap.size w w' := by
 have k1 := zAv b a;have k2 := zAv d c;have k3 := zAv b d;have k4 := zAv c a;generalize cmpP b a = x0 at *
 generalize cmpP d c = x1 at *
 generalize cmpP b d = x2 at *
 generalize cmpP c a = x3 at *
 go_enter Tryz.func104, Tryz.ntmps104
 go_wp2_with fail;refine zA1 fun W1 hW => ?_;obtain ⟨Ba, Bb, Bc, Bd, hw⟩ := N4 hW;clear hW;refine (k1 _).mono ?_;rintro e w2 ⟨rfl, hb⟩;obtain ⟨Ba, Bb, Bc, Bd, hw, F_abcd⟩ := X4 Ba Bb Bc Bd hw hb;clear hb;go_wp2_with fail;refine zA1 fun W3 hW => ?_;have Ca : Box W3 (w.heap.size) [.int .i64 b.x, .int .i64 b.y] 30 := by rw [hW]; exact ((((Ba.set 0 (.int .i64 b.x)).set 1 (.int .i64 b.y)).set_ne ⟨w.heap.size + 1, 0, none⟩ (.int .i64 a.x) (by show (w.heap.size + 1 : Nat) ≠ _; omega)).set_ne ⟨w.heap.size + 1, 1, none⟩ (.int .i64 a.y) (by show (w.heap.size + 1 : Nat) ≠ _; omega))
 have Cb : Box W3 (w.heap.size + 1) [.int .i64 a.x, .int .i64 a.y] 30 := by rw [hW]; exact ((((Bb.set_ne ⟨w.heap.size, 0, none⟩ (.int .i64 b.x) (by show (w.heap.size : Nat) ≠ _; omega)).set_ne ⟨w.heap.size, 1, none⟩ (.int .i64 b.y) (by show (w.heap.size : Nat) ≠ _; omega)).set 0 (.int .i64 a.x)).set 1 (.int .i64 a.y))
 have Cc : Box W3 (w.heap.size + 1 + 1) [.int .i64 c.x, .int .i64 c.y] 30 := by rw [hW]; exact ((((Bc.set_ne ⟨w.heap.size, 0, none⟩ (.int .i64 b.x) (by show (w.heap.size : Nat) ≠ _; omega)).set_ne ⟨w.heap.size, 1, none⟩ (.int .i64 b.y) (by show (w.heap.size : Nat) ≠ _; omega)).set_ne ⟨w.heap.size + 1, 0, none⟩ (.int .i64 a.x) (by show (w.heap.size + 1 : Nat) ≠ _; omega)).set_ne ⟨w.heap.size + 1, 1, none⟩ (.int .i64 a.y) (by show (w.heap.size + 1 : Nat) ≠ _; omega))
 have Cd : Box W3 (w.heap.size + 1 + 1 + 1) [.int .i64 d.x, .int .i64 d.y] 30 := by rw [hW]; exact ((((Bd.set_ne ⟨w.heap.size, 0, none⟩ (.int .i64 b.x) (by show (w.heap.size : Nat) ≠ _; omega)).set_ne ⟨w.heap.size, 1, none⟩ (.int .i64 b.y) (by show (w.heap.size : Nat) ≠ _; omega)).set_ne ⟨w.heap.size + 1, 0, none⟩ (.int .i64 a.x) (by show (w.heap.size + 1 : Nat) ≠ _; omega)).set_ne ⟨w.heap.size + 1, 1, none⟩ (.int .i64 a.y) (by show (w.heap.size + 1 : Nat) ≠ _; omega))
 replace hw : Below w.heap.size w W3 := by have hl := hw.size; rw [hW]; go_grown
 clear F_abcd;clear hW Ba Bb Bc Bd;have Ba := Ca;have Bb := Cb;have Bc := Cc;have Bd := Cd;clear Ca Cb Cc Cd;refine (k2 _).mono ?_;rintro e w4 ⟨rfl, hb⟩;obtain ⟨Ba, Bb, Bc, Bd, hw, F_abcd⟩ := X4 Ba Bb Bc Bd hw hb;clear hb;go_wp2_with fail;refine (k3 _).mono ?_;rintro e w5 ⟨rfl, hb⟩;clear F_abcd;obtain ⟨Ba, Bb, Bc, Bd, hw, F_abcd⟩ := X4 Ba Bb Bc Bd hw hb;clear hb;go_wp2_with fail;refine (k4 _).mono ?_;rintro e w6 ⟨rfl, hb⟩;clear F_abcd;obtain ⟨Ba, Bb, Bc, Bd, hw, -⟩ := X4 Ba Bb Bc Bd hw hb;clear hb;go_wp2
 go_ret
 exact ⟨rfl, hw⟩
theorem mil_102 (a b c d : Pt) (g1 : decide (cmpP b a < 0) = true) (g2 : decide (cmpP d c < 0) = false) (g3 : decide (cmpP b d < 0) = true) (g4 : decide (cmpP c a < 0) = true) (w : World) :
    Calls Tryz.prog 104 #[.agg #[.int .i64 a.x, .int .i64 a.y], .agg #[.int .i64 b.x, .int .i64 b.y], .agg #[.int .i64 c.x, .int .i64 c.y], .agg #[.int .i64 d.x, .int .i64 d.y]] w fun e w' => e = .returned (.int .i64 3) ∧ Below w.heap.size w w' := by
 have k1 := zAv b a;have k2 := zAv d c;have k3 := zAv b d;have k4 := zAv c a;generalize cmpP b a = x0 at *
 generalize cmpP d c = x1 at *
 generalize cmpP b d = x2 at *
 generalize cmpP c a = x3 at *
 go_enter Tryz.func104, Tryz.ntmps104
 go_wp2_with fail;refine zA1 fun W1 hW => ?_;obtain ⟨Ba, Bb, Bc, Bd, hw⟩ := N4 hW;clear hW;refine (k1 _).mono ?_;rintro e w2 ⟨rfl, hb⟩;obtain ⟨Ba, Bb, Bc, Bd, hw, F_abcd⟩ := X4 Ba Bb Bc Bd hw hb;clear hb;go_wp2_with fail;refine zA1 fun W3 hW => ?_;have Ca : Box W3 (w.heap.size) [.int .i64 b.x, .int .i64 b.y] 30 := by rw [hW]; exact ((((Ba.set 0 (.int .i64 b.x)).set 1 (.int .i64 b.y)).set_ne ⟨w.heap.size + 1, 0, none⟩ (.int .i64 a.x) (by show (w.heap.size + 1 : Nat) ≠ _; omega)).set_ne ⟨w.heap.size + 1, 1, none⟩ (.int .i64 a.y) (by show (w.heap.size + 1 : Nat) ≠ _; omega))
 have Cb : Box W3 (w.heap.size + 1) [.int .i64 a.x, .int .i64 a.y] 30 := by rw [hW]; exact ((((Bb.set_ne ⟨w.heap.size, 0, none⟩ (.int .i64 b.x) (by show (w.heap.size : Nat) ≠ _; omega)).set_ne ⟨w.heap.size, 1, none⟩ (.int .i64 b.y) (by show (w.heap.size : Nat) ≠ _; omega)).set 0 (.int .i64 a.x)).set 1 (.int .i64 a.y))
 have Cc : Box W3 (w.heap.size + 1 + 1) [.int .i64 c.x, .int .i64 c.y] 30 := by rw [hW]; exact ((((Bc.set_ne ⟨w.heap.size, 0, none⟩ (.int .i64 b.x) (by show (w.heap.size : Nat) ≠ _; omega)).set_ne ⟨w.heap.size, 1, none⟩ (.int .i64 b.y) (by show (w.heap.size : Nat) ≠ _; omega)).set_ne ⟨w.heap.size + 1, 0, none⟩ (.int .i64 a.x) (by show (w.heap.size + 1 : Nat) ≠ _; omega)).set_ne ⟨w.heap.size + 1, 1, none⟩ (.int .i64 a.y) (by show (w.heap.size + 1 : Nat) ≠ _; omega))
 have Cd : Box W3 (w.heap.size + 1 + 1 + 1) [.int .i64 d.x, .int .i64 d.y] 30 := by rw [hW]; exact ((((Bd.set_ne ⟨w.heap.size, 0, none⟩ (.int .i64 b.x) (by show (w.heap.size : Nat) ≠ _; omega)).set_ne ⟨w.heap.size, 1, none⟩ (.int .i64 b.y) (by show (w.heap.size : Nat) ≠ _; omega)).set_ne ⟨w.heap.size + 1, 0, none⟩ (.int .i64 a.x) (by show (w.heap.size + 1 : Nat) ≠ _; omega)).set_ne ⟨w.heap.size + 1, 1, none⟩ (.int .i64 a.y) (by show (w.heap.size + 1 : Nat) ≠ _; omega))
 replace hw : Below w.heap.size w W3 := by have hl := hw.size; rw [hW]; go_grown
 clear F_abcd;clear hW Ba Bb Bc Bd;have Ba := Ca;have Bb := Cb;have Bc := Cc;have Bd := Cd;clear Ca Cb Cc Cd;refine (k2 _).mono ?_;rintro e w4 ⟨rfl, hb⟩;obtain ⟨Ba, Bb, Bc, Bd, hw, F_abcd⟩ := X4 Ba Bb Bc Bd hw hb;clear hb;go_wp2_with fail;refine (k3 _).mono ?_;rintro e w5 ⟨rfl, hb⟩;clear F_abcd;obtain ⟨Ba, Bb, Bc, Bd, hw, F_abcd⟩ := X4 Ba Bb Bc Bd hw hb;clear hb;go_wp2_with fail;refine (k4 _).mono ?_;rintro e w6 ⟨rfl, hb⟩;clear F_abcd;obtain ⟨Ba, Bb, Bc, Bd, hw, -⟩ := X4 Ba Bb Bc Bd hw hb;clear hb;go_wp2
 go_ret
 exact ⟨rfl, hw⟩
theorem mil_110 (a b c d : Pt) (g1 : decide (cmpP b a < 0) = true) (g2 : decide (cmpP d c < 0) = true) (g3 : decide (cmpP b c < 0) = false) (w : World) :
    Calls Tryz.prog 104 #[.agg #[.int .i64 a.x, .int .i64 a.y], .agg #[.int .i64 b.x, .int .i64 b.y], .agg #[.int .i64 c.x, .int .i64 c.y], .agg #[.int .i64 d.x, .int .i64 d.y]] w fun e w' => e = .returned (.int .i64 0) ∧ Below w.heap.size w w' := by
 have k1 := zAv b a;have k2 := zAv d c;have k3 := zAv b c;generalize cmpP b a = x0 at *
 generalize cmpP d c = x1 at *
 generalize cmpP b c = x2 at *
 go_enter Tryz.func104, Tryz.ntmps104
 go_wp2_with fail;refine zA1 fun W1 hW => ?_;obtain ⟨Ba, Bb, Bc, Bd, hw⟩ := N4 hW;clear hW;refine (k1 _).mono ?_;rintro e w2 ⟨rfl, hb⟩;obtain ⟨Ba, Bb, Bc, Bd, hw, F_abcd⟩ := X4 Ba Bb Bc Bd hw hb;clear hb;go_wp2_with fail;refine zA1 fun W3 hW => ?_;have Ca : Box W3 (w.heap.size) [.int .i64 b.x, .int .i64 b.y] 30 := by rw [hW]; exact ((((Ba.set 0 (.int .i64 b.x)).set 1 (.int .i64 b.y)).set_ne ⟨w.heap.size + 1, 0, none⟩ (.int .i64 a.x) (by show (w.heap.size + 1 : Nat) ≠ _; omega)).set_ne ⟨w.heap.size + 1, 1, none⟩ (.int .i64 a.y) (by show (w.heap.size + 1 : Nat) ≠ _; omega))
 have Cb : Box W3 (w.heap.size + 1) [.int .i64 a.x, .int .i64 a.y] 30 := by rw [hW]; exact ((((Bb.set_ne ⟨w.heap.size, 0, none⟩ (.int .i64 b.x) (by show (w.heap.size : Nat) ≠ _; omega)).set_ne ⟨w.heap.size, 1, none⟩ (.int .i64 b.y) (by show (w.heap.size : Nat) ≠ _; omega)).set 0 (.int .i64 a.x)).set 1 (.int .i64 a.y))
 have Cc : Box W3 (w.heap.size + 1 + 1) [.int .i64 c.x, .int .i64 c.y] 30 := by rw [hW]; exact ((((Bc.set_ne ⟨w.heap.size, 0, none⟩ (.int .i64 b.x) (by show (w.heap.size : Nat) ≠ _; omega)).set_ne ⟨w.heap.size, 1, none⟩ (.int .i64 b.y) (by show (w.heap.size : Nat) ≠ _; omega)).set_ne ⟨w.heap.size + 1, 0, none⟩ (.int .i64 a.x) (by show (w.heap.size + 1 : Nat) ≠ _; omega)).set_ne ⟨w.heap.size + 1, 1, none⟩ (.int .i64 a.y) (by show (w.heap.size + 1 : Nat) ≠ _; omega))
 have Cd : Box W3 (w.heap.size + 1 + 1 + 1) [.int .i64 d.x, .int .i64 d.y] 30 := by rw [hW]; exact ((((Bd.set_ne ⟨w.heap.size, 0, none⟩ (.int .i64 b.x) (by show (w.heap.size : Nat) ≠ _; omega)).set_ne ⟨w.heap.size, 1, none⟩ (.int .i64 b.y) (by show (w.heap.size : Nat) ≠ _; omega)).set_ne ⟨w.heap.size + 1, 0, none⟩ (.int .i64 a.x) (by show (w.heap.size + 1 : Nat) ≠ _; omega)).set_ne ⟨w.heap.size + 1, 1, none⟩ (.int .i64 a.y) (by show (w.heap.size + 1 : Nat) ≠ _; omega))
 replace hw : Below w.heap.size w W3 := by have hl := hw.size; rw [hW]; go_grown
 clear F_abcd;clear hW Ba Bb Bc Bd;have Ba := Ca;have Bb := Cb;have Bc := Cc;have Bd := Cd;clear Ca Cb Cc Cd;refine (k2 _).mono ?_;rintro e w4 ⟨rfl, hb⟩;obtain ⟨Ba, Bb, Bc, Bd, hw, F_abcd⟩ := X4 Ba Bb Bc Bd hw hb;clear hb;go_wp2_with fail;refine zA1 fun W5 hW => ?_;have Ca : Box W5 (w.heap.size) [.int .i64 b.x, .int .i64 b.y] 30 := by rw [hW]; exact ((((Ba.set_ne ⟨w.heap.size + 1 + 1, 0, none⟩ (.int .i64 d.x) (by show (w.heap.size + 1 + 1 : Nat) ≠ _; omega)).set_ne ⟨w.heap.size + 1 + 1, 1, none⟩ (.int .i64 d.y) (by show (w.heap.size + 1 + 1 : Nat) ≠ _; omega)).set_ne ⟨w.heap.size + 1 + 1 + 1, 0, none⟩ (.int .i64 c.x) (by show (w.heap.size + 1 + 1 + 1 : Nat) ≠ _; omega)).set_ne ⟨w.heap.size + 1 + 1 + 1, 1, none⟩ (.int .i64 c.y) (by show (w.heap.size + 1 + 1 + 1 : Nat) ≠ _; omega))
 have Cb : Box W5 (w.heap.size + 1) [.int .i64 a.x, .int .i64 a.y] 30 := by rw [hW]; exact ((((Bb.set_ne ⟨w.heap.size + 1 + 1, 0, none⟩ (.int .i64 d.x) (by show (w.heap.size + 1 + 1 : Nat) ≠ _; omega)).set_ne ⟨w.heap.size + 1 + 1, 1, none⟩ (.int .i64 d.y) (by show (w.heap.size + 1 + 1 : Nat) ≠ _; omega)).set_ne ⟨w.heap.size + 1 + 1 + 1, 0, none⟩ (.int .i64 c.x) (by show (w.heap.size + 1 + 1 + 1 : Nat) ≠ _; omega)).set_ne ⟨w.heap.size + 1 + 1 + 1, 1, none⟩ (.int .i64 c.y) (by show (w.heap.size + 1 + 1 + 1 : Nat) ≠ _; omega))
 have Cc : Box W5 (w.heap.size + 1 + 1) [.int .i64 d.x, .int .i64 d.y] 30 := by rw [hW]; exact ((((Bc.set 0 (.int .i64 d.x)).set 1 (.int .i64 d.y)).set_ne ⟨w.heap.size + 1 + 1 + 1, 0, none⟩ (.int .i64 c.x) (by show (w.heap.size + 1 + 1 + 1 : Nat) ≠ _; omega)).set_ne ⟨w.heap.size + 1 + 1 + 1, 1, none⟩ (.int .i64 c.y) (by show (w.heap.size + 1 + 1 + 1 : Nat) ≠ _; omega))
 have Cd : Box W5 (w.heap.size + 1 + 1 + 1) [.int .i64 c.x, .int .i64 c.y] 30 := by rw [hW]; exact ((((Bd.set_ne ⟨w.heap.size + 1 + 1, 0, none⟩ (.int .i64 d.x) (by show (w.heap.size + 1 + 1 : Nat) ≠ _; omega)).set_ne ⟨w.heap.size + 1 + 1, 1, none⟩ (.int .i64 d.y) (by show (w.heap.size + 1 + 1 : Nat) ≠ _; omega)).set 0 (.int .i64 c.x)).set 1 (.int .i64 c.y))
 replace hw : Below w.heap.size w W5 := by have hl := hw.size; rw [hW]; go_grown
 clear F_abcd;clear hW Ba Bb Bc Bd;have Ba := Ca;have Bb := Cb;have Bc := Cc;have Bd := Cd;clear Ca Cb Cc Cd;refine (k3 _).mono ?_;rintro e w6 ⟨rfl, hb⟩;obtain ⟨Ba, Bb, Bc, Bd, hw, -⟩ := X4 Ba Bb Bc Bd hw hb;clear hb;go_wp2
 go_ret
 exact ⟨rfl, hw⟩
theorem mil_111 (a b c d : Pt) (g1 : decide (cmpP b a < 0) = true) (g2 : decide (cmpP d c < 0) = true) (g3 : decide (cmpP b c < 0) = true) (g4 : decide (cmpP d a < 0) = false) (w : World) :
    Calls Tryz.prog 104 #[.agg #[.int .i64 a.x, .int .i64 a.y], .agg #[.int .i64 b.x, .int .i64 b.y], .agg #[.int .i64 c.x, .int .i64 c.y], .agg #[.int .i64 d.x, .int .i64 d.y]] w fun e w' => e = .returned (.int .i64 0) ∧ Below w.heap.size w w' := by
 have k1 := zAv b a;have k2 := zAv d c;have k3 := zAv b c;have k4 := zAv d a;generalize cmpP b a = x0 at *
 generalize cmpP d c = x1 at *
 generalize cmpP b c = x2 at *
 generalize cmpP d a = x3 at *
 go_enter Tryz.func104, Tryz.ntmps104
 go_wp2_with fail;refine zA1 fun W1 hW => ?_;obtain ⟨Ba, Bb, Bc, Bd, hw⟩ := N4 hW;clear hW;refine (k1 _).mono ?_;rintro e w2 ⟨rfl, hb⟩;obtain ⟨Ba, Bb, Bc, Bd, hw, F_abcd⟩ := X4 Ba Bb Bc Bd hw hb;clear hb;go_wp2_with fail;refine zA1 fun W3 hW => ?_;have Ca : Box W3 (w.heap.size) [.int .i64 b.x, .int .i64 b.y] 30 := by rw [hW]; exact ((((Ba.set 0 (.int .i64 b.x)).set 1 (.int .i64 b.y)).set_ne ⟨w.heap.size + 1, 0, none⟩ (.int .i64 a.x) (by show (w.heap.size + 1 : Nat) ≠ _; omega)).set_ne ⟨w.heap.size + 1, 1, none⟩ (.int .i64 a.y) (by show (w.heap.size + 1 : Nat) ≠ _; omega))
 have Cb : Box W3 (w.heap.size + 1) [.int .i64 a.x, .int .i64 a.y] 30 := by rw [hW]; exact ((((Bb.set_ne ⟨w.heap.size, 0, none⟩ (.int .i64 b.x) (by show (w.heap.size : Nat) ≠ _; omega)).set_ne ⟨w.heap.size, 1, none⟩ (.int .i64 b.y) (by show (w.heap.size : Nat) ≠ _; omega)).set 0 (.int .i64 a.x)).set 1 (.int .i64 a.y))
 have Cc : Box W3 (w.heap.size + 1 + 1) [.int .i64 c.x, .int .i64 c.y] 30 := by rw [hW]; exact ((((Bc.set_ne ⟨w.heap.size, 0, none⟩ (.int .i64 b.x) (by show (w.heap.size : Nat) ≠ _; omega)).set_ne ⟨w.heap.size, 1, none⟩ (.int .i64 b.y) (by show (w.heap.size : Nat) ≠ _; omega)).set_ne ⟨w.heap.size + 1, 0, none⟩ (.int .i64 a.x) (by show (w.heap.size + 1 : Nat) ≠ _; omega)).set_ne ⟨w.heap.size + 1, 1, none⟩ (.int .i64 a.y) (by show (w.heap.size + 1 : Nat) ≠ _; omega))
 have Cd : Box W3 (w.heap.size + 1 + 1 + 1) [.int .i64 d.x, .int .i64 d.y] 30 := by rw [hW]; exact ((((Bd.set_ne ⟨w.heap.size, 0, none⟩ (.int .i64 b.x) (by show (w.heap.size : Nat) ≠ _; omega)).set_ne ⟨w.heap.size, 1, none⟩ (.int .i64 b.y) (by show (w.heap.size : Nat) ≠ _; omega)).set_ne ⟨w.heap.size + 1, 0, none⟩ (.int .i64 a.x) (by show (w.heap.size + 1 : Nat) ≠ _; omega)).set_ne ⟨w.heap.size + 1, 1, none⟩ (.int .i64 a.y) (by show (w.heap.size + 1 : Nat) ≠ _; omega))
 replace hw : Below w.heap.size w W3 := by have hl := hw.size; rw [hW]; go_grown
 clear F_abcd;clear hW Ba Bb Bc Bd;have Ba := Ca;have Bb := Cb;have Bc := Cc;have Bd := Cd;clear Ca Cb Cc Cd;refine (k2 _).mono ?_;rintro e w4 ⟨rfl, hb⟩;obtain ⟨Ba, Bb, Bc, Bd, hw, F_abcd⟩ := X4 Ba Bb Bc Bd hw hb;clear hb;go_wp2_with fail;refine zA1 fun W5 hW => ?_;have Ca : Box W5 (w.heap.size) [.int .i64 b.x, .int .i64 b.y] 30 := by rw [hW]; exact ((((Ba.set_ne ⟨w.heap.size + 1 + 1, 0, none⟩ (.int .i64 d.x) (by show (w.heap.size + 1 + 1 : Nat) ≠ _; omega)).set_ne ⟨w.heap.size + 1 + 1, 1, none⟩ (.int .i64 d.y) (by show (w.heap.size + 1 + 1 : Nat) ≠ _; omega)).set_ne ⟨w.heap.size + 1 + 1 + 1, 0, none⟩ (.int .i64 c.x) (by show (w.heap.size + 1 + 1 + 1 : Nat) ≠ _; omega)).set_ne ⟨w.heap.size + 1 + 1 + 1, 1, none⟩ (.int .i64 c.y) (by show (w.heap.size + 1 + 1 + 1 : Nat) ≠ _; omega))
 have Cb : Box W5 (w.heap.size + 1) [.int .i64 a.x, .int .i64 a.y] 30 := by rw [hW]; exact ((((Bb.set_ne ⟨w.heap.size + 1 + 1, 0, none⟩ (.int .i64 d.x) (by show (w.heap.size + 1 + 1 : Nat) ≠ _; omega)).set_ne ⟨w.heap.size + 1 + 1, 1, none⟩ (.int .i64 d.y) (by show (w.heap.size + 1 + 1 : Nat) ≠ _; omega)).set_ne ⟨w.heap.size + 1 + 1 + 1, 0, none⟩ (.int .i64 c.x) (by show (w.heap.size + 1 + 1 + 1 : Nat) ≠ _; omega)).set_ne ⟨w.heap.size + 1 + 1 + 1, 1, none⟩ (.int .i64 c.y) (by show (w.heap.size + 1 + 1 + 1 : Nat) ≠ _; omega))
 have Cc : Box W5 (w.heap.size + 1 + 1) [.int .i64 d.x, .int .i64 d.y] 30 := by rw [hW]; exact ((((Bc.set 0 (.int .i64 d.x)).set 1 (.int .i64 d.y)).set_ne ⟨w.heap.size + 1 + 1 + 1, 0, none⟩ (.int .i64 c.x) (by show (w.heap.size + 1 + 1 + 1 : Nat) ≠ _; omega)).set_ne ⟨w.heap.size + 1 + 1 + 1, 1, none⟩ (.int .i64 c.y) (by show (w.heap.size + 1 + 1 + 1 : Nat) ≠ _; omega))
 have Cd : Box W5 (w.heap.size + 1 + 1 + 1) [.int .i64 c.x, .int .i64 c.y] 30 := by rw [hW]; exact ((((Bd.set_ne ⟨w.heap.size + 1 + 1, 0, none⟩ (.int .i64 d.x) (by show (w.heap.size + 1 + 1 : Nat) ≠ _; omega)).set_ne ⟨w.heap.size + 1 + 1, 1, none⟩ (.int .i64 d.y) (by show (w.heap.size + 1 + 1 : Nat) ≠ _; omega)).set 0 (.int .i64 c.x)).set 1 (.int .i64 c.y))
 replace hw : Below w.heap.size w W5 := by have hl := hw.size; rw [hW]; go_grown
 clear F_abcd;clear hW Ba Bb Bc Bd;have Ba := Ca;have Bb := Cb;have Bc := Cc;have Bd := Cd;clear Ca Cb Cc Cd;refine (k3 _).mono ?_;rintro e w6 ⟨rfl, hb⟩;obtain ⟨Ba, Bb, Bc, Bd, hw, F_abcd⟩ := X4 Ba Bb Bc Bd hw hb;clear hb;go_wp2_with fail;refine (k4 _).mono ?_;rintro e w7 ⟨rfl, hb⟩;clear F_abcd;obtain ⟨Ba, Bb, Bc, Bd, hw, -⟩ := X4 Ba Bb Bc Bd hw hb;clear hb;go_wp2
 go_ret
 exact ⟨rfl, hw⟩
theorem mil_112 (a b c d : Pt) (g1 : decide (cmpP b a < 0) = true) (g2 : decide (cmpP d c < 0) = true) (g3 : decide (cmpP b c < 0) = true) (g4 : decide (cmpP d a < 0) = true) (w : World) :
    Calls Tryz.prog 104 #[.agg #[.int .i64 a.x, .int .i64 a.y], .agg #[.int .i64 b.x, .int .i64 b.y], .agg #[.int .i64 c.x, .int .i64 c.y], .agg #[.int .i64 d.x, .int .i64 d.y]] w fun e w' => e = .returned (.int .i64 3) ∧ Below w.heap.size w w' := by
 have k1 := zAv b a;have k2 := zAv d c;have k3 := zAv b c;have k4 := zAv d a;generalize cmpP b a = x0 at *
 generalize cmpP d c = x1 at *
 generalize cmpP b c = x2 at *
 generalize cmpP d a = x3 at *
 go_enter Tryz.func104, Tryz.ntmps104
 go_wp2_with fail;refine zA1 fun W1 hW => ?_;obtain ⟨Ba, Bb, Bc, Bd, hw⟩ := N4 hW;clear hW;refine (k1 _).mono ?_;rintro e w2 ⟨rfl, hb⟩;obtain ⟨Ba, Bb, Bc, Bd, hw, F_abcd⟩ := X4 Ba Bb Bc Bd hw hb;clear hb;go_wp2_with fail;refine zA1 fun W3 hW => ?_;have Ca : Box W3 (w.heap.size) [.int .i64 b.x, .int .i64 b.y] 30 := by rw [hW]; exact ((((Ba.set 0 (.int .i64 b.x)).set 1 (.int .i64 b.y)).set_ne ⟨w.heap.size + 1, 0, none⟩ (.int .i64 a.x) (by show (w.heap.size + 1 : Nat) ≠ _; omega)).set_ne ⟨w.heap.size + 1, 1, none⟩ (.int .i64 a.y) (by show (w.heap.size + 1 : Nat) ≠ _; omega))
 have Cb : Box W3 (w.heap.size + 1) [.int .i64 a.x, .int .i64 a.y] 30 := by rw [hW]; exact ((((Bb.set_ne ⟨w.heap.size, 0, none⟩ (.int .i64 b.x) (by show (w.heap.size : Nat) ≠ _; omega)).set_ne ⟨w.heap.size, 1, none⟩ (.int .i64 b.y) (by show (w.heap.size : Nat) ≠ _; omega)).set 0 (.int .i64 a.x)).set 1 (.int .i64 a.y))
 have Cc : Box W3 (w.heap.size + 1 + 1) [.int .i64 c.x, .int .i64 c.y] 30 := by rw [hW]; exact ((((Bc.set_ne ⟨w.heap.size, 0, none⟩ (.int .i64 b.x) (by show (w.heap.size : Nat) ≠ _; omega)).set_ne ⟨w.heap.size, 1, none⟩ (.int .i64 b.y) (by show (w.heap.size : Nat) ≠ _; omega)).set_ne ⟨w.heap.size + 1, 0, none⟩ (.int .i64 a.x) (by show (w.heap.size + 1 : Nat) ≠ _; omega)).set_ne ⟨w.heap.size + 1, 1, none⟩ (.int .i64 a.y) (by show (w.heap.size + 1 : Nat) ≠ _; omega))
 have Cd : Box W3 (w.heap.size + 1 + 1 + 1) [.int .i64 d.x, .int .i64 d.y] 30 := by rw [hW]; exact ((((Bd.set_ne ⟨w.heap.size, 0, none⟩ (.int .i64 b.x) (by show (w.heap.size : Nat) ≠ _; omega)).set_ne ⟨w.heap.size, 1, none⟩ (.int .i64 b.y) (by show (w.heap.size : Nat) ≠ _; omega)).set_ne ⟨w.heap.size + 1, 0, none⟩ (.int .i64 a.x) (by show (w.heap.size + 1 : Nat) ≠ _; omega)).set_ne ⟨w.heap.size + 1, 1, none⟩ (.int .i64 a.y) (by show (w.heap.size + 1 : Nat) ≠ _; omega))
 replace hw : Below w.heap.size w W3 := by have hl := hw.size; rw [hW]; go_grown
 clear F_abcd;clear hW Ba Bb Bc Bd;have Ba := Ca;have Bb := Cb;have Bc := Cc;have Bd := Cd;clear Ca Cb Cc Cd;refine (k2 _).mono ?_;rintro e w4 ⟨rfl, hb⟩;obtain ⟨Ba, Bb, Bc, Bd, hw, F_abcd⟩ := X4 Ba Bb Bc Bd hw hb;clear hb;go_wp2_with fail;refine zA1 fun W5 hW => ?_;have Ca : Box W5 (w.heap.size) [.int .i64 b.x, .int .i64 b.y] 30 := by rw [hW]; exact ((((Ba.set_ne ⟨w.heap.size + 1 + 1, 0, none⟩ (.int .i64 d.x) (by show (w.heap.size + 1 + 1 : Nat) ≠ _; omega)).set_ne ⟨w.heap.size + 1 + 1, 1, none⟩ (.int .i64 d.y) (by show (w.heap.size + 1 + 1 : Nat) ≠ _; omega)).set_ne ⟨w.heap.size + 1 + 1 + 1, 0, none⟩ (.int .i64 c.x) (by show (w.heap.size + 1 + 1 + 1 : Nat) ≠ _; omega)).set_ne ⟨w.heap.size + 1 + 1 + 1, 1, none⟩ (.int .i64 c.y) (by show (w.heap.size + 1 + 1 + 1 : Nat) ≠ _; omega))
 have Cb : Box W5 (w.heap.size + 1) [.int .i64 a.x, .int .i64 a.y] 30 := by rw [hW]; exact ((((Bb.set_ne ⟨w.heap.size + 1 + 1, 0, none⟩ (.int .i64 d.x) (by show (w.heap.size + 1 + 1 : Nat) ≠ _; omega)).set_ne ⟨w.heap.size + 1 + 1, 1, none⟩ (.int .i64 d.y) (by show (w.heap.size + 1 + 1 : Nat) ≠ _; omega)).set_ne ⟨w.heap.size + 1 + 1 + 1, 0, none⟩ (.int .i64 c.x) (by show (w.heap.size + 1 + 1 + 1 : Nat) ≠ _; omega)).set_ne ⟨w.heap.size + 1 + 1 + 1, 1, none⟩ (.int .i64 c.y) (by show (w.heap.size + 1 + 1 + 1 : Nat) ≠ _; omega))
 have Cc : Box W5 (w.heap.size + 1 + 1) [.int .i64 d.x, .int .i64 d.y] 30 := by rw [hW]; exact ((((Bc.set 0 (.int .i64 d.x)).set 1 (.int .i64 d.y)).set_ne ⟨w.heap.size + 1 + 1 + 1, 0, none⟩ (.int .i64 c.x) (by show (w.heap.size + 1 + 1 + 1 : Nat) ≠ _; omega)).set_ne ⟨w.heap.size + 1 + 1 + 1, 1, none⟩ (.int .i64 c.y) (by show (w.heap.size + 1 + 1 + 1 : Nat) ≠ _; omega))
 have Cd : Box W5 (w.heap.size + 1 + 1 + 1) [.int .i64 c.x, .int .i64 c.y] 30 := by rw [hW]; exact ((((Bd.set_ne ⟨w.heap.size + 1 + 1, 0, none⟩ (.int .i64 d.x) (by show (w.heap.size + 1 + 1 : Nat) ≠ _; omega)).set_ne ⟨w.heap.size + 1 + 1, 1, none⟩ (.int .i64 d.y) (by show (w.heap.size + 1 + 1 : Nat) ≠ _; omega)).set 0 (.int .i64 c.x)).set 1 (.int .i64 c.y))
 replace hw : Below w.heap.size w W5 := by have hl := hw.size; rw [hW]; go_grown
 clear F_abcd;clear hW Ba Bb Bc Bd;have Ba := Ca;have Bb := Cb;have Bc := Cc;have Bd := Cd;clear Ca Cb Cc Cd;refine (k3 _).mono ?_;rintro e w6 ⟨rfl, hb⟩;obtain ⟨Ba, Bb, Bc, Bd, hw, F_abcd⟩ := X4 Ba Bb Bc Bd hw hb;clear hb;go_wp2_with fail;refine (k4 _).mono ?_;rintro e w7 ⟨rfl, hb⟩;clear F_abcd;obtain ⟨Ba, Bb, Bc, Bd, hw, -⟩ := X4 Ba Bb Bc Bd hw hb;clear hb;go_wp2
 go_ret
 exact ⟨rfl, hw⟩
theorem mil_any (a b c d : Pt) (w : World) :
    Calls Tryz.prog 104 #[.agg #[.int .i64 a.x, .int .i64 a.y], .agg #[.int .i64 b.x, .int .i64 b.y], .agg #[.int .i64 c.x, .int .i64 c.y], .agg #[.int .i64 d.x, .int .i64 d.y]] w fun e w' => e = .returned (.int .i64 (mil a b c d)) ∧ Below w.heap.size w w' := by
 have dt : ∀ {x : Int}, x < 0 → decide (x < 0) = true := fun h => by simpa using h
 have df : ∀ {x : Int}, ¬ x < 0 → decide (x < 0) = false := fun h => by simpa using h
 unfold mil lo2 hi2;by_cases g1 : cmpP b a < 0
 ·by_cases g2 : cmpP d c < 0
  ·simp only [if_pos g1, if_pos g2];by_cases g3 : cmpP b c < 0
   ·by_cases g4 : cmpP d a < 0
    ·rw [if_pos g3, if_pos g4]; exact mil_112 a b c d (dt g1) (dt g2) (dt g3) (dt g4) w
    ·rw [if_pos g3, if_neg g4]; exact mil_111 a b c d (dt g1) (dt g2) (dt g3) (df g4) w
   ·rw [if_neg g3]; exact mil_110 a b c d (dt g1) (dt g2) (df g3) w
  ·simp only [if_pos g1, if_neg g2];by_cases g3 : cmpP b d < 0
   ·by_cases g4 : cmpP c a < 0
    ·rw [if_pos g3, if_pos g4]; exact mil_102 a b c d (dt g1) (df g2) (dt g3) (dt g4) w
    ·rw [if_pos g3, if_neg g4]; exact mil_101 a b c d (dt g1) (df g2) (dt g3) (df g4) w
   ·rw [if_neg g3]; exact mil_100 a b c d (dt g1) (df g2) (df g3) w
 ·by_cases g2 : cmpP d c < 0
  ·simp only [if_neg g1, if_pos g2];by_cases g3 : cmpP a c < 0
   ·by_cases g4 : cmpP d b < 0
    ·rw [if_pos g3, if_pos g4]; exact mil_012 a b c d (df g1) (dt g2) (dt g3) (dt g4) w
    ·rw [if_pos g3, if_neg g4]; exact mil_011 a b c d (df g1) (dt g2) (dt g3) (df g4) w
   ·rw [if_neg g3]; exact mil_010 a b c d (df g1) (dt g2) (df g3) w
  ·simp only [if_neg g1, if_neg g2];by_cases g3 : cmpP a d < 0
   ·by_cases g4 : cmpP c b < 0
    ·rw [if_pos g3, if_pos g4]; exact mil_002 a b c d (df g1) (df g2) (dt g3) (dt g4) w
    ·rw [if_pos g3, if_neg g4]; exact mil_001 a b c d (df g1) (df g2) (dt g3) (df g4) w
   ·rw [if_neg g3]; exact mil_000 a b c d (df g1) (df g2) (df g3) w
def fin (sA sB sC sD : Int) : Int := if sA = sB then 0 else if sC = sD then 0 else if sA = 0 then 2 else if sB = 0 then 2 else if sC = 0 then 2 else if sD = 0 then 2 else 1
def meetS (a b c d : Pt) : Int :=
 if vld a = false then 0 else if vld b = false then 0 else if vld c = false then 0 else if vld d = false then 0 else if peqI a.x a.y b.x b.y = true then 0 else if peqI c.x c.y d.x d.y = true then 0
 else if ori a b c = 0 ∧ ori a b d = 0 then mil a b c d
 else if peqI a.x a.y c.x c.y = true then 0 else if peqI a.x a.y d.x d.y = true then 0 else if peqI b.x b.y c.x c.y = true then 0 else if peqI b.x b.y d.x d.y = true then 0
 else fin (ori c d a) (ori c d b) (ori a b c) (ori a b d)
theorem meet_v0 (a b c d : Pt) (ha : vld a = false) (w : World) :
    Calls Tryz.prog 55 #[.agg #[.int .i64 a.x, .int .i64 a.y], .agg #[.int .i64 b.x, .int .i64 b.y], .agg #[.int .i64 c.x, .int .i64 c.y], .agg #[.int .i64 d.x, .int .i64 d.y]] w fun e w' => e = .returned (.int .i64 0) ∧ Below w.heap.size w w' := by
 have ca := zA4 a;rw [ha] at ca;clear ha
 go_enter Tryz.func55, Tryz.ntmps55
 go_wp2_with fail;refine zA1 fun W1 hW => ?_;obtain ⟨Ba, Bb, Bc, Bd, hw⟩ := N4 hW;clear hW;refine (ca _).mono ?_;rintro e w2 ⟨rfl, hb⟩;obtain ⟨Ba, Bb, Bc, Bd, hw, F_abcd⟩ := X4 Ba Bb Bc Bd hw hb;clear hb;go_wp2
 go_ret
 exact ⟨rfl, hw⟩
theorem meet_v1 (a b c d : Pt) (ha : vld a = true) (hb : vld b = false) (w : World) :
    Calls Tryz.prog 55 #[.agg #[.int .i64 a.x, .int .i64 a.y], .agg #[.int .i64 b.x, .int .i64 b.y], .agg #[.int .i64 c.x, .int .i64 c.y], .agg #[.int .i64 d.x, .int .i64 d.y]] w fun e w' => e = .returned (.int .i64 0) ∧ Below w.heap.size w w' := by
 have ca := zA4 a;rw [ha] at ca;clear ha;have cb := zA4 b;rw [hb] at cb;clear hb
 go_enter Tryz.func55, Tryz.ntmps55
 go_wp2_with fail;refine zA1 fun W1 hW => ?_;obtain ⟨Ba, Bb, Bc, Bd, hw⟩ := N4 hW;clear hW;refine (ca _).mono ?_;rintro e w2 ⟨rfl, hb⟩;obtain ⟨Ba, Bb, Bc, Bd, hw, F_abcd⟩ := X4 Ba Bb Bc Bd hw hb;clear hb;go_wp2_with fail;refine (cb _).mono ?_;rintro e w3 ⟨rfl, hb⟩;clear F_abcd;obtain ⟨Ba, Bb, Bc, Bd, hw, F_abcd⟩ := X4 Ba Bb Bc Bd hw hb;clear hb;go_wp2
 go_ret
 exact ⟨rfl, hw⟩
theorem meet_v2 (a b c d : Pt) (ha : vld a = true) (hb : vld b = true) (hc : vld c = false) (w : World) :
    Calls Tryz.prog 55 #[.agg #[.int .i64 a.x, .int .i64 a.y], .agg #[.int .i64 b.x, .int .i64 b.y], .agg #[.int .i64 c.x, .int .i64 c.y], .agg #[.int .i64 d.x, .int .i64 d.y]] w fun e w' => e = .returned (.int .i64 0) ∧ Below w.heap.size w w' := by
 have ca := zA4 a;rw [ha] at ca;clear ha;have cb := zA4 b;rw [hb] at cb;clear hb;have cc := zA4 c;rw [hc] at cc;clear hc
 go_enter Tryz.func55, Tryz.ntmps55
 go_wp2_with fail;refine zA1 fun W1 hW => ?_;obtain ⟨Ba, Bb, Bc, Bd, hw⟩ := N4 hW;clear hW;refine (ca _).mono ?_;rintro e w2 ⟨rfl, hb⟩;obtain ⟨Ba, Bb, Bc, Bd, hw, F_abcd⟩ := X4 Ba Bb Bc Bd hw hb;clear hb;go_wp2_with fail;refine (cb _).mono ?_;rintro e w3 ⟨rfl, hb⟩;clear F_abcd;obtain ⟨Ba, Bb, Bc, Bd, hw, F_abcd⟩ := X4 Ba Bb Bc Bd hw hb;clear hb;go_wp2_with fail;refine (cc _).mono ?_;rintro e w4 ⟨rfl, hb⟩;clear F_abcd;obtain ⟨Ba, Bb, Bc, Bd, hw, F_abcd⟩ := X4 Ba Bb Bc Bd hw hb;clear hb;go_wp2
 go_ret
 exact ⟨rfl, hw⟩
theorem meet_v3 (a b c d : Pt) (ha : vld a = true) (hb : vld b = true) (hc : vld c = true) (hd : vld d = false) (w : World) :
    Calls Tryz.prog 55 #[.agg #[.int .i64 a.x, .int .i64 a.y], .agg #[.int .i64 b.x, .int .i64 b.y], .agg #[.int .i64 c.x, .int .i64 c.y], .agg #[.int .i64 d.x, .int .i64 d.y]] w fun e w' => e = .returned (.int .i64 0) ∧ Below w.heap.size w w' := by
 have ca := zA4 a;rw [ha] at ca;clear ha;have cb := zA4 b;rw [hb] at cb;clear hb;have cc := zA4 c;rw [hc] at cc;clear hc;have cd := zA4 d;rw [hd] at cd;clear hd
 go_enter Tryz.func55, Tryz.ntmps55
 go_wp2_with fail;refine zA1 fun W1 hW => ?_;obtain ⟨Ba, Bb, Bc, Bd, hw⟩ := N4 hW;clear hW;refine (ca _).mono ?_;rintro e w2 ⟨rfl, hb⟩;obtain ⟨Ba, Bb, Bc, Bd, hw, F_abcd⟩ := X4 Ba Bb Bc Bd hw hb;clear hb;go_wp2_with fail;refine (cb _).mono ?_;rintro e w3 ⟨rfl, hb⟩;clear F_abcd;obtain ⟨Ba, Bb, Bc, Bd, hw, F_abcd⟩ := X4 Ba Bb Bc Bd hw hb;clear hb;go_wp2_with fail;refine (cc _).mono ?_;rintro e w4 ⟨rfl, hb⟩;clear F_abcd;obtain ⟨Ba, Bb, Bc, Bd, hw, F_abcd⟩ := X4 Ba Bb Bc Bd hw hb;clear hb;go_wp2_with fail;refine (cd _).mono ?_;rintro e w5 ⟨rfl, hb⟩;clear F_abcd;obtain ⟨Ba, Bb, Bc, Bd, hw, F_abcd⟩ := X4 Ba Bb Bc Bd hw hb;clear hb;go_wp2
 go_ret
 exact ⟨rfl, hw⟩
theorem meet_e1 (a b c d : Pt) (ha : vld a = true) (hb : vld b = true) (hc : vld c = true) (hd : vld d = true) (e1 : peqI a.x a.y b.x b.y = true) (w : World) :
    Calls Tryz.prog 55 #[.agg #[.int .i64 a.x, .int .i64 a.y], .agg #[.int .i64 b.x, .int .i64 b.y], .agg #[.int .i64 c.x, .int .i64 c.y], .agg #[.int .i64 d.x, .int .i64 d.y]] w fun e w' => e = .returned (.int .i64 0) ∧ Below w.heap.size w w' := by
 have ca := zA4 a;rw [ha] at ca;clear ha;have cb := zA4 b;rw [hb] at cb;clear hb;have cc := zA4 c;rw [hc] at cc;clear hc;have cd := zA4 d;rw [hd] at cd;clear hd
 go_enter Tryz.func55, Tryz.ntmps55
 go_wp2_with fail;refine zA1 fun W1 hW => ?_;obtain ⟨Ba, Bb, Bc, Bd, hw⟩ := N4 hW;clear hW;refine (ca _).mono ?_;rintro e w2 ⟨rfl, hb⟩;obtain ⟨Ba, Bb, Bc, Bd, hw, F_abcd⟩ := X4 Ba Bb Bc Bd hw hb;clear hb;go_wp2_with fail;refine (cb _).mono ?_;rintro e w3 ⟨rfl, hb⟩;clear F_abcd;obtain ⟨Ba, Bb, Bc, Bd, hw, F_abcd⟩ := X4 Ba Bb Bc Bd hw hb;clear hb;go_wp2_with fail;refine (cc _).mono ?_;rintro e w4 ⟨rfl, hb⟩;clear F_abcd;obtain ⟨Ba, Bb, Bc, Bd, hw, F_abcd⟩ := X4 Ba Bb Bc Bd hw hb;clear hb;go_wp2_with fail;refine (cd _).mono ?_;rintro e w5 ⟨rfl, hb⟩;clear F_abcd;obtain ⟨Ba, Bb, Bc, Bd, hw, F_abcd⟩ := X4 Ba Bb Bc Bd hw hb;clear hb;go_wp2
 go_ret
 exact ⟨rfl, hw⟩
theorem meet_e2 (a b c d : Pt) (ha : vld a = true) (hb : vld b = true) (hc : vld c = true) (hd : vld d = true) (e1 : peqI a.x a.y b.x b.y = false) (e2 : peqI c.x c.y d.x d.y = true) (w : World) :
    Calls Tryz.prog 55 #[.agg #[.int .i64 a.x, .int .i64 a.y], .agg #[.int .i64 b.x, .int .i64 b.y], .agg #[.int .i64 c.x, .int .i64 c.y], .agg #[.int .i64 d.x, .int .i64 d.y]] w fun e w' => e = .returned (.int .i64 0) ∧ Below w.heap.size w w' := by
 have ca := zA4 a;rw [ha] at ca;clear ha;have cb := zA4 b;rw [hb] at cb;clear hb;have cc := zA4 c;rw [hc] at cc;clear hc;have cd := zA4 d;rw [hd] at cd;clear hd
 go_enter Tryz.func55, Tryz.ntmps55
 go_wp2_with fail;refine zA1 fun W1 hW => ?_;obtain ⟨Ba, Bb, Bc, Bd, hw⟩ := N4 hW;clear hW;refine (ca _).mono ?_;rintro e w2 ⟨rfl, hb⟩;obtain ⟨Ba, Bb, Bc, Bd, hw, F_abcd⟩ := X4 Ba Bb Bc Bd hw hb;clear hb;go_wp2_with fail;refine (cb _).mono ?_;rintro e w3 ⟨rfl, hb⟩;clear F_abcd;obtain ⟨Ba, Bb, Bc, Bd, hw, F_abcd⟩ := X4 Ba Bb Bc Bd hw hb;clear hb;go_wp2_with fail;refine (cc _).mono ?_;rintro e w4 ⟨rfl, hb⟩;clear F_abcd;obtain ⟨Ba, Bb, Bc, Bd, hw, F_abcd⟩ := X4 Ba Bb Bc Bd hw hb;clear hb;go_wp2_with fail;refine (cd _).mono ?_;rintro e w5 ⟨rfl, hb⟩;clear F_abcd;obtain ⟨Ba, Bb, Bc, Bd, hw, F_abcd⟩ := X4 Ba Bb Bc Bd hw hb;clear hb;go_wp2
 go_ret
 exact ⟨rfl, hw⟩
theorem meet_l (a b c d : Pt) (ha : vld a = true) (hb : vld b = true) (hc : vld c = true) (hd : vld d = true) (e1 : peqI a.x a.y b.x b.y = false) (e2 : peqI c.x c.y d.x d.y = false) (z1 : ori a b c = 0) (z2 : ori a b d = 0) (w : World) :
    Calls Tryz.prog 55 #[.agg #[.int .i64 a.x, .int .i64 a.y], .agg #[.int .i64 b.x, .int .i64 b.y], .agg #[.int .i64 c.x, .int .i64 c.y], .agg #[.int .i64 d.x, .int .i64 d.y]] w fun e w' => e = .returned (.int .i64 (mil a b c d)) ∧ Below w.heap.size w w' := by
 have ca := zA4 a;rw [ha] at ca;clear ha;have cb := zA4 b;rw [hb] at cb;clear hb;have cc := zA4 c;rw [hc] at cc;clear hc;have cd := zA4 d;rw [hd] at cd;clear hd;have o1 := zA8 a b c;have o2 := zA8 a b d;rw [z1] at o1;rw [z2] at o2;clear z1 z2;have cm := mil_any a b c d
 go_enter Tryz.func55, Tryz.ntmps55
 go_wp2_with fail;refine zA1 fun W1 hW => ?_;obtain ⟨Ba, Bb, Bc, Bd, hw⟩ := N4 hW;clear hW;refine (ca _).mono ?_;rintro e w2 ⟨rfl, hb⟩;obtain ⟨Ba, Bb, Bc, Bd, hw, F_abcd⟩ := X4 Ba Bb Bc Bd hw hb;clear hb;go_wp2_with fail;refine (cb _).mono ?_;rintro e w3 ⟨rfl, hb⟩;clear F_abcd;obtain ⟨Ba, Bb, Bc, Bd, hw, F_abcd⟩ := X4 Ba Bb Bc Bd hw hb;clear hb;go_wp2_with fail;refine (cc _).mono ?_;rintro e w4 ⟨rfl, hb⟩;clear F_abcd;obtain ⟨Ba, Bb, Bc, Bd, hw, F_abcd⟩ := X4 Ba Bb Bc Bd hw hb;clear hb;go_wp2_with fail;refine (cd _).mono ?_;rintro e w5 ⟨rfl, hb⟩;clear F_abcd;obtain ⟨Ba, Bb, Bc, Bd, hw, F_abcd⟩ := X4 Ba Bb Bc Bd hw hb;clear hb;go_wp2;refine zA2 fun W6 hW => ?_;subst hW;clear F_abcd;have g_abcd := J4 Ba.cells Bb.cells Bc.cells Bd.cells;refine wrt 8 (by kernel_rfl) (by kernel_rfl) ?_;simp only [tK1, tK0, dP1, dP0];repeat (first | (refine zA0 (Eq.refl false) ?_; simp only [Act.put, sT2, sT1, sT0]) | (refine rWalk_step (fun K hK => ?_); go_simp; first | (refine hK _ ?_; clear hK K) | (apply Exists.intro; refine ⟨fun _ => ?_, hK _ ?_⟩; (first | with_reducible exact toExt o1 _ | with_reducible exact toExt o2 _); clear hK K)))
 refine rWalk_nil ?_;intro w7 hb;clear g_abcd;obtain ⟨Ba, Bb, Bc, Bd, hw, F_abcd⟩ := X4 Ba Bb Bc Bd hw hb;go_wp2_with fail;refine (cm _).mono ?_;rintro e w8 ⟨rfl, hb⟩;clear F_abcd;obtain ⟨Ba, Bb, Bc, Bd, hw, -⟩ := X4 Ba Bb Bc Bd hw hb;clear hb;go_wp2
 go_ret
 exact ⟨rfl, hw⟩
theorem meet_n0 (a b c d : Pt) (ha : vld a = true) (hb : vld b = true) (hc : vld c = true) (hd : vld d = true) (e1 : peqI a.x a.y b.x b.y = false) (e2 : peqI c.x c.y d.x d.y = false) (z1 : ¬ ori a b c = 0) (q1 : peqI a.x a.y c.x c.y = true) (w : World) :
    Calls Tryz.prog 55 #[.agg #[.int .i64 a.x, .int .i64 a.y], .agg #[.int .i64 b.x, .int .i64 b.y], .agg #[.int .i64 c.x, .int .i64 c.y], .agg #[.int .i64 d.x, .int .i64 d.y]] w fun e w' => e = .returned (.int .i64 0) ∧ Below w.heap.size w w' := by
 have ca := zA4 a;rw [ha] at ca;clear ha;have cb := zA4 b;rw [hb] at cb;clear hb;have cc := zA4 c;rw [hc] at cc;clear hc;have cd := zA4 d;rw [hd] at cd;clear hd;have o1 := zA8 a b c;have o2 := zA8 a b d;have sC := zC4 a b c;generalize ori a b c = C at *
 generalize ori a b d = D at *
 have t1 : (C == 0) = false := by simpa using z1
 clear z1
 go_enter Tryz.func55, Tryz.ntmps55
 go_wp2_with fail;refine zA1 fun W1 hW => ?_;obtain ⟨Ba, Bb, Bc, Bd, hw⟩ := N4 hW;clear hW;refine (ca _).mono ?_;rintro e w2 ⟨rfl, hb⟩;obtain ⟨Ba, Bb, Bc, Bd, hw, F_abcd⟩ := X4 Ba Bb Bc Bd hw hb;clear hb;go_wp2_with fail;refine (cb _).mono ?_;rintro e w3 ⟨rfl, hb⟩;clear F_abcd;obtain ⟨Ba, Bb, Bc, Bd, hw, F_abcd⟩ := X4 Ba Bb Bc Bd hw hb;clear hb;go_wp2_with fail;refine (cc _).mono ?_;rintro e w4 ⟨rfl, hb⟩;clear F_abcd;obtain ⟨Ba, Bb, Bc, Bd, hw, F_abcd⟩ := X4 Ba Bb Bc Bd hw hb;clear hb;go_wp2_with fail;refine (cd _).mono ?_;rintro e w5 ⟨rfl, hb⟩;clear F_abcd;obtain ⟨Ba, Bb, Bc, Bd, hw, F_abcd⟩ := X4 Ba Bb Bc Bd hw hb;clear hb;go_wp2;refine zA2 fun W6 hW => ?_;subst hW;clear F_abcd;have g_abcd := J4 Ba.cells Bb.cells Bc.cells Bd.cells;refine wrt 8 (by kernel_rfl) (by kernel_rfl) ?_;simp only [tK1, tK0, dP1, dP0];repeat (first | (refine zA0 (Eq.refl false) ?_; simp only [Act.put, sT2, sT1, sT0]) | (refine rWalk_step (fun K hK => ?_); go_simp; first | (refine hK _ ?_; clear hK K) | (apply Exists.intro; refine ⟨fun _ => ?_, hK _ ?_⟩; (first | with_reducible exact toExt o1 _ | with_reducible exact toExt o2 _); clear hK K)))
 refine rWalk_nil ?_;intro w7 hb;clear g_abcd;obtain ⟨Ba, Bb, Bc, Bd, hw, F_abcd⟩ := X4 Ba Bb Bc Bd hw hb;go_wp2
 go_ret
 exact ⟨rfl, hw⟩
theorem meet_n1 (a b c d : Pt) (ha : vld a = true) (hb : vld b = true) (hc : vld c = true) (hd : vld d = true) (e1 : peqI a.x a.y b.x b.y = false) (e2 : peqI c.x c.y d.x d.y = false) (z1 : ¬ ori a b c = 0) (q1 : peqI a.x a.y c.x c.y = false) (q2 : peqI a.x a.y d.x d.y = true) (w : World) :
    Calls Tryz.prog 55 #[.agg #[.int .i64 a.x, .int .i64 a.y], .agg #[.int .i64 b.x, .int .i64 b.y], .agg #[.int .i64 c.x, .int .i64 c.y], .agg #[.int .i64 d.x, .int .i64 d.y]] w fun e w' => e = .returned (.int .i64 0) ∧ Below w.heap.size w w' := by
 have ca := zA4 a;rw [ha] at ca;clear ha;have cb := zA4 b;rw [hb] at cb;clear hb;have cc := zA4 c;rw [hc] at cc;clear hc;have cd := zA4 d;rw [hd] at cd;clear hd;have o1 := zA8 a b c;have o2 := zA8 a b d;have sC := zC4 a b c;generalize ori a b c = C at *
 generalize ori a b d = D at *
 have t1 : (C == 0) = false := by simpa using z1
 clear z1
 go_enter Tryz.func55, Tryz.ntmps55
 go_wp2_with fail;refine zA1 fun W1 hW => ?_;obtain ⟨Ba, Bb, Bc, Bd, hw⟩ := N4 hW;clear hW;refine (ca _).mono ?_;rintro e w2 ⟨rfl, hb⟩;obtain ⟨Ba, Bb, Bc, Bd, hw, F_abcd⟩ := X4 Ba Bb Bc Bd hw hb;clear hb;go_wp2_with fail;refine (cb _).mono ?_;rintro e w3 ⟨rfl, hb⟩;clear F_abcd;obtain ⟨Ba, Bb, Bc, Bd, hw, F_abcd⟩ := X4 Ba Bb Bc Bd hw hb;clear hb;go_wp2_with fail;refine (cc _).mono ?_;rintro e w4 ⟨rfl, hb⟩;clear F_abcd;obtain ⟨Ba, Bb, Bc, Bd, hw, F_abcd⟩ := X4 Ba Bb Bc Bd hw hb;clear hb;go_wp2_with fail;refine (cd _).mono ?_;rintro e w5 ⟨rfl, hb⟩;clear F_abcd;obtain ⟨Ba, Bb, Bc, Bd, hw, F_abcd⟩ := X4 Ba Bb Bc Bd hw hb;clear hb;go_wp2;refine zA2 fun W6 hW => ?_;subst hW;clear F_abcd;have g_abcd := J4 Ba.cells Bb.cells Bc.cells Bd.cells;refine wrt 8 (by kernel_rfl) (by kernel_rfl) ?_;simp only [tK1, tK0, dP1, dP0];repeat (first | (refine zA0 (Eq.refl false) ?_; simp only [Act.put, sT2, sT1, sT0]) | (refine rWalk_step (fun K hK => ?_); go_simp; first | (refine hK _ ?_; clear hK K) | (apply Exists.intro; refine ⟨fun _ => ?_, hK _ ?_⟩; (first | with_reducible exact toExt o1 _ | with_reducible exact toExt o2 _); clear hK K)))
 refine rWalk_nil ?_;intro w7 hb;clear g_abcd;obtain ⟨Ba, Bb, Bc, Bd, hw, F_abcd⟩ := X4 Ba Bb Bc Bd hw hb;go_wp2
 go_ret
 exact ⟨rfl, hw⟩
theorem meet_n2 (a b c d : Pt) (ha : vld a = true) (hb : vld b = true) (hc : vld c = true) (hd : vld d = true) (e1 : peqI a.x a.y b.x b.y = false) (e2 : peqI c.x c.y d.x d.y = false) (z1 : ¬ ori a b c = 0) (q1 : peqI a.x a.y c.x c.y = false) (q2 : peqI a.x a.y d.x d.y = false) (q3 : peqI b.x b.y c.x c.y = true) (w : World) :
    Calls Tryz.prog 55 #[.agg #[.int .i64 a.x, .int .i64 a.y], .agg #[.int .i64 b.x, .int .i64 b.y], .agg #[.int .i64 c.x, .int .i64 c.y], .agg #[.int .i64 d.x, .int .i64 d.y]] w fun e w' => e = .returned (.int .i64 0) ∧ Below w.heap.size w w' := by
 have ca := zA4 a;rw [ha] at ca;clear ha;have cb := zA4 b;rw [hb] at cb;clear hb;have cc := zA4 c;rw [hc] at cc;clear hc;have cd := zA4 d;rw [hd] at cd;clear hd;have o1 := zA8 a b c;have o2 := zA8 a b d;have sC := zC4 a b c;generalize ori a b c = C at *
 generalize ori a b d = D at *
 have t1 : (C == 0) = false := by simpa using z1
 clear z1
 go_enter Tryz.func55, Tryz.ntmps55
 go_wp2_with fail;refine zA1 fun W1 hW => ?_;obtain ⟨Ba, Bb, Bc, Bd, hw⟩ := N4 hW;clear hW;refine (ca _).mono ?_;rintro e w2 ⟨rfl, hb⟩;obtain ⟨Ba, Bb, Bc, Bd, hw, F_abcd⟩ := X4 Ba Bb Bc Bd hw hb;clear hb;go_wp2_with fail;refine (cb _).mono ?_;rintro e w3 ⟨rfl, hb⟩;clear F_abcd;obtain ⟨Ba, Bb, Bc, Bd, hw, F_abcd⟩ := X4 Ba Bb Bc Bd hw hb;clear hb;go_wp2_with fail;refine (cc _).mono ?_;rintro e w4 ⟨rfl, hb⟩;clear F_abcd;obtain ⟨Ba, Bb, Bc, Bd, hw, F_abcd⟩ := X4 Ba Bb Bc Bd hw hb;clear hb;go_wp2_with fail;refine (cd _).mono ?_;rintro e w5 ⟨rfl, hb⟩;clear F_abcd;obtain ⟨Ba, Bb, Bc, Bd, hw, F_abcd⟩ := X4 Ba Bb Bc Bd hw hb;clear hb;go_wp2;refine zA2 fun W6 hW => ?_;subst hW;clear F_abcd;have g_abcd := J4 Ba.cells Bb.cells Bc.cells Bd.cells;refine wrt 8 (by kernel_rfl) (by kernel_rfl) ?_;simp only [tK1, tK0, dP1, dP0];repeat (first | (refine zA0 (Eq.refl false) ?_; simp only [Act.put, sT2, sT1, sT0]) | (refine rWalk_step (fun K hK => ?_); go_simp; first | (refine hK _ ?_; clear hK K) | (apply Exists.intro; refine ⟨fun _ => ?_, hK _ ?_⟩; (first | with_reducible exact toExt o1 _ | with_reducible exact toExt o2 _); clear hK K)))
 refine rWalk_nil ?_;intro w7 hb;clear g_abcd;obtain ⟨Ba, Bb, Bc, Bd, hw, F_abcd⟩ := X4 Ba Bb Bc Bd hw hb;go_wp2
 go_ret
 exact ⟨rfl, hw⟩
theorem meet_n3 (a b c d : Pt) (ha : vld a = true) (hb : vld b = true) (hc : vld c = true) (hd : vld d = true) (e1 : peqI a.x a.y b.x b.y = false) (e2 : peqI c.x c.y d.x d.y = false) (z1 : ¬ ori a b c = 0) (q1 : peqI a.x a.y c.x c.y = false) (q2 : peqI a.x a.y d.x d.y = false) (q3 : peqI b.x b.y c.x c.y = false) (q4 : peqI b.x b.y d.x d.y = true) (w : World) :
    Calls Tryz.prog 55 #[.agg #[.int .i64 a.x, .int .i64 a.y], .agg #[.int .i64 b.x, .int .i64 b.y], .agg #[.int .i64 c.x, .int .i64 c.y], .agg #[.int .i64 d.x, .int .i64 d.y]] w fun e w' => e = .returned (.int .i64 0) ∧ Below w.heap.size w w' := by
 have ca := zA4 a;rw [ha] at ca;clear ha;have cb := zA4 b;rw [hb] at cb;clear hb;have cc := zA4 c;rw [hc] at cc;clear hc;have cd := zA4 d;rw [hd] at cd;clear hd;have o1 := zA8 a b c;have o2 := zA8 a b d;have sC := zC4 a b c;generalize ori a b c = C at *
 generalize ori a b d = D at *
 have t1 : (C == 0) = false := by simpa using z1
 clear z1
 go_enter Tryz.func55, Tryz.ntmps55
 go_wp2_with fail;refine zA1 fun W1 hW => ?_;obtain ⟨Ba, Bb, Bc, Bd, hw⟩ := N4 hW;clear hW;refine (ca _).mono ?_;rintro e w2 ⟨rfl, hb⟩;obtain ⟨Ba, Bb, Bc, Bd, hw, F_abcd⟩ := X4 Ba Bb Bc Bd hw hb;clear hb;go_wp2_with fail;refine (cb _).mono ?_;rintro e w3 ⟨rfl, hb⟩;clear F_abcd;obtain ⟨Ba, Bb, Bc, Bd, hw, F_abcd⟩ := X4 Ba Bb Bc Bd hw hb;clear hb;go_wp2_with fail;refine (cc _).mono ?_;rintro e w4 ⟨rfl, hb⟩;clear F_abcd;obtain ⟨Ba, Bb, Bc, Bd, hw, F_abcd⟩ := X4 Ba Bb Bc Bd hw hb;clear hb;go_wp2_with fail;refine (cd _).mono ?_;rintro e w5 ⟨rfl, hb⟩;clear F_abcd;obtain ⟨Ba, Bb, Bc, Bd, hw, F_abcd⟩ := X4 Ba Bb Bc Bd hw hb;clear hb;go_wp2;refine zA2 fun W6 hW => ?_;subst hW;clear F_abcd;have g_abcd := J4 Ba.cells Bb.cells Bc.cells Bd.cells;refine wrt 8 (by kernel_rfl) (by kernel_rfl) ?_;simp only [tK1, tK0, dP1, dP0];repeat (first | (refine zA0 (Eq.refl false) ?_; simp only [Act.put, sT2, sT1, sT0]) | (refine rWalk_step (fun K hK => ?_); go_simp; first | (refine hK _ ?_; clear hK K) | (apply Exists.intro; refine ⟨fun _ => ?_, hK _ ?_⟩; (first | with_reducible exact toExt o1 _ | with_reducible exact toExt o2 _); clear hK K)))
 refine rWalk_nil ?_;intro w7 hb;clear g_abcd;obtain ⟨Ba, Bb, Bc, Bd, hw, F_abcd⟩ := X4 Ba Bb Bc Bd hw hb;go_wp2
 go_ret
 exact ⟨rfl, hw⟩
theorem meet_n4 (a b c d : Pt) (ha : vld a = true) (hb : vld b = true) (hc : vld c = true) (hd : vld d = true) (e1 : peqI a.x a.y b.x b.y = false) (e2 : peqI c.x c.y d.x d.y = false) (z1 : ¬ ori a b c = 0) (q1 : peqI a.x a.y c.x c.y = false) (q2 : peqI a.x a.y d.x d.y = false) (q3 : peqI b.x b.y c.x c.y = false) (q4 : peqI b.x b.y d.x d.y = false) (w : World) :
    Calls Tryz.prog 55 #[.agg #[.int .i64 a.x, .int .i64 a.y], .agg #[.int .i64 b.x, .int .i64 b.y], .agg #[.int .i64 c.x, .int .i64 c.y], .agg #[.int .i64 d.x, .int .i64 d.y]] w fun e w' => e = .returned (.int .i64 (fin (ori c d a) (ori c d b) (ori a b c) (ori a b d))) ∧ Below w.heap.size w w' := by
 have ca := zA4 a;rw [ha] at ca;clear ha;have cb := zA4 b;rw [hb] at cb;clear hb;have cc := zA4 c;rw [hc] at cc;clear hc;have cd := zA4 d;rw [hd] at cd;clear hd;have o1 := zA8 a b c;have o2 := zA8 a b d;have o3 := zA8 c d a;have o4 := zA8 c d b;generalize ori c d a = A at *
 generalize ori c d b = B at *
 have sC := zC4 a b c;generalize ori a b c = C at *
 generalize ori a b d = D at *
 have t1 : (C == 0) = false := by simpa using z1
 clear z1
 go_enter Tryz.func55, Tryz.ntmps55
 go_wp2_with fail;refine zA1 fun W1 hW => ?_;obtain ⟨Ba, Bb, Bc, Bd, hw⟩ := N4 hW;clear hW;refine (ca _).mono ?_;rintro e w2 ⟨rfl, hb⟩;obtain ⟨Ba, Bb, Bc, Bd, hw, F_abcd⟩ := X4 Ba Bb Bc Bd hw hb;clear hb;go_wp2_with fail;refine (cb _).mono ?_;rintro e w3 ⟨rfl, hb⟩;clear F_abcd;obtain ⟨Ba, Bb, Bc, Bd, hw, F_abcd⟩ := X4 Ba Bb Bc Bd hw hb;clear hb;go_wp2_with fail;refine (cc _).mono ?_;rintro e w4 ⟨rfl, hb⟩;clear F_abcd;obtain ⟨Ba, Bb, Bc, Bd, hw, F_abcd⟩ := X4 Ba Bb Bc Bd hw hb;clear hb;go_wp2_with fail;refine (cd _).mono ?_;rintro e w5 ⟨rfl, hb⟩;clear F_abcd;obtain ⟨Ba, Bb, Bc, Bd, hw, F_abcd⟩ := X4 Ba Bb Bc Bd hw hb;clear hb;go_wp2;refine zA2 fun W6 hW => ?_;subst hW;clear F_abcd;have g_abcd := J4 Ba.cells Bb.cells Bc.cells Bd.cells;refine wrt 8 (by kernel_rfl) (by kernel_rfl) ?_;simp only [tK1, tK0, dP1, dP0];repeat (first | (refine zA0 (Eq.refl false) ?_; simp only [Act.put, sT2, sT1, sT0]) | (refine rWalk_step (fun K hK => ?_); go_simp; first | (refine hK _ ?_; clear hK K) | (apply Exists.intro; refine ⟨fun _ => ?_, hK _ ?_⟩; (first | with_reducible exact toExt o1 _ | with_reducible exact toExt o2 _); clear hK K)))
 refine rWalk_nil ?_;intro w7 hb;clear g_abcd;obtain ⟨Ba, Bb, Bc, Bd, hw, F_abcd⟩ := X4 Ba Bb Bc Bd hw hb;go_wp2;refine zA2 fun W8 hW => ?_;subst hW;clear F_abcd;have g_abcd := J4 Ba.cells Bb.cells Bc.cells Bd.cells;refine wrt 8 (by kernel_rfl) (by kernel_rfl) ?_;simp only [tK1, tK0, dP1, dP0];repeat (first | (refine zA0 (Eq.refl false) ?_; simp only [Act.put, sT2, sT1, sT0]) | (refine rWalk_step (fun K hK => ?_); go_simp; first | (refine hK _ ?_; clear hK K) | (apply Exists.intro; refine ⟨fun _ => ?_, hK _ ?_⟩; (first | with_reducible exact toExt o3 _ | with_reducible exact toExt o4 _); clear hK K)))
 refine rWalk_nil ?_;intro w9 hb;clear g_abcd;obtain ⟨Ba, Bb, Bc, Bd, hw, -⟩ := X4 Ba Bb Bc Bd hw hb;go_wp2;all_goals go_ret
 all_goals exact ⟨zAu (by unfold fin; simp_all), hw⟩
theorem meet_z0 (a b c d : Pt) (ha : vld a = true) (hb : vld b = true) (hc : vld c = true) (hd : vld d = true) (e1 : peqI a.x a.y b.x b.y = false) (e2 : peqI c.x c.y d.x d.y = false) (z1 : ori a b c = 0) (z2 : ¬ ori a b d = 0) (q1 : peqI a.x a.y c.x c.y = true) (w : World) :
    Calls Tryz.prog 55 #[.agg #[.int .i64 a.x, .int .i64 a.y], .agg #[.int .i64 b.x, .int .i64 b.y], .agg #[.int .i64 c.x, .int .i64 c.y], .agg #[.int .i64 d.x, .int .i64 d.y]] w fun e w' => e = .returned (.int .i64 0) ∧ Below w.heap.size w w' := by
 have ca := zA4 a;rw [ha] at ca;clear ha;have cb := zA4 b;rw [hb] at cb;clear hb;have cc := zA4 c;rw [hc] at cc;clear hc;have cd := zA4 d;rw [hd] at cd;clear hd;have o1 := zA8 a b c;have o2 := zA8 a b d;rw [z1] at o1;generalize ori a b d = D at *
 have t1 : (D == 0) = false := by simpa using z2
 clear z1 z2
 go_enter Tryz.func55, Tryz.ntmps55
 go_wp2_with fail;refine zA1 fun W1 hW => ?_;obtain ⟨Ba, Bb, Bc, Bd, hw⟩ := N4 hW;clear hW;refine (ca _).mono ?_;rintro e w2 ⟨rfl, hb⟩;obtain ⟨Ba, Bb, Bc, Bd, hw, F_abcd⟩ := X4 Ba Bb Bc Bd hw hb;clear hb;go_wp2_with fail;refine (cb _).mono ?_;rintro e w3 ⟨rfl, hb⟩;clear F_abcd;obtain ⟨Ba, Bb, Bc, Bd, hw, F_abcd⟩ := X4 Ba Bb Bc Bd hw hb;clear hb;go_wp2_with fail;refine (cc _).mono ?_;rintro e w4 ⟨rfl, hb⟩;clear F_abcd;obtain ⟨Ba, Bb, Bc, Bd, hw, F_abcd⟩ := X4 Ba Bb Bc Bd hw hb;clear hb;go_wp2_with fail;refine (cd _).mono ?_;rintro e w5 ⟨rfl, hb⟩;clear F_abcd;obtain ⟨Ba, Bb, Bc, Bd, hw, F_abcd⟩ := X4 Ba Bb Bc Bd hw hb;clear hb;go_wp2;refine zA2 fun W6 hW => ?_;subst hW;clear F_abcd;have g_abcd := J4 Ba.cells Bb.cells Bc.cells Bd.cells;refine wrt 8 (by kernel_rfl) (by kernel_rfl) ?_;simp only [tK1, tK0, dP1, dP0];repeat (first | (refine zA0 (Eq.refl false) ?_; simp only [Act.put, sT2, sT1, sT0]) | (refine rWalk_step (fun K hK => ?_); go_simp; first | (refine hK _ ?_; clear hK K) | (apply Exists.intro; refine ⟨fun _ => ?_, hK _ ?_⟩; (first | with_reducible exact toExt o1 _ | with_reducible exact toExt o2 _); clear hK K)))
 refine rWalk_nil ?_;intro w7 hb;clear g_abcd;obtain ⟨Ba, Bb, Bc, Bd, hw, F_abcd⟩ := X4 Ba Bb Bc Bd hw hb;go_wp2
 go_ret
 exact ⟨rfl, hw⟩
theorem meet_z1 (a b c d : Pt) (ha : vld a = true) (hb : vld b = true) (hc : vld c = true) (hd : vld d = true) (e1 : peqI a.x a.y b.x b.y = false) (e2 : peqI c.x c.y d.x d.y = false) (z1 : ori a b c = 0) (z2 : ¬ ori a b d = 0) (q1 : peqI a.x a.y c.x c.y = false) (q2 : peqI a.x a.y d.x d.y = true) (w : World) :
    Calls Tryz.prog 55 #[.agg #[.int .i64 a.x, .int .i64 a.y], .agg #[.int .i64 b.x, .int .i64 b.y], .agg #[.int .i64 c.x, .int .i64 c.y], .agg #[.int .i64 d.x, .int .i64 d.y]] w fun e w' => e = .returned (.int .i64 0) ∧ Below w.heap.size w w' := by
 have ca := zA4 a;rw [ha] at ca;clear ha;have cb := zA4 b;rw [hb] at cb;clear hb;have cc := zA4 c;rw [hc] at cc;clear hc;have cd := zA4 d;rw [hd] at cd;clear hd;have o1 := zA8 a b c;have o2 := zA8 a b d;rw [z1] at o1;generalize ori a b d = D at *
 have t1 : (D == 0) = false := by simpa using z2
 clear z1 z2
 go_enter Tryz.func55, Tryz.ntmps55
 go_wp2_with fail;refine zA1 fun W1 hW => ?_;obtain ⟨Ba, Bb, Bc, Bd, hw⟩ := N4 hW;clear hW;refine (ca _).mono ?_;rintro e w2 ⟨rfl, hb⟩;obtain ⟨Ba, Bb, Bc, Bd, hw, F_abcd⟩ := X4 Ba Bb Bc Bd hw hb;clear hb;go_wp2_with fail;refine (cb _).mono ?_;rintro e w3 ⟨rfl, hb⟩;clear F_abcd;obtain ⟨Ba, Bb, Bc, Bd, hw, F_abcd⟩ := X4 Ba Bb Bc Bd hw hb;clear hb;go_wp2_with fail;refine (cc _).mono ?_;rintro e w4 ⟨rfl, hb⟩;clear F_abcd;obtain ⟨Ba, Bb, Bc, Bd, hw, F_abcd⟩ := X4 Ba Bb Bc Bd hw hb;clear hb;go_wp2_with fail;refine (cd _).mono ?_;rintro e w5 ⟨rfl, hb⟩;clear F_abcd;obtain ⟨Ba, Bb, Bc, Bd, hw, F_abcd⟩ := X4 Ba Bb Bc Bd hw hb;clear hb;go_wp2;refine zA2 fun W6 hW => ?_;subst hW;clear F_abcd;have g_abcd := J4 Ba.cells Bb.cells Bc.cells Bd.cells;refine wrt 8 (by kernel_rfl) (by kernel_rfl) ?_;simp only [tK1, tK0, dP1, dP0];repeat (first | (refine zA0 (Eq.refl false) ?_; simp only [Act.put, sT2, sT1, sT0]) | (refine rWalk_step (fun K hK => ?_); go_simp; first | (refine hK _ ?_; clear hK K) | (apply Exists.intro; refine ⟨fun _ => ?_, hK _ ?_⟩; (first | with_reducible exact toExt o1 _ | with_reducible exact toExt o2 _); clear hK K)))
 refine rWalk_nil ?_;intro w7 hb;clear g_abcd;obtain ⟨Ba, Bb, Bc, Bd, hw, F_abcd⟩ := X4 Ba Bb Bc Bd hw hb;go_wp2
 go_ret
 exact ⟨rfl, hw⟩
theorem meet_z2 (a b c d : Pt) (ha : vld a = true) (hb : vld b = true) (hc : vld c = true) (hd : vld d = true) (e1 : peqI a.x a.y b.x b.y = false) (e2 : peqI c.x c.y d.x d.y = false) (z1 : ori a b c = 0) (z2 : ¬ ori a b d = 0) (q1 : peqI a.x a.y c.x c.y = false) (q2 : peqI a.x a.y d.x d.y = false) (q3 : peqI b.x b.y c.x c.y = true) (w : World) :
    Calls Tryz.prog 55 #[.agg #[.int .i64 a.x, .int .i64 a.y], .agg #[.int .i64 b.x, .int .i64 b.y], .agg #[.int .i64 c.x, .int .i64 c.y], .agg #[.int .i64 d.x, .int .i64 d.y]] w fun e w' => e = .returned (.int .i64 0) ∧ Below w.heap.size w w' := by
 have ca := zA4 a;rw [ha] at ca;clear ha;have cb := zA4 b;rw [hb] at cb;clear hb;have cc := zA4 c;rw [hc] at cc;clear hc;have cd := zA4 d;rw [hd] at cd;clear hd;have o1 := zA8 a b c;have o2 := zA8 a b d;rw [z1] at o1;generalize ori a b d = D at *
 have t1 : (D == 0) = false := by simpa using z2
 clear z1 z2
 go_enter Tryz.func55, Tryz.ntmps55
 go_wp2_with fail;refine zA1 fun W1 hW => ?_;obtain ⟨Ba, Bb, Bc, Bd, hw⟩ := N4 hW;clear hW;refine (ca _).mono ?_;rintro e w2 ⟨rfl, hb⟩;obtain ⟨Ba, Bb, Bc, Bd, hw, F_abcd⟩ := X4 Ba Bb Bc Bd hw hb;clear hb;go_wp2_with fail;refine (cb _).mono ?_;rintro e w3 ⟨rfl, hb⟩;clear F_abcd;obtain ⟨Ba, Bb, Bc, Bd, hw, F_abcd⟩ := X4 Ba Bb Bc Bd hw hb;clear hb;go_wp2_with fail;refine (cc _).mono ?_;rintro e w4 ⟨rfl, hb⟩;clear F_abcd;obtain ⟨Ba, Bb, Bc, Bd, hw, F_abcd⟩ := X4 Ba Bb Bc Bd hw hb;clear hb;go_wp2_with fail;refine (cd _).mono ?_;rintro e w5 ⟨rfl, hb⟩;clear F_abcd;obtain ⟨Ba, Bb, Bc, Bd, hw, F_abcd⟩ := X4 Ba Bb Bc Bd hw hb;clear hb;go_wp2;refine zA2 fun W6 hW => ?_;subst hW;clear F_abcd;have g_abcd := J4 Ba.cells Bb.cells Bc.cells Bd.cells;refine wrt 8 (by kernel_rfl) (by kernel_rfl) ?_;simp only [tK1, tK0, dP1, dP0];repeat (first | (refine zA0 (Eq.refl false) ?_; simp only [Act.put, sT2, sT1, sT0]) | (refine rWalk_step (fun K hK => ?_); go_simp; first | (refine hK _ ?_; clear hK K) | (apply Exists.intro; refine ⟨fun _ => ?_, hK _ ?_⟩; (first | with_reducible exact toExt o1 _ | with_reducible exact toExt o2 _); clear hK K)))
 refine rWalk_nil ?_;intro w7 hb;clear g_abcd;obtain ⟨Ba, Bb, Bc, Bd, hw, F_abcd⟩ := X4 Ba Bb Bc Bd hw hb;go_wp2
 go_ret
 exact ⟨rfl, hw⟩
theorem meet_z3 (a b c d : Pt) (ha : vld a = true) (hb : vld b = true) (hc : vld c = true) (hd : vld d = true) (e1 : peqI a.x a.y b.x b.y = false) (e2 : peqI c.x c.y d.x d.y = false) (z1 : ori a b c = 0) (z2 : ¬ ori a b d = 0) (q1 : peqI a.x a.y c.x c.y = false) (q2 : peqI a.x a.y d.x d.y = false) (q3 : peqI b.x b.y c.x c.y = false) (q4 : peqI b.x b.y d.x d.y = true) (w : World) :
    Calls Tryz.prog 55 #[.agg #[.int .i64 a.x, .int .i64 a.y], .agg #[.int .i64 b.x, .int .i64 b.y], .agg #[.int .i64 c.x, .int .i64 c.y], .agg #[.int .i64 d.x, .int .i64 d.y]] w fun e w' => e = .returned (.int .i64 0) ∧ Below w.heap.size w w' := by
 have ca := zA4 a;rw [ha] at ca;clear ha;have cb := zA4 b;rw [hb] at cb;clear hb;have cc := zA4 c;rw [hc] at cc;clear hc;have cd := zA4 d;rw [hd] at cd;clear hd;have o1 := zA8 a b c;have o2 := zA8 a b d;rw [z1] at o1;generalize ori a b d = D at *
 have t1 : (D == 0) = false := by simpa using z2
 clear z1 z2
 go_enter Tryz.func55, Tryz.ntmps55
 go_wp2_with fail;refine zA1 fun W1 hW => ?_;obtain ⟨Ba, Bb, Bc, Bd, hw⟩ := N4 hW;clear hW;refine (ca _).mono ?_;rintro e w2 ⟨rfl, hb⟩;obtain ⟨Ba, Bb, Bc, Bd, hw, F_abcd⟩ := X4 Ba Bb Bc Bd hw hb;clear hb;go_wp2_with fail;refine (cb _).mono ?_;rintro e w3 ⟨rfl, hb⟩;clear F_abcd;obtain ⟨Ba, Bb, Bc, Bd, hw, F_abcd⟩ := X4 Ba Bb Bc Bd hw hb;clear hb;go_wp2_with fail;refine (cc _).mono ?_;rintro e w4 ⟨rfl, hb⟩;clear F_abcd;obtain ⟨Ba, Bb, Bc, Bd, hw, F_abcd⟩ := X4 Ba Bb Bc Bd hw hb;clear hb;go_wp2_with fail;refine (cd _).mono ?_;rintro e w5 ⟨rfl, hb⟩;clear F_abcd;obtain ⟨Ba, Bb, Bc, Bd, hw, F_abcd⟩ := X4 Ba Bb Bc Bd hw hb;clear hb;go_wp2;refine zA2 fun W6 hW => ?_;subst hW;clear F_abcd;have g_abcd := J4 Ba.cells Bb.cells Bc.cells Bd.cells;refine wrt 8 (by kernel_rfl) (by kernel_rfl) ?_;simp only [tK1, tK0, dP1, dP0];repeat (first | (refine zA0 (Eq.refl false) ?_; simp only [Act.put, sT2, sT1, sT0]) | (refine rWalk_step (fun K hK => ?_); go_simp; first | (refine hK _ ?_; clear hK K) | (apply Exists.intro; refine ⟨fun _ => ?_, hK _ ?_⟩; (first | with_reducible exact toExt o1 _ | with_reducible exact toExt o2 _); clear hK K)))
 refine rWalk_nil ?_;intro w7 hb;clear g_abcd;obtain ⟨Ba, Bb, Bc, Bd, hw, F_abcd⟩ := X4 Ba Bb Bc Bd hw hb;go_wp2
 go_ret
 exact ⟨rfl, hw⟩
theorem meet_z4 (a b c d : Pt) (ha : vld a = true) (hb : vld b = true) (hc : vld c = true) (hd : vld d = true) (e1 : peqI a.x a.y b.x b.y = false) (e2 : peqI c.x c.y d.x d.y = false) (z1 : ori a b c = 0) (z2 : ¬ ori a b d = 0) (q1 : peqI a.x a.y c.x c.y = false) (q2 : peqI a.x a.y d.x d.y = false) (q3 : peqI b.x b.y c.x c.y = false) (q4 : peqI b.x b.y d.x d.y = false) (w : World) :
    Calls Tryz.prog 55 #[.agg #[.int .i64 a.x, .int .i64 a.y], .agg #[.int .i64 b.x, .int .i64 b.y], .agg #[.int .i64 c.x, .int .i64 c.y], .agg #[.int .i64 d.x, .int .i64 d.y]] w fun e w' => e = .returned (.int .i64 (fin (ori c d a) (ori c d b) 0 (ori a b d))) ∧ Below w.heap.size w w' := by
 have ca := zA4 a;rw [ha] at ca;clear ha;have cb := zA4 b;rw [hb] at cb;clear hb;have cc := zA4 c;rw [hc] at cc;clear hc;have cd := zA4 d;rw [hd] at cd;clear hd;have o1 := zA8 a b c;have o2 := zA8 a b d;have o3 := zA8 c d a;have o4 := zA8 c d b;generalize ori c d a = A at *
 generalize ori c d b = B at *
 rw [z1] at o1;generalize ori a b d = D at *
 have t1 : (D == 0) = false := by simpa using z2
 clear z1 z2
 go_enter Tryz.func55, Tryz.ntmps55
 go_wp2_with fail;refine zA1 fun W1 hW => ?_;obtain ⟨Ba, Bb, Bc, Bd, hw⟩ := N4 hW;clear hW;refine (ca _).mono ?_;rintro e w2 ⟨rfl, hb⟩;obtain ⟨Ba, Bb, Bc, Bd, hw, F_abcd⟩ := X4 Ba Bb Bc Bd hw hb;clear hb;go_wp2_with fail;refine (cb _).mono ?_;rintro e w3 ⟨rfl, hb⟩;clear F_abcd;obtain ⟨Ba, Bb, Bc, Bd, hw, F_abcd⟩ := X4 Ba Bb Bc Bd hw hb;clear hb;go_wp2_with fail;refine (cc _).mono ?_;rintro e w4 ⟨rfl, hb⟩;clear F_abcd;obtain ⟨Ba, Bb, Bc, Bd, hw, F_abcd⟩ := X4 Ba Bb Bc Bd hw hb;clear hb;go_wp2_with fail;refine (cd _).mono ?_;rintro e w5 ⟨rfl, hb⟩;clear F_abcd;obtain ⟨Ba, Bb, Bc, Bd, hw, F_abcd⟩ := X4 Ba Bb Bc Bd hw hb;clear hb;go_wp2;refine zA2 fun W6 hW => ?_;subst hW;clear F_abcd;have g_abcd := J4 Ba.cells Bb.cells Bc.cells Bd.cells;refine wrt 8 (by kernel_rfl) (by kernel_rfl) ?_;simp only [tK1, tK0, dP1, dP0];repeat (first | (refine zA0 (Eq.refl false) ?_; simp only [Act.put, sT2, sT1, sT0]) | (refine rWalk_step (fun K hK => ?_); go_simp; first | (refine hK _ ?_; clear hK K) | (apply Exists.intro; refine ⟨fun _ => ?_, hK _ ?_⟩; (first | with_reducible exact toExt o1 _ | with_reducible exact toExt o2 _); clear hK K)))
 refine rWalk_nil ?_;intro w7 hb;clear g_abcd;obtain ⟨Ba, Bb, Bc, Bd, hw, F_abcd⟩ := X4 Ba Bb Bc Bd hw hb;go_wp2;refine zA2 fun W8 hW => ?_;subst hW;clear F_abcd;have g_abcd := J4 Ba.cells Bb.cells Bc.cells Bd.cells;refine wrt 8 (by kernel_rfl) (by kernel_rfl) ?_;simp only [tK1, tK0, dP1, dP0];repeat (first | (refine zA0 (Eq.refl false) ?_; simp only [Act.put, sT2, sT1, sT0]) | (refine rWalk_step (fun K hK => ?_); go_simp; first | (refine hK _ ?_; clear hK K) | (apply Exists.intro; refine ⟨fun _ => ?_, hK _ ?_⟩; (first | with_reducible exact toExt o3 _ | with_reducible exact toExt o4 _); clear hK K)))
 refine rWalk_nil ?_;intro w9 hb;clear g_abcd;obtain ⟨Ba, Bb, Bc, Bd, hw, -⟩ := X4 Ba Bb Bc Bd hw hb;go_wp2;all_goals go_ret
 all_goals exact ⟨zAu (by unfold fin; simp_all), hw⟩
end Go.Proofs.YtjkfakaehjmnbaaGreat
