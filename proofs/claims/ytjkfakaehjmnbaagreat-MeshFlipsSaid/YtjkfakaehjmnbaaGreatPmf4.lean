/- Put together: ExK, ExL. -/
import Derived.Test.YtjkfakaehjmnbaaGreatRows
import Derived.Test.YtjkfakaehjmnbaaGreatPmf3
import Derived.Test.YtjkfakaehjmnbaaGreatPmf1
import Derived.Test.YtjkfakaehjmnbaaGreatPmf2
import Derived.WalkKit
import Derived.WalkSpells
import Derived.WalkLawsBesides
import Derived.Laws.Externs
import Derived.Deep.QuietTactic
import Derived.BigQuiet
import Derived.Lib.Hide
import Derived.Handy
set_option maxRecDepth 100000
set_option maxHeartbeats 8000000
namespace Go.Proofs.YtjkfakaehjmnbaaGreat
open Go.RowKit Go.Sort
attribute [local go_sem] rOper rAt rUpon cell_set sg_i64 sg_u64 alloc_cell alloc_frozen
attribute [local go_sem 10000] pt_eql pt_neq
attribute [local irreducible] rWalk
theorem rcircle_0 (a b c d : Pt) (h0 : ori a b c = 0) (w : World) :
    Calls Tryz.prog 40 #[.agg #[.int .i64 a.x, .int .i64 a.y], .agg #[.int .i64 b.x, .int .i64 b.y], .agg #[.int .i64 c.x, .int .i64 c.y], .agg #[.int .i64 d.x, .int .i64 d.y]] w fun e w' => e = .returned (.int .i64 0) ∧ Below w.heap.size w w' := by
 have co := zA5 a b c;rw [h0] at co;clear h0
 go_enter Tryz.func40, Tryz.ntmps40
 go_wp2_with fail;refine zA1 fun W1 hW => ?_;obtain ⟨Ba, Bb, Bc, Bd, hw⟩ := N4 hW;clear hW;refine (co _).mono ?_;rintro e w2 ⟨rfl, hb⟩;obtain ⟨Ba, Bb, Bc, Bd, hw, -⟩ := X4 Ba Bb Bc Bd hw hb;clear hb;go_wp2
 go_ret
 exact ⟨rfl, hw⟩
theorem zIc (a b c d : Pt) (h0 : ¬ ori a b c = 0) (hv : vld d = false) (w : World) :
    Calls Tryz.prog 40 #[.agg #[.int .i64 a.x, .int .i64 a.y], .agg #[.int .i64 b.x, .int .i64 b.y], .agg #[.int .i64 c.x, .int .i64 c.y], .agg #[.int .i64 d.x, .int .i64 d.y]] w fun e w' => e = .returned (.int .i64 0) ∧ Below w.heap.size w w' := by
 have co := zA5 a b c;have cv := zA6 d;rw [hv] at cv;clear hv;have bo := zC4 a b c;generalize ori a b c = o at *
 have t0 : (o == 0) = false := by simpa using h0
 clear h0
 go_enter Tryz.func40, Tryz.ntmps40
 go_wp2_with fail;refine zA1 fun W1 hW => ?_;obtain ⟨Ba, Bb, Bc, Bd, hw⟩ := N4 hW;clear hW;refine (co _).mono ?_;rintro e w2 ⟨rfl, hb⟩;obtain ⟨Ba, Bb, Bc, Bd, hw, F_abcd⟩ := X4 Ba Bb Bc Bd hw hb;clear hb;go_wp2_with fail;refine (cv _).mono ?_;rintro e w3 ⟨rfl, hb⟩;clear F_abcd;obtain ⟨Ba, Bb, Bc, Bd, hw, F_abcd⟩ := X4 Ba Bb Bc Bd hw hb;clear hb;go_wp2
 go_ret
 exact ⟨rfl, hw⟩
theorem zIb (a b c d : Pt) (h0 : ¬ ori a b c = 0) (hv : vld d = true) (e1 : peqI d.x d.y a.x a.y = true) (w : World) :
    Calls Tryz.prog 40 #[.agg #[.int .i64 a.x, .int .i64 a.y], .agg #[.int .i64 b.x, .int .i64 b.y], .agg #[.int .i64 c.x, .int .i64 c.y], .agg #[.int .i64 d.x, .int .i64 d.y]] w fun e w' => e = .returned (.int .i64 0) ∧ Below w.heap.size w w' := by
 have co := zA5 a b c;have cv := zA6 d;rw [hv] at cv;clear hv;have bo := zC4 a b c;generalize ori a b c = o at *
 have t0 : (o == 0) = false := by simpa using h0
 clear h0
 go_enter Tryz.func40, Tryz.ntmps40
 go_wp2_with fail;refine zA1 fun W1 hW => ?_;obtain ⟨Ba, Bb, Bc, Bd, hw⟩ := N4 hW;clear hW;refine (co _).mono ?_;rintro e w2 ⟨rfl, hb⟩;obtain ⟨Ba, Bb, Bc, Bd, hw, F_abcd⟩ := X4 Ba Bb Bc Bd hw hb;clear hb;go_wp2_with fail;refine (cv _).mono ?_;rintro e w3 ⟨rfl, hb⟩;clear F_abcd;obtain ⟨Ba, Bb, Bc, Bd, hw, F_abcd⟩ := X4 Ba Bb Bc Bd hw hb;clear hb;go_wp2
 go_ret
 exact ⟨rfl, hw⟩
theorem zIa (a b c d : Pt) (h0 : ¬ ori a b c = 0) (hv : vld d = true) (e1 : peqI d.x d.y a.x a.y = false) (e2 : peqI d.x d.y b.x b.y = true) (w : World) :
    Calls Tryz.prog 40 #[.agg #[.int .i64 a.x, .int .i64 a.y], .agg #[.int .i64 b.x, .int .i64 b.y], .agg #[.int .i64 c.x, .int .i64 c.y], .agg #[.int .i64 d.x, .int .i64 d.y]] w fun e w' => e = .returned (.int .i64 0) ∧ Below w.heap.size w w' := by
 have co := zA5 a b c;have cv := zA6 d;rw [hv] at cv;clear hv;have bo := zC4 a b c;generalize ori a b c = o at *
 have t0 : (o == 0) = false := by simpa using h0
 clear h0
 go_enter Tryz.func40, Tryz.ntmps40
 go_wp2_with fail;refine zA1 fun W1 hW => ?_;obtain ⟨Ba, Bb, Bc, Bd, hw⟩ := N4 hW;clear hW;refine (co _).mono ?_;rintro e w2 ⟨rfl, hb⟩;obtain ⟨Ba, Bb, Bc, Bd, hw, F_abcd⟩ := X4 Ba Bb Bc Bd hw hb;clear hb;go_wp2_with fail;refine (cv _).mono ?_;rintro e w3 ⟨rfl, hb⟩;clear F_abcd;obtain ⟨Ba, Bb, Bc, Bd, hw, F_abcd⟩ := X4 Ba Bb Bc Bd hw hb;clear hb;go_wp2
 go_ret
 exact ⟨rfl, hw⟩
theorem zI9 (a b c d : Pt) (h0 : ¬ ori a b c = 0) (hv : vld d = true) (e1 : peqI d.x d.y a.x a.y = false) (e2 : peqI d.x d.y b.x b.y = false) (e3 : peqI d.x d.y c.x c.y = true) (w : World) :
    Calls Tryz.prog 40 #[.agg #[.int .i64 a.x, .int .i64 a.y], .agg #[.int .i64 b.x, .int .i64 b.y], .agg #[.int .i64 c.x, .int .i64 c.y], .agg #[.int .i64 d.x, .int .i64 d.y]] w fun e w' => e = .returned (.int .i64 0) ∧ Below w.heap.size w w' := by
 have co := zA5 a b c;have cv := zA6 d;rw [hv] at cv;clear hv;have bo := zC4 a b c;generalize ori a b c = o at *
 have t0 : (o == 0) = false := by simpa using h0
 clear h0
 go_enter Tryz.func40, Tryz.ntmps40
 go_wp2_with fail;refine zA1 fun W1 hW => ?_;obtain ⟨Ba, Bb, Bc, Bd, hw⟩ := N4 hW;clear hW;refine (co _).mono ?_;rintro e w2 ⟨rfl, hb⟩;obtain ⟨Ba, Bb, Bc, Bd, hw, F_abcd⟩ := X4 Ba Bb Bc Bd hw hb;clear hb;go_wp2_with fail;refine (cv _).mono ?_;rintro e w3 ⟨rfl, hb⟩;clear F_abcd;obtain ⟨Ba, Bb, Bc, Bd, hw, F_abcd⟩ := X4 Ba Bb Bc Bd hw hb;clear hb;go_wp2
 go_ret
 exact ⟨rfl, hw⟩
theorem lft_r (u v z : Pt) : (u.x * u.x + u.y * u.y) * (v.x * z.y - z.x * v.y) + -((v.x * v.x + v.y * v.y) * (u.x * z.y - z.x * u.y)) + (z.x * z.x + z.y * z.y) * (u.x * v.y - v.x * u.y) = ht u * cr v z + ht v * cr z u + ht z * cr u v := by
 unfold ht cr; grind
theorem rcircle_5 (a b c d : Pt) (h0 : ori a b c = 1) (hv : vld d = true) (e1 : peqI d.x d.y a.x a.y = false) (e2 : peqI d.x d.y b.x b.y = false) (e3 : peqI d.x d.y c.x c.y = false) (hl : ¬ sgn (lft a b c d) = 0) (w : World) :
    Calls Tryz.prog 40 #[.agg #[.int .i64 a.x, .int .i64 a.y], .agg #[.int .i64 b.x, .int .i64 b.y], .agg #[.int .i64 c.x, .int .i64 c.y], .agg #[.int .i64 d.x, .int .i64 d.y]] w fun e w' => e = .returned (.int .i64 (sgn (lft a b c d))) ∧ Below w.heap.size w w' := by
 have hvv : vld a = true ∧ vld b = true ∧ vld c = true := zCl (by omega);obtain ⟨va, vb, vc⟩ := hvv;have co := zA5 a b c;rw [h0] at co;have cv := zA6 d;rw [hv] at cv;have su := zEp hv va;have sv := zEp hv vb;have sz := zEp hv vc;have el := lft_r (way d a) (way d b) (way d c);have el' : lft a b c d = ht (way d a) * cr (way d b) (way d c) + ht (way d b) * cr (way d c) (way d a) + ht (way d c) * cr (way d a) (way d b) := rfl;rw [← el'] at el;have ww1 : IntKind.i64.wrap (a.x - d.x) = (way d a).x := by rw [zAx] at *; rw [IntKind.wrap_i64]; unfold way; simp only; omega
 have ww2 : IntKind.i64.wrap (a.y - d.y) = (way d a).y := by rw [zAx] at *; rw [IntKind.wrap_i64]; unfold way; simp only; omega
 have ww3 : IntKind.i64.wrap (b.x - d.x) = (way d b).x := by rw [zAx] at *; rw [IntKind.wrap_i64]; unfold way; simp only; omega
 have ww4 : IntKind.i64.wrap (b.y - d.y) = (way d b).y := by rw [zAx] at *; rw [IntKind.wrap_i64]; unfold way; simp only; omega
 have ww5 : IntKind.i64.wrap (c.x - d.x) = (way d c).x := by rw [zAx] at *; rw [IntKind.wrap_i64]; unfold way; simp only; omega
 have ww6 : IntKind.i64.wrap (c.y - d.y) = (way d c).y := by rw [zAx] at *; rw [IntKind.wrap_i64]; unfold way; simp only; omega
 clear el';generalize way d a = u at *
 generalize way d b = v at *
 generalize way d c = z at *
 have a1 := zBi su.1 su.1;have a2 := zBi su.2 su.2;have a3 := zBi sv.1 sv.1;have a4 := zBi sv.2 sv.2;have a5 := zBi sz.1 sz.1;have a6 := zBi sz.2 sz.2;have a7 := zBi sv.1 sz.2;have a8 := zBi sz.1 sv.2;have a9 := zBi su.1 sz.2;have a10 := zBi sz.1 su.2;have a11 := zBi su.1 sv.2;have a12 := zBi sv.1 su.2;have g1 := zDa u.x;have g2 := zDa u.y;have g3 := zDa v.x;have g4 := zDa v.y;have g5 := zDa z.x;have g6 := zDa z.y;have m1 := r_mul (u.x * u.x + u.y * u.y) (v.x * z.y - z.x * v.y) (by omega) (by omega) (by omega) (by omega);have m2 := r_mul (v.x * v.x + v.y * v.y) (u.x * z.y - z.x * u.y) (by omega) (by omega) (by omega) (by omega);have m3 := r_mul (z.x * z.x + z.y * z.y) (u.x * v.y - v.x * u.y) (by omega) (by omega) (by omega) (by omega);have p1 := zGd (p := u.x * u.x + u.y * u.y) (q := v.x * z.y - z.x * v.y) (by omega) (by omega);have p2 := zGd (p := v.x * v.x + v.y * v.y) (q := u.x * z.y - z.x * u.y) (by omega) (by omega);have p3 := zGd (p := z.x * z.x + z.y * z.y) (q := u.x * v.y - v.x * u.y) (by omega) (by omega);generalize (u.x * u.x + u.y * u.y) * (v.x * z.y - z.x * v.y) = P1 at *
 generalize (v.x * v.x + v.y * v.y) * (u.x * z.y - z.x * u.y) = P2 at *
 generalize (z.x * z.x + z.y * z.y) * (u.x * v.y - v.x * u.y) = P3 at *
 have n2 := zK8 (cH P2) (cL P2) (ok_c _);rw [V_c (zAl.2 ⟨by omega, by omega⟩), (m_c (n := -P2) (zAl.2 ⟨by omega, by omega⟩)).1, (m_c (n := -P2) (zAl.2 ⟨by omega, by omega⟩)).2] at n2;have s1 := zE4 (cH P1) (cL P1) (cH (-P2)) (cL (-P2)) (ok_c _) (ok_c _);rw [V_c (zAl.2 ⟨by omega, by omega⟩), V_c (zAl.2 ⟨by omega, by omega⟩), (m_c (n := P1 + -P2) (zAl.2 ⟨by omega, by omega⟩)).1, (m_c (n := P1 + -P2) (zAl.2 ⟨by omega, by omega⟩)).2] at s1;have s2 := zE4 (cH (P1 + -P2)) (cL (P1 + -P2)) (cH P3) (cL P3) (ok_c _) (ok_c _);rw [V_c (zAl.2 ⟨by omega, by omega⟩), V_c (zAl.2 ⟨by omega, by omega⟩), (m_c (n := P1 + -P2 + P3) (zAl.2 ⟨by omega, by omega⟩)).1, (m_c (n := P1 + -P2 + P3) (zAl.2 ⟨by omega, by omega⟩)).2] at s2;have s3 := r_sign (cH (P1 + -P2 + P3)) (cL (P1 + -P2 + P3)) (ok_c _);rw [V_c (zAl.2 ⟨by omega, by omega⟩)] at s3;generalize cH (P1 + -P2 + P3) = H3 at *
 generalize cL (P1 + -P2 + P3) = L3 at *
 rw [el] at s3;clear p1 p2 p3 el su sv sz va vb vc hv h0;generalize sgn (lft a b c d) = S at *
 generalize cH (P1 + -P2) = H2 at *
 generalize cL (P1 + -P2) = L2 at *
 generalize cH P1 = H0 at *
 generalize cL P1 = L0 at *
 generalize cH (-P2) = H5 at *
 generalize cL (-P2) = L5 at *
 generalize cH P2 = H1 at *
 generalize cL P2 = L1 at *
 generalize cH P3 = H4 at *
 generalize cL P3 = L4 at *
 have t1 : (S != 0) = true := by simpa using hl
 clear hl
 go_enter Tryz.func40, Tryz.ntmps40
 go_wp2_with fail;refine zA1 fun W1 hW => ?_;obtain ⟨Ba, Bb, Bc, Bd, hw⟩ := N4 hW;clear hW;refine (co _).mono ?_;rintro e w2 ⟨rfl, hb⟩;obtain ⟨Ba, Bb, Bc, Bd, hw, -⟩ := X4 Ba Bb Bc Bd hw hb;clear hb;obtain ⟨xa, ya, za, va⟩ := Ba.f;obtain ⟨xb, yb, zb, vb⟩ := Bb.f;obtain ⟨xc, yc, zc, vc⟩ := Bc.f;obtain ⟨xd, yd, zd, vd⟩ := Bd.f;go_wp2_with fail;refine (cv _).mono ?_;rintro e w3 ⟨rfl, hb⟩;clear xa ya za va xb yb zb vb xc yc zc vc xd yd zd vd;obtain ⟨Ba, Bb, Bc, Bd, hw, -⟩ := X4 Ba Bb Bc Bd hw hb;clear hb;obtain ⟨xa, ya, za, va⟩ := Ba.f;obtain ⟨xb, yb, zb, vb⟩ := Bb.f;obtain ⟨xc, yc, zc, vc⟩ := Bc.f;obtain ⟨xd, yd, zd, vd⟩ := Bd.f;go_wp2;refine zA2 fun W4 hW => ?_;subst hW;clear xa ya za va xb yb zb vb xc yc zc vc xd yd zd vd;have ga := Ba.cells;have gb := Bb.cells;have gc := Bc.cells;have gd := Bd.cells;refine wrt 35 (by kernel_rfl) (by kernel_rfl) ?_;simp only [tK1, tK0, dP1, dP0];repeat (first | (refine zA0 (Eq.refl false) ?_; simp only [Act.put, sT2, sT1, sT0]) | (refine rWalk_step (fun K hK => ?_); go_simp; refine hK _ ?_; clear hK K))
 refine rWalk_nil ?_;intro w5 hb;clear ga gb gc gd;obtain ⟨Ba, Bb, Bc, Bd, hw, -⟩ := X4 Ba Bb Bc Bd hw hb;clear ww1 ww2 ww3 ww4 ww5 ww6;obtain ⟨xa, ya, za, va⟩ := Ba.f;obtain ⟨xb, yb, zb, vb⟩ := Bb.f;obtain ⟨xc, yc, zc, vc⟩ := Bc.f;obtain ⟨xd, yd, zd, vd⟩ := Bd.f;go_wp2_with fail;refine (m1 _).mono ?_;rintro e w6 ⟨rfl, hb⟩;clear xa ya za va xb yb zb vb xc yc zc vc xd yd zd vd;obtain ⟨Ba, Bb, Bc, Bd, hw, -⟩ := X4 Ba Bb Bc Bd hw hb;clear hb;obtain ⟨xa, ya, za, va⟩ := Ba.f;obtain ⟨xb, yb, zb, vb⟩ := Bb.f;obtain ⟨xc, yc, zc, vc⟩ := Bc.f;obtain ⟨xd, yd, zd, vd⟩ := Bd.f;go_wp2_with fail;refine zA2 fun W7 hW => ?_;obtain ⟨bkz, hbz⟩ : ∃ b, w6.heap.size = b := ⟨_, rfl⟩;rw [hbz];obtain ⟨laz, lbz, lcz, ldz, fz, Bz, Ba, Bb, Bc, Bd, hw⟩ := M4 hW hbz Ba Bb Bc Bd hw;clear hW hbz;have rr0 : Hid (IntKind.i64.wrap (v.x * v.x) = v.x * v.x) := Lib.hid (by rw [IntKind.wrap_i64]; omega);have rr1 : Hid (IntKind.i64.wrap (v.y * v.y) = v.y * v.y) := Lib.hid (by rw [IntKind.wrap_i64]; omega);have rr2 : Hid (IntKind.i64.wrap (v.x * v.x + v.y * v.y) = v.x * v.x + v.y * v.y) := Lib.hid (by rw [IntKind.wrap_i64]; omega);have rr3 : Hid (IntKind.i64.wrap (u.x * z.y) = u.x * z.y) := Lib.hid (by rw [IntKind.wrap_i64]; omega);have rr4 : Hid (IntKind.i64.wrap (z.x * u.y) = z.x * u.y) := Lib.hid (by rw [IntKind.wrap_i64]; omega);have rr5 : Hid (IntKind.i64.wrap (u.x * z.y - z.x * u.y) = u.x * z.y - z.x * u.y) := Lib.hid (by rw [IntKind.wrap_i64]; omega);have qq0 := rr0.out;clear rr0;have qq1 := rr1.out;clear rr1;have qq2 := rr2.out;clear rr2;have qq3 := rr3.out;clear rr3;have qq4 := rr4.out;clear rr4;have qq5 := rr5.out;clear rr5;have ga := Ba.cells;have gb := Bb.cells;have gc := Bc.cells;have gd := Bd.cells;have gz := Bz.cells;refine wrt 18 (by kernel_rfl) (by kernel_rfl) ?_;simp only [tK1, tK0, dP1, dP0];repeat (first | (refine zA0 (Eq.refl false) ?_; simp only [Act.put, sT2, sT1, sT0]) | (refine rWalk_step (fun K hK => ?_); go_simp; first | (refine hK _ ?_; clear hK K) | (apply Exists.intro; refine ⟨fun _ => ?_, hK _ ?_⟩; (first | with_reducible exact toExt m2 _ | with_reducible exact toExt n2 _ | with_reducible exact toExt s1 _); clear hK K)))
 refine rWalk_nil ?_;intro w8 hb;clear ga gb gc gd gz;clear xa ya za va xb yb zb vb xc yc zc vc xd yd zd vd;obtain ⟨Ba, Bb, Bc, Bd, Bz, hw, -⟩ := X5 Ba Bb Bc Bd Bz hw hb;clear qq0 qq1 qq2 qq3 qq4 qq5;obtain ⟨xa, ya, za, va⟩ := Ba.f;obtain ⟨xb, yb, zb, vb⟩ := Bb.f;obtain ⟨xc, yc, zc, vc⟩ := Bc.f;obtain ⟨xd, yd, zd, vd⟩ := Bd.f;obtain ⟨xz, yz, zz, vz⟩ := Bz.f;go_wp2_with fail;refine zA2 fun W9 hW => ?_;have Ca : Box W9 (w.heap.size) [.int .i64 a.x, .int .i64 a.y] 30 := by rw [hW]; exact ((Ba.sn bkz 0 (.int .i64 H2) (by first | assumption | omega)).sn bkz 1 (.int .u64 L2) (by first | assumption | omega))
 have Cb : Box W9 (w.heap.size + 1) [.int .i64 b.x, .int .i64 b.y] 30 := by rw [hW]; exact ((Bb.sn bkz 0 (.int .i64 H2) (by first | assumption | omega)).sn bkz 1 (.int .u64 L2) (by first | assumption | omega))
 have Cc : Box W9 (w.heap.size + 1 + 1) [.int .i64 c.x, .int .i64 c.y] 30 := by rw [hW]; exact ((Bc.sn bkz 0 (.int .i64 H2) (by first | assumption | omega)).sn bkz 1 (.int .u64 L2) (by first | assumption | omega))
 have Cd : Box W9 (w.heap.size + 1 + 1 + 1) [.int .i64 d.x, .int .i64 d.y] 30 := by rw [hW]; exact ((Bd.sn bkz 0 (.int .i64 H2) (by first | assumption | omega)).sn bkz 1 (.int .u64 L2) (by first | assumption | omega))
 have Cz : Box W9 (bkz) [.int .i64 H2, .int .u64 L2] 129 := by rw [hW]; exact ((Bz.set 0 (.int .i64 H2)).set 1 (.int .u64 L2))
 replace hw : Below w.heap.size w W9 := by have hl := hw.size; rw [hW]; go_grown
 clear xa ya za va xb yb zb vb xc yc zc vc xd yd zd vd xz yz zz vz;clear hW Ba Bb Bc Bd Bz;have Ba := Ca;have Bb := Cb;have Bc := Cc;have Bd := Cd;have Bz := Cz;clear Ca Cb Cc Cd Cz;have rr0 : Hid (IntKind.i64.wrap (z.x * z.x) = z.x * z.x) := Lib.hid (by rw [IntKind.wrap_i64]; omega);have rr1 : Hid (IntKind.i64.wrap (z.y * z.y) = z.y * z.y) := Lib.hid (by rw [IntKind.wrap_i64]; omega);have rr2 : Hid (IntKind.i64.wrap (z.x * z.x + z.y * z.y) = z.x * z.x + z.y * z.y) := Lib.hid (by rw [IntKind.wrap_i64]; omega);have rr3 : Hid (IntKind.i64.wrap (u.x * v.y) = u.x * v.y) := Lib.hid (by rw [IntKind.wrap_i64]; omega);have rr4 : Hid (IntKind.i64.wrap (v.x * u.y) = v.x * u.y) := Lib.hid (by rw [IntKind.wrap_i64]; omega);have rr5 : Hid (IntKind.i64.wrap (u.x * v.y - v.x * u.y) = u.x * v.y - v.x * u.y) := Lib.hid (by rw [IntKind.wrap_i64]; omega);have qq0 := rr0.out;clear rr0;have qq1 := rr1.out;clear rr1;have qq2 := rr2.out;clear rr2;have qq3 := rr3.out;clear rr3;have qq4 := rr4.out;clear rr4;have qq5 := rr5.out;clear rr5;have ga := Ba.cells;have gb := Bb.cells;have gc := Bc.cells;have gd := Bd.cells;have gz := Bz.cells;refine wrt 17 (by kernel_rfl) (by kernel_rfl) ?_;simp only [tK1, tK0, dP1, dP0];repeat (first | (refine zA0 (Eq.refl false) ?_; simp only [Act.put, sT2, sT1, sT0]) | (refine rWalk_step (fun K hK => ?_); go_simp; first | (refine hK _ ?_; clear hK K) | (apply Exists.intro; refine ⟨fun _ => ?_, hK _ ?_⟩; (first | with_reducible exact toExt m3 _ | with_reducible exact toExt s2 _); clear hK K)))
 refine rWalk_nil ?_;intro w10 hb;clear ga gb gc gd gz;obtain ⟨Ba, Bb, Bc, Bd, Bz, hw, -⟩ := X5 Ba Bb Bc Bd Bz hw hb;clear qq0 qq1 qq2 qq3 qq4 qq5 a1 a2 a3 a4 a5 a6 a7 a8 a9 a10 a11 a12 g1 g2 g3 g4 g5 g6;obtain ⟨xa, ya, za, va⟩ := Ba.f;obtain ⟨xb, yb, zb, vb⟩ := Bb.f;obtain ⟨xc, yc, zc, vc⟩ := Bc.f;obtain ⟨xd, yd, zd, vd⟩ := Bd.f;obtain ⟨xz, yz, zz, vz⟩ := Bz.f;go_wp2_with fail;refine zA1 fun W11 hW => ?_;have Ca : Box W11 (w.heap.size) [.int .i64 a.x, .int .i64 a.y] 30 := by rw [hW]; exact ((Ba.sn bkz 0 (.int .i64 H3) (by first | assumption | omega)).sn bkz 1 (.int .u64 L3) (by first | assumption | omega))
 have Cb : Box W11 (w.heap.size + 1) [.int .i64 b.x, .int .i64 b.y] 30 := by rw [hW]; exact ((Bb.sn bkz 0 (.int .i64 H3) (by first | assumption | omega)).sn bkz 1 (.int .u64 L3) (by first | assumption | omega))
 have Cc : Box W11 (w.heap.size + 1 + 1) [.int .i64 c.x, .int .i64 c.y] 30 := by rw [hW]; exact ((Bc.sn bkz 0 (.int .i64 H3) (by first | assumption | omega)).sn bkz 1 (.int .u64 L3) (by first | assumption | omega))
 have Cd : Box W11 (w.heap.size + 1 + 1 + 1) [.int .i64 d.x, .int .i64 d.y] 30 := by rw [hW]; exact ((Bd.sn bkz 0 (.int .i64 H3) (by first | assumption | omega)).sn bkz 1 (.int .u64 L3) (by first | assumption | omega))
 have Cz : Box W11 (bkz) [.int .i64 H3, .int .u64 L3] 129 := by rw [hW]; exact ((Bz.set 0 (.int .i64 H3)).set 1 (.int .u64 L3))
 replace hw : Below w.heap.size w W11 := by have hl := hw.size; rw [hW]; go_grown
 clear xa ya za va xb yb zb vb xc yc zc vc xd yd zd vd xz yz zz vz;clear hW Ba Bb Bc Bd Bz;have Ba := Ca;have Bb := Cb;have Bc := Cc;have Bd := Cd;have Bz := Cz;clear Ca Cb Cc Cd Cz;refine (s3 _).mono ?_;rintro e w12 ⟨rfl, hb⟩;obtain ⟨Ba, Bb, Bc, Bd, Bz, hw, -⟩ := X5 Ba Bb Bc Bd Bz hw hb;clear hb;go_wp2
 go_ret
 exact ⟨rfl, hw⟩
theorem zGq {a b c d : Int} : peqI a b c d = peqI c d a b := by
 rw [Bool.eq_iff_iff, zBx, zBx]; omega
theorem zGr (a b : Int) : peqI a b a b = true := by rw [zBx]; exact ⟨rfl, rfl⟩
theorem det_ne {a b c : Pt} (h : ¬ ori a b c = 0) : peqI b.x b.y a.x a.y = false ∧ peqI c.x c.y a.x a.y = false ∧ peqI c.x c.y b.x b.y = false := by
 have hd : ¬ det a b c = 0 := fun hd => h (by unfold ori; rw [hd]; simp [sgn]);refine ⟨?_, ?_, ?_⟩ <;> (rw [← Bool.not_eq_true, zBx]; rintro ⟨h1, h2⟩; apply hd; unfold det; rw [h1, h2])
 ·simp
 ·simp
 ·grind
theorem rcircle_6 (a b c d : Pt) (h0 : ori a b c = 1) (hv : vld d = true) (e1 : peqI d.x d.y a.x a.y = false) (e2 : peqI d.x d.y b.x b.y = false) (e3 : peqI d.x d.y c.x c.y = false) (hl : sgn (lft a b c d) = 0) (w : World) :
    Calls Tryz.prog 40 #[.agg #[.int .i64 a.x, .int .i64 a.y], .agg #[.int .i64 b.x, .int .i64 b.y], .agg #[.int .i64 c.x, .int .i64 c.y], .agg #[.int .i64 d.x, .int .i64 d.y]] w fun e w' => e = .returned (.int .i64 (tie a b c d (lsr c (lsr b (lsr a d))) 1)) ∧ Below w.heap.size w w' := by
 have hvv : vld a = true ∧ vld b = true ∧ vld c = true := zCl (by omega);obtain ⟨va, vb, vc⟩ := hvv;have co := zA5 a b c;rw [h0] at co;have cv := zA6 d;rw [hv] at cv;have su := zEp hv va;have sv := zEp hv vb;have sz := zEp hv vc;have el := lft_r (way d a) (way d b) (way d c);have el' : lft a b c d = ht (way d a) * cr (way d b) (way d c) + ht (way d b) * cr (way d c) (way d a) + ht (way d c) * cr (way d a) (way d b) := rfl;rw [← el'] at el;have ww1 : IntKind.i64.wrap (a.x - d.x) = (way d a).x := by rw [zAx] at *; rw [IntKind.wrap_i64]; unfold way; simp only; omega
 have ww2 : IntKind.i64.wrap (a.y - d.y) = (way d a).y := by rw [zAx] at *; rw [IntKind.wrap_i64]; unfold way; simp only; omega
 have ww3 : IntKind.i64.wrap (b.x - d.x) = (way d b).x := by rw [zAx] at *; rw [IntKind.wrap_i64]; unfold way; simp only; omega
 have ww4 : IntKind.i64.wrap (b.y - d.y) = (way d b).y := by rw [zAx] at *; rw [IntKind.wrap_i64]; unfold way; simp only; omega
 have ww5 : IntKind.i64.wrap (c.x - d.x) = (way d c).x := by rw [zAx] at *; rw [IntKind.wrap_i64]; unfold way; simp only; omega
 have ww6 : IntKind.i64.wrap (c.y - d.y) = (way d c).y := by rw [zAx] at *; rw [IntKind.wrap_i64]; unfold way; simp only; omega
 clear el';generalize way d a = u at *
 generalize way d b = v at *
 generalize way d c = z at *
 have a1 := zBi su.1 su.1;have a2 := zBi su.2 su.2;have a3 := zBi sv.1 sv.1;have a4 := zBi sv.2 sv.2;have a5 := zBi sz.1 sz.1;have a6 := zBi sz.2 sz.2;have a7 := zBi sv.1 sz.2;have a8 := zBi sz.1 sv.2;have a9 := zBi su.1 sz.2;have a10 := zBi sz.1 su.2;have a11 := zBi su.1 sv.2;have a12 := zBi sv.1 su.2;have g1 := zDa u.x;have g2 := zDa u.y;have g3 := zDa v.x;have g4 := zDa v.y;have g5 := zDa z.x;have g6 := zDa z.y;have m1 := r_mul (u.x * u.x + u.y * u.y) (v.x * z.y - z.x * v.y) (by omega) (by omega) (by omega) (by omega);have m2 := r_mul (v.x * v.x + v.y * v.y) (u.x * z.y - z.x * u.y) (by omega) (by omega) (by omega) (by omega);have m3 := r_mul (z.x * z.x + z.y * z.y) (u.x * v.y - v.x * u.y) (by omega) (by omega) (by omega) (by omega);have p1 := zGd (p := u.x * u.x + u.y * u.y) (q := v.x * z.y - z.x * v.y) (by omega) (by omega);have p2 := zGd (p := v.x * v.x + v.y * v.y) (q := u.x * z.y - z.x * u.y) (by omega) (by omega);have p3 := zGd (p := z.x * z.x + z.y * z.y) (q := u.x * v.y - v.x * u.y) (by omega) (by omega);generalize (u.x * u.x + u.y * u.y) * (v.x * z.y - z.x * v.y) = P1 at *
 generalize (v.x * v.x + v.y * v.y) * (u.x * z.y - z.x * u.y) = P2 at *
 generalize (z.x * z.x + z.y * z.y) * (u.x * v.y - v.x * u.y) = P3 at *
 have n2 := zK8 (cH P2) (cL P2) (ok_c _);rw [V_c (zAl.2 ⟨by omega, by omega⟩), (m_c (n := -P2) (zAl.2 ⟨by omega, by omega⟩)).1, (m_c (n := -P2) (zAl.2 ⟨by omega, by omega⟩)).2] at n2;have s1 := zE4 (cH P1) (cL P1) (cH (-P2)) (cL (-P2)) (ok_c _) (ok_c _);rw [V_c (zAl.2 ⟨by omega, by omega⟩), V_c (zAl.2 ⟨by omega, by omega⟩), (m_c (n := P1 + -P2) (zAl.2 ⟨by omega, by omega⟩)).1, (m_c (n := P1 + -P2) (zAl.2 ⟨by omega, by omega⟩)).2] at s1;have s2 := zE4 (cH (P1 + -P2)) (cL (P1 + -P2)) (cH P3) (cL P3) (ok_c _) (ok_c _);rw [V_c (zAl.2 ⟨by omega, by omega⟩), V_c (zAl.2 ⟨by omega, by omega⟩), (m_c (n := P1 + -P2 + P3) (zAl.2 ⟨by omega, by omega⟩)).1, (m_c (n := P1 + -P2 + P3) (zAl.2 ⟨by omega, by omega⟩)).2] at s2;have s3 := r_sign (cH (P1 + -P2 + P3)) (cL (P1 + -P2 + P3)) (ok_c _);rw [V_c (zAl.2 ⟨by omega, by omega⟩)] at s3;generalize cH (P1 + -P2 + P3) = H3 at *
 generalize cL (P1 + -P2 + P3) = L3 at *
 rw [el] at s3;obtain ⟨d1, d2, d3⟩ := det_ne (a := a) (b := b) (c := c) (by rw [h0]; omega);clear p1 p2 p3 el su sv sz va vb vc hv h0;generalize sgn (lft a b c d) = S at *
 generalize cH (P1 + -P2) = H2 at *
 generalize cL (P1 + -P2) = L2 at *
 generalize cH P1 = H0 at *
 generalize cL P1 = L0 at *
 generalize cH (-P2) = H5 at *
 generalize cL (-P2) = L5 at *
 generalize cH P2 = H1 at *
 generalize cL P2 = L1 at *
 generalize cH P3 = H4 at *
 generalize cL P3 = L4 at *
 have f1 : peqI a.x a.y d.x d.y = false := by rw [zGq]; exact e1
 have f2 : peqI b.x b.y d.x d.y = false := by rw [zGq]; exact e2
 have f3 : peqI c.x c.y d.x d.y = false := by rw [zGq]; exact e3
 have i1 := zGr a.x a.y;have i2 := zGr b.x b.y;have i3 := zGr d.x d.y;have t1 : (S != 0) = false := by simpa using hl
 clear hl
 go_enter Tryz.func40, Tryz.ntmps40
 go_wp2_with fail;refine zA1 fun W1 hW => ?_;obtain ⟨Ba, Bb, Bc, Bd, hw⟩ := N4 hW;clear hW;refine (co _).mono ?_;rintro e w2 ⟨rfl, hb⟩;obtain ⟨Ba, Bb, Bc, Bd, hw, -⟩ := X4 Ba Bb Bc Bd hw hb;clear hb;obtain ⟨xa, ya, za, va⟩ := Ba.f;obtain ⟨xb, yb, zb, vb⟩ := Bb.f;obtain ⟨xc, yc, zc, vc⟩ := Bc.f;obtain ⟨xd, yd, zd, vd⟩ := Bd.f;go_wp2_with fail;refine (cv _).mono ?_;rintro e w3 ⟨rfl, hb⟩;clear xa ya za va xb yb zb vb xc yc zc vc xd yd zd vd;obtain ⟨Ba, Bb, Bc, Bd, hw, -⟩ := X4 Ba Bb Bc Bd hw hb;clear hb;obtain ⟨xa, ya, za, va⟩ := Ba.f;obtain ⟨xb, yb, zb, vb⟩ := Bb.f;obtain ⟨xc, yc, zc, vc⟩ := Bc.f;obtain ⟨xd, yd, zd, vd⟩ := Bd.f;go_wp2;refine zA2 fun W4 hW => ?_;subst hW;clear xa ya za va xb yb zb vb xc yc zc vc xd yd zd vd;have ga := Ba.cells;have gb := Bb.cells;have gc := Bc.cells;have gd := Bd.cells;refine wrt 35 (by kernel_rfl) (by kernel_rfl) ?_;simp only [tK1, tK0, dP1, dP0];repeat (first | (refine zA0 (Eq.refl false) ?_; simp only [Act.put, sT2, sT1, sT0]) | (refine rWalk_step (fun K hK => ?_); go_simp; refine hK _ ?_; clear hK K))
 refine rWalk_nil ?_;intro w5 hb;clear ga gb gc gd;obtain ⟨Ba, Bb, Bc, Bd, hw, -⟩ := X4 Ba Bb Bc Bd hw hb;clear ww1 ww2 ww3 ww4 ww5 ww6;obtain ⟨xa, ya, za, va⟩ := Ba.f;obtain ⟨xb, yb, zb, vb⟩ := Bb.f;obtain ⟨xc, yc, zc, vc⟩ := Bc.f;obtain ⟨xd, yd, zd, vd⟩ := Bd.f;go_wp2_with fail;refine (m1 _).mono ?_;rintro e w6 ⟨rfl, hb⟩;clear xa ya za va xb yb zb vb xc yc zc vc xd yd zd vd;obtain ⟨Ba, Bb, Bc, Bd, hw, -⟩ := X4 Ba Bb Bc Bd hw hb;clear hb;obtain ⟨xa, ya, za, va⟩ := Ba.f;obtain ⟨xb, yb, zb, vb⟩ := Bb.f;obtain ⟨xc, yc, zc, vc⟩ := Bc.f;obtain ⟨xd, yd, zd, vd⟩ := Bd.f;go_wp2_with fail;refine zA2 fun W7 hW => ?_;obtain ⟨bkz, hbz⟩ : ∃ b, w6.heap.size = b := ⟨_, rfl⟩;rw [hbz];obtain ⟨laz, lbz, lcz, ldz, fz, Bz, Ba, Bb, Bc, Bd, hw⟩ := M4 hW hbz Ba Bb Bc Bd hw;clear hW hbz;have rr0 : Hid (IntKind.i64.wrap (v.x * v.x) = v.x * v.x) := Lib.hid (by rw [IntKind.wrap_i64]; omega);have rr1 : Hid (IntKind.i64.wrap (v.y * v.y) = v.y * v.y) := Lib.hid (by rw [IntKind.wrap_i64]; omega);have rr2 : Hid (IntKind.i64.wrap (v.x * v.x + v.y * v.y) = v.x * v.x + v.y * v.y) := Lib.hid (by rw [IntKind.wrap_i64]; omega);have rr3 : Hid (IntKind.i64.wrap (u.x * z.y) = u.x * z.y) := Lib.hid (by rw [IntKind.wrap_i64]; omega);have rr4 : Hid (IntKind.i64.wrap (z.x * u.y) = z.x * u.y) := Lib.hid (by rw [IntKind.wrap_i64]; omega);have rr5 : Hid (IntKind.i64.wrap (u.x * z.y - z.x * u.y) = u.x * z.y - z.x * u.y) := Lib.hid (by rw [IntKind.wrap_i64]; omega);have qq0 := rr0.out;clear rr0;have qq1 := rr1.out;clear rr1;have qq2 := rr2.out;clear rr2;have qq3 := rr3.out;clear rr3;have qq4 := rr4.out;clear rr4;have qq5 := rr5.out;clear rr5;have ga := Ba.cells;have gb := Bb.cells;have gc := Bc.cells;have gd := Bd.cells;have gz := Bz.cells;refine wrt 18 (by kernel_rfl) (by kernel_rfl) ?_;simp only [tK1, tK0, dP1, dP0];repeat (first | (refine zA0 (Eq.refl false) ?_; simp only [Act.put, sT2, sT1, sT0]) | (refine rWalk_step (fun K hK => ?_); go_simp; first | (refine hK _ ?_; clear hK K) | (apply Exists.intro; refine ⟨fun _ => ?_, hK _ ?_⟩; (first | with_reducible exact toExt m2 _ | with_reducible exact toExt n2 _ | with_reducible exact toExt s1 _); clear hK K)))
 refine rWalk_nil ?_;intro w8 hb;clear ga gb gc gd gz;clear xa ya za va xb yb zb vb xc yc zc vc xd yd zd vd;obtain ⟨Ba, Bb, Bc, Bd, Bz, hw, -⟩ := X5 Ba Bb Bc Bd Bz hw hb;clear qq0 qq1 qq2 qq3 qq4 qq5;obtain ⟨xa, ya, za, va⟩ := Ba.f;obtain ⟨xb, yb, zb, vb⟩ := Bb.f;obtain ⟨xc, yc, zc, vc⟩ := Bc.f;obtain ⟨xd, yd, zd, vd⟩ := Bd.f;obtain ⟨xz, yz, zz, vz⟩ := Bz.f;go_wp2_with fail;refine zA2 fun W9 hW => ?_;have Ca : Box W9 (w.heap.size) [.int .i64 a.x, .int .i64 a.y] 30 := by rw [hW]; exact ((Ba.sn bkz 0 (.int .i64 H2) (by first | assumption | omega)).sn bkz 1 (.int .u64 L2) (by first | assumption | omega))
 have Cb : Box W9 (w.heap.size + 1) [.int .i64 b.x, .int .i64 b.y] 30 := by rw [hW]; exact ((Bb.sn bkz 0 (.int .i64 H2) (by first | assumption | omega)).sn bkz 1 (.int .u64 L2) (by first | assumption | omega))
 have Cc : Box W9 (w.heap.size + 1 + 1) [.int .i64 c.x, .int .i64 c.y] 30 := by rw [hW]; exact ((Bc.sn bkz 0 (.int .i64 H2) (by first | assumption | omega)).sn bkz 1 (.int .u64 L2) (by first | assumption | omega))
 have Cd : Box W9 (w.heap.size + 1 + 1 + 1) [.int .i64 d.x, .int .i64 d.y] 30 := by rw [hW]; exact ((Bd.sn bkz 0 (.int .i64 H2) (by first | assumption | omega)).sn bkz 1 (.int .u64 L2) (by first | assumption | omega))
 have Cz : Box W9 (bkz) [.int .i64 H2, .int .u64 L2] 129 := by rw [hW]; exact ((Bz.set 0 (.int .i64 H2)).set 1 (.int .u64 L2))
 replace hw : Below w.heap.size w W9 := by have hl := hw.size; rw [hW]; go_grown
 clear xa ya za va xb yb zb vb xc yc zc vc xd yd zd vd xz yz zz vz;clear hW Ba Bb Bc Bd Bz;have Ba := Ca;have Bb := Cb;have Bc := Cc;have Bd := Cd;have Bz := Cz;clear Ca Cb Cc Cd Cz;have rr0 : Hid (IntKind.i64.wrap (z.x * z.x) = z.x * z.x) := Lib.hid (by rw [IntKind.wrap_i64]; omega);have rr1 : Hid (IntKind.i64.wrap (z.y * z.y) = z.y * z.y) := Lib.hid (by rw [IntKind.wrap_i64]; omega);have rr2 : Hid (IntKind.i64.wrap (z.x * z.x + z.y * z.y) = z.x * z.x + z.y * z.y) := Lib.hid (by rw [IntKind.wrap_i64]; omega);have rr3 : Hid (IntKind.i64.wrap (u.x * v.y) = u.x * v.y) := Lib.hid (by rw [IntKind.wrap_i64]; omega);have rr4 : Hid (IntKind.i64.wrap (v.x * u.y) = v.x * u.y) := Lib.hid (by rw [IntKind.wrap_i64]; omega);have rr5 : Hid (IntKind.i64.wrap (u.x * v.y - v.x * u.y) = u.x * v.y - v.x * u.y) := Lib.hid (by rw [IntKind.wrap_i64]; omega);have qq0 := rr0.out;clear rr0;have qq1 := rr1.out;clear rr1;have qq2 := rr2.out;clear rr2;have qq3 := rr3.out;clear rr3;have qq4 := rr4.out;clear rr4;have qq5 := rr5.out;clear rr5;have ga := Ba.cells;have gb := Bb.cells;have gc := Bc.cells;have gd := Bd.cells;have gz := Bz.cells;refine wrt 17 (by kernel_rfl) (by kernel_rfl) ?_;simp only [tK1, tK0, dP1, dP0];repeat (first | (refine zA0 (Eq.refl false) ?_; simp only [Act.put, sT2, sT1, sT0]) | (refine rWalk_step (fun K hK => ?_); go_simp; first | (refine hK _ ?_; clear hK K) | (apply Exists.intro; refine ⟨fun _ => ?_, hK _ ?_⟩; (first | with_reducible exact toExt m3 _ | with_reducible exact toExt s2 _); clear hK K)))
 refine rWalk_nil ?_;intro w10 hb;clear ga gb gc gd gz;obtain ⟨Ba, Bb, Bc, Bd, Bz, hw, -⟩ := X5 Ba Bb Bc Bd Bz hw hb;clear qq0 qq1 qq2 qq3 qq4 qq5 a1 a2 a3 a4 a5 a6 a7 a8 a9 a10 a11 a12 g1 g2 g3 g4 g5 g6;obtain ⟨xa, ya, za, va⟩ := Ba.f;obtain ⟨xb, yb, zb, vb⟩ := Bb.f;obtain ⟨xc, yc, zc, vc⟩ := Bc.f;obtain ⟨xd, yd, zd, vd⟩ := Bd.f;obtain ⟨xz, yz, zz, vz⟩ := Bz.f;go_wp2_with fail;refine zA1 fun W11 hW => ?_;have Ca : Box W11 (w.heap.size) [.int .i64 a.x, .int .i64 a.y] 30 := by rw [hW]; exact ((Ba.sn bkz 0 (.int .i64 H3) (by first | assumption | omega)).sn bkz 1 (.int .u64 L3) (by first | assumption | omega))
 have Cb : Box W11 (w.heap.size + 1) [.int .i64 b.x, .int .i64 b.y] 30 := by rw [hW]; exact ((Bb.sn bkz 0 (.int .i64 H3) (by first | assumption | omega)).sn bkz 1 (.int .u64 L3) (by first | assumption | omega))
 have Cc : Box W11 (w.heap.size + 1 + 1) [.int .i64 c.x, .int .i64 c.y] 30 := by rw [hW]; exact ((Bc.sn bkz 0 (.int .i64 H3) (by first | assumption | omega)).sn bkz 1 (.int .u64 L3) (by first | assumption | omega))
 have Cd : Box W11 (w.heap.size + 1 + 1 + 1) [.int .i64 d.x, .int .i64 d.y] 30 := by rw [hW]; exact ((Bd.sn bkz 0 (.int .i64 H3) (by first | assumption | omega)).sn bkz 1 (.int .u64 L3) (by first | assumption | omega))
 have Cz : Box W11 (bkz) [.int .i64 H3, .int .u64 L3] 129 := by rw [hW]; exact ((Bz.set 0 (.int .i64 H3)).set 1 (.int .u64 L3))
 replace hw : Below w.heap.size w W11 := by have hl := hw.size; rw [hW]; go_grown
 clear xa ya za va xb yb zb vb xc yc zc vc xd yd zd vd xz yz zz vz;clear hW Ba Bb Bc Bd Bz;have Ba := Ca;have Bb := Cb;have Bc := Cc;have Bd := Cd;have Bz := Cz;clear Ca Cb Cc Cd Cz;refine (s3 _).mono ?_;rintro e w12 ⟨rfl, hb⟩;obtain ⟨Ba, Bb, Bc, Bd, Bz, hw, -⟩ := X5 Ba Bb Bc Bd Bz hw hb;clear hb;obtain ⟨xa, ya, za, va⟩ := Ba.f;obtain ⟨xb, yb, zb, vb⟩ := Bb.f;obtain ⟨xc, yc, zc, vc⟩ := Bc.f;obtain ⟨xd, yd, zd, vd⟩ := Bd.f;obtain ⟨xz, yz, zz, vz⟩ := Bz.f;go_wp2_with fail;refine zA1 fun W13 hW => ?_;obtain ⟨bkx, hbx⟩ : ∃ b, w12.heap.size = b := ⟨_, rfl⟩;rw [hbx];obtain ⟨lax, lbx, lcx, ldx, lzx, fx, Bx, Ba, Bb, Bc, Bd, Bz, hw⟩ := M5 hW hbx Ba Bb Bc Bd Bz hw;clear hW hbx;obtain ⟨xa, ya, za, va⟩ := Ba.f;obtain ⟨xb, yb, zb, vb⟩ := Bb.f;obtain ⟨xc, yc, zc, vc⟩ := Bc.f;obtain ⟨xd, yd, zd, vd⟩ := Bd.f;obtain ⟨xz, yz, zz, vz⟩ := Bz.f;obtain ⟨xx, yx, zx, vx⟩ := Bx.f;have kc := zAd a d;have L1 : Hid (lsr a d = if cmpP a d < 0 then a else d) := Lib.hid rfl;generalize cmpP a d = k0 at *
 refine (kc _).mono ?_;rintro e w14 ⟨rfl, hb⟩;clear xa ya za va xb yb zb vb xc yc zc vc xd yd zd vd xz yz zz vz xx yx zx vx;obtain ⟨Ba, Bb, Bc, Bd, Bz, Bx, hw, -⟩ := X6 Ba Bb Bc Bd Bz Bx hw hb;clear hb;by_cases hk0 : k0 < 0
 ·have t2 : decide (k0 < 0) = true := by simpa using hk0
  have M0 : lsr a d = a := by rw [L1.out]; exact if_pos hk0
  have N0 := Lib.hid M0;clear M0 L1;obtain ⟨xa, ya, za, va⟩ := Ba.f;obtain ⟨xb, yb, zb, vb⟩ := Bb.f;obtain ⟨xc, yc, zc, vc⟩ := Bc.f;obtain ⟨xd, yd, zd, vd⟩ := Bd.f;obtain ⟨xz, yz, zz, vz⟩ := Bz.f;obtain ⟨xx, yx, zx, vx⟩ := Bx.f;go_wp2_with fail;refine zA1 fun W15 hW => ?_;have Ca : Box W15 (w.heap.size) [.int .i64 a.x, .int .i64 a.y] 30 := by rw [hW]; exact ((Ba.sn bkx 0 (.int .i64 a.x) (by first | assumption | omega)).sn bkx 1 (.int .i64 a.y) (by first | assumption | omega))
  have Cb : Box W15 (w.heap.size + 1) [.int .i64 b.x, .int .i64 b.y] 30 := by rw [hW]; exact ((Bb.sn bkx 0 (.int .i64 a.x) (by first | assumption | omega)).sn bkx 1 (.int .i64 a.y) (by first | assumption | omega))
  have Cc : Box W15 (w.heap.size + 1 + 1) [.int .i64 c.x, .int .i64 c.y] 30 := by rw [hW]; exact ((Bc.sn bkx 0 (.int .i64 a.x) (by first | assumption | omega)).sn bkx 1 (.int .i64 a.y) (by first | assumption | omega))
  have Cd : Box W15 (w.heap.size + 1 + 1 + 1) [.int .i64 d.x, .int .i64 d.y] 30 := by rw [hW]; exact ((Bd.sn bkx 0 (.int .i64 a.x) (by first | assumption | omega)).sn bkx 1 (.int .i64 a.y) (by first | assumption | omega))
  have Cz : Box W15 (bkz) [.int .i64 H3, .int .u64 L3] 129 := by rw [hW]; exact ((Bz.sn bkx 0 (.int .i64 a.x) (by first | assumption | omega)).sn bkx 1 (.int .i64 a.y) (by first | assumption | omega))
  have Cx : Box W15 (bkx) [.int .i64 a.x, .int .i64 a.y] 30 := by rw [hW]; exact ((Bx.set 0 (.int .i64 a.x)).set 1 (.int .i64 a.y))
  replace hw : Below w.heap.size w W15 := by have hl := hw.size; rw [hW]; go_grown
  clear xa ya za va xb yb zb vb xc yc zc vc xd yd zd vd xz yz zz vz xx yx zx vx;clear hW Ba Bb Bc Bd Bz Bx;have Ba := Ca;have Bb := Cb;have Bc := Cc;have Bd := Cd;have Bz := Cz;have Bx := Cx;clear Ca Cb Cc Cd Cz Cx;obtain ⟨xa, ya, za, va⟩ := Ba.f;obtain ⟨xb, yb, zb, vb⟩ := Bb.f;obtain ⟨xc, yc, zc, vc⟩ := Bc.f;obtain ⟨xd, yd, zd, vd⟩ := Bd.f;obtain ⟨xz, yz, zz, vz⟩ := Bz.f;obtain ⟨xx, yx, zx, vx⟩ := Bx.f;have kc := zAd b a;have L1 : Hid (lsr b a = if cmpP b a < 0 then b else a) := Lib.hid rfl;generalize cmpP b a = k1 at *
  refine (kc _).mono ?_;rintro e w16 ⟨rfl, hb⟩;clear xa ya za va xb yb zb vb xc yc zc vc xd yd zd vd xz yz zz vz xx yx zx vx;obtain ⟨Ba, Bb, Bc, Bd, Bz, Bx, hw, -⟩ := X6 Ba Bb Bc Bd Bz Bx hw hb;clear hb;by_cases hk1 : k1 < 0
  ·have t3 : decide (k1 < 0) = true := by simpa using hk1
   have M1 : lsr b a = b := by rw [L1.out]; exact if_pos hk1
   have N1 := Lib.hid M1;clear M1 L1;obtain ⟨xa, ya, za, va⟩ := Ba.f;obtain ⟨xb, yb, zb, vb⟩ := Bb.f;obtain ⟨xc, yc, zc, vc⟩ := Bc.f;obtain ⟨xd, yd, zd, vd⟩ := Bd.f;obtain ⟨xz, yz, zz, vz⟩ := Bz.f;obtain ⟨xx, yx, zx, vx⟩ := Bx.f;go_wp2_with fail;refine zA1 fun W17 hW => ?_;have Ca : Box W17 (w.heap.size) [.int .i64 a.x, .int .i64 a.y] 30 := by rw [hW]; exact ((Ba.sn bkx 0 (.int .i64 b.x) (by first | assumption | omega)).sn bkx 1 (.int .i64 b.y) (by first | assumption | omega))
   have Cb : Box W17 (w.heap.size + 1) [.int .i64 b.x, .int .i64 b.y] 30 := by rw [hW]; exact ((Bb.sn bkx 0 (.int .i64 b.x) (by first | assumption | omega)).sn bkx 1 (.int .i64 b.y) (by first | assumption | omega))
   have Cc : Box W17 (w.heap.size + 1 + 1) [.int .i64 c.x, .int .i64 c.y] 30 := by rw [hW]; exact ((Bc.sn bkx 0 (.int .i64 b.x) (by first | assumption | omega)).sn bkx 1 (.int .i64 b.y) (by first | assumption | omega))
   have Cd : Box W17 (w.heap.size + 1 + 1 + 1) [.int .i64 d.x, .int .i64 d.y] 30 := by rw [hW]; exact ((Bd.sn bkx 0 (.int .i64 b.x) (by first | assumption | omega)).sn bkx 1 (.int .i64 b.y) (by first | assumption | omega))
   have Cz : Box W17 (bkz) [.int .i64 H3, .int .u64 L3] 129 := by rw [hW]; exact ((Bz.sn bkx 0 (.int .i64 b.x) (by first | assumption | omega)).sn bkx 1 (.int .i64 b.y) (by first | assumption | omega))
   have Cx : Box W17 (bkx) [.int .i64 b.x, .int .i64 b.y] 30 := by rw [hW]; exact ((Bx.set 0 (.int .i64 b.x)).set 1 (.int .i64 b.y))
   replace hw : Below w.heap.size w W17 := by have hl := hw.size; rw [hW]; go_grown
   clear xa ya za va xb yb zb vb xc yc zc vc xd yd zd vd xz yz zz vz xx yx zx vx;clear hW Ba Bb Bc Bd Bz Bx;have Ba := Ca;have Bb := Cb;have Bc := Cc;have Bd := Cd;have Bz := Cz;have Bx := Cx;clear Ca Cb Cc Cd Cz Cx;obtain ⟨xa, ya, za, va⟩ := Ba.f;obtain ⟨xb, yb, zb, vb⟩ := Bb.f;obtain ⟨xc, yc, zc, vc⟩ := Bc.f;obtain ⟨xd, yd, zd, vd⟩ := Bd.f;obtain ⟨xz, yz, zz, vz⟩ := Bz.f;obtain ⟨xx, yx, zx, vx⟩ := Bx.f;have kc := zAd c b;have L1 : Hid (lsr c b = if cmpP c b < 0 then c else b) := Lib.hid rfl;generalize cmpP c b = k2 at *
   refine (kc _).mono ?_;rintro e w18 ⟨rfl, hb⟩;clear xa ya za va xb yb zb vb xc yc zc vc xd yd zd vd xz yz zz vz xx yx zx vx;obtain ⟨Ba, Bb, Bc, Bd, Bz, Bx, hw, -⟩ := X6 Ba Bb Bc Bd Bz Bx hw hb;clear hb;by_cases hk2 : k2 < 0
   ·have t4 : decide (k2 < 0) = true := by simpa using hk2
    have M2 : lsr c b = c := by rw [L1.out]; exact if_pos hk2
    have N2 := Lib.hid M2;clear M2 L1;obtain ⟨xa, ya, za, va⟩ := Ba.f;obtain ⟨xb, yb, zb, vb⟩ := Bb.f;obtain ⟨xc, yc, zc, vc⟩ := Bc.f;obtain ⟨xd, yd, zd, vd⟩ := Bd.f;obtain ⟨xz, yz, zz, vz⟩ := Bz.f;obtain ⟨xx, yx, zx, vx⟩ := Bx.f;go_wp2_with fail;refine zA1 fun W19 hW => ?_;have Ca : Box W19 (w.heap.size) [.int .i64 a.x, .int .i64 a.y] 30 := by rw [hW]; exact ((Ba.sn bkx 0 (.int .i64 c.x) (by first | assumption | omega)).sn bkx 1 (.int .i64 c.y) (by first | assumption | omega))
    have Cb : Box W19 (w.heap.size + 1) [.int .i64 b.x, .int .i64 b.y] 30 := by rw [hW]; exact ((Bb.sn bkx 0 (.int .i64 c.x) (by first | assumption | omega)).sn bkx 1 (.int .i64 c.y) (by first | assumption | omega))
    have Cc : Box W19 (w.heap.size + 1 + 1) [.int .i64 c.x, .int .i64 c.y] 30 := by rw [hW]; exact ((Bc.sn bkx 0 (.int .i64 c.x) (by first | assumption | omega)).sn bkx 1 (.int .i64 c.y) (by first | assumption | omega))
    have Cd : Box W19 (w.heap.size + 1 + 1 + 1) [.int .i64 d.x, .int .i64 d.y] 30 := by rw [hW]; exact ((Bd.sn bkx 0 (.int .i64 c.x) (by first | assumption | omega)).sn bkx 1 (.int .i64 c.y) (by first | assumption | omega))
    have Cz : Box W19 (bkz) [.int .i64 H3, .int .u64 L3] 129 := by rw [hW]; exact ((Bz.sn bkx 0 (.int .i64 c.x) (by first | assumption | omega)).sn bkx 1 (.int .i64 c.y) (by first | assumption | omega))
    have Cx : Box W19 (bkx) [.int .i64 c.x, .int .i64 c.y] 30 := by rw [hW]; exact ((Bx.set 0 (.int .i64 c.x)).set 1 (.int .i64 c.y))
    replace hw : Below w.heap.size w W19 := by have hl := hw.size; rw [hW]; go_grown
    clear xa ya za va xb yb zb vb xc yc zc vc xd yd zd vd xz yz zz vz xx yx zx vx;clear hW Ba Bb Bc Bd Bz Bx;have Ba := Ca;have Bb := Cb;have Bc := Cc;have Bd := Cd;have Bz := Cz;have Bx := Cx;clear Ca Cb Cc Cd Cz Cx;obtain ⟨xa, ya, za, va⟩ := Ba.f;obtain ⟨xb, yb, zb, vb⟩ := Bb.f;obtain ⟨xc, yc, zc, vc⟩ := Bc.f;obtain ⟨xd, yd, zd, vd⟩ := Bd.f;obtain ⟨xz, yz, zz, vz⟩ := Bz.f;obtain ⟨xx, yx, zx, vx⟩ := Bx.f;obtain ⟨xa, ya, za, va⟩ := Ba.f;obtain ⟨xb, yb, zb, vb⟩ := Bb.f;obtain ⟨xc, yc, zc, vc⟩ := Bc.f;obtain ⟨xd, yd, zd, vd⟩ := Bd.f;obtain ⟨xz, yz, zz, vz⟩ := Bz.f;obtain ⟨xx, yx, zx, vx⟩ := Bx.f;have co2 := zA5 a b d;have bo2 := zC4 a b d;have E : Hid (tie a b c d (lsr c (lsr b (lsr a d))) 1 = -ori a b d) := Lib.hid (by rw [N0.out]; rw [N1.out]; rw [N2.out]; simp [tie, f3, d2, d3]);generalize ori a b d = o2 at *
    go_wp2_with fail;refine (co2 _).mono ?_;rintro e w20 ⟨rfl, hb⟩;clear xa ya za va xb yb zb vb xc yc zc vc xd yd zd vd xz yz zz vz xx yx zx vx;obtain ⟨Ba, Bb, Bc, Bd, Bz, Bx, hw, -⟩ := X6 Ba Bb Bc Bd Bz Bx hw hb;clear hb;go_wp2
    go_ret
    exact ⟨zAu (by rw [E.out]), hw⟩
   ·have t4 : decide (k2 < 0) = false := by simpa using hk2
    have M2 : lsr c b = b := by rw [L1.out]; exact if_neg hk2
    have N2 := Lib.hid M2;clear M2 L1;obtain ⟨xa, ya, za, va⟩ := Ba.f;obtain ⟨xb, yb, zb, vb⟩ := Bb.f;obtain ⟨xc, yc, zc, vc⟩ := Bc.f;obtain ⟨xd, yd, zd, vd⟩ := Bd.f;obtain ⟨xz, yz, zz, vz⟩ := Bz.f;obtain ⟨xx, yx, zx, vx⟩ := Bx.f;go_wp2_with fail;obtain ⟨xa, ya, za, va⟩ := Ba.f;obtain ⟨xb, yb, zb, vb⟩ := Bb.f;obtain ⟨xc, yc, zc, vc⟩ := Bc.f;obtain ⟨xd, yd, zd, vd⟩ := Bd.f;obtain ⟨xz, yz, zz, vz⟩ := Bz.f;obtain ⟨xx, yx, zx, vx⟩ := Bx.f;have co2 := zA5 a d c;have bo2 := zC4 a d c;have E : Hid (tie a b c d (lsr c (lsr b (lsr a d))) 1 = -ori a d c) := Lib.hid (by rw [N0.out]; rw [N1.out]; rw [N2.out]; simp [tie, f2, d1, i2]);generalize ori a d c = o2 at *
    go_wp2_with fail;refine (co2 _).mono ?_;rintro e w19 ⟨rfl, hb⟩;clear xa ya za va xb yb zb vb xc yc zc vc xd yd zd vd xz yz zz vz xx yx zx vx;obtain ⟨Ba, Bb, Bc, Bd, Bz, Bx, hw, -⟩ := X6 Ba Bb Bc Bd Bz Bx hw hb;clear hb;go_wp2
    go_ret
    exact ⟨zAu (by rw [E.out]), hw⟩
  ·have t3 : decide (k1 < 0) = false := by simpa using hk1
   have M1 : lsr b a = a := by rw [L1.out]; exact if_neg hk1
   have N1 := Lib.hid M1;clear M1 L1;obtain ⟨xa, ya, za, va⟩ := Ba.f;obtain ⟨xb, yb, zb, vb⟩ := Bb.f;obtain ⟨xc, yc, zc, vc⟩ := Bc.f;obtain ⟨xd, yd, zd, vd⟩ := Bd.f;obtain ⟨xz, yz, zz, vz⟩ := Bz.f;obtain ⟨xx, yx, zx, vx⟩ := Bx.f;go_wp2_with fail;have kc := zAd c a;have L1 : Hid (lsr c a = if cmpP c a < 0 then c else a) := Lib.hid rfl;generalize cmpP c a = k2 at *
   refine (kc _).mono ?_;rintro e w17 ⟨rfl, hb⟩;clear xa ya za va xb yb zb vb xc yc zc vc xd yd zd vd xz yz zz vz xx yx zx vx;obtain ⟨Ba, Bb, Bc, Bd, Bz, Bx, hw, -⟩ := X6 Ba Bb Bc Bd Bz Bx hw hb;clear hb;by_cases hk2 : k2 < 0
   ·have t4 : decide (k2 < 0) = true := by simpa using hk2
    have M2 : lsr c a = c := by rw [L1.out]; exact if_pos hk2
    have N2 := Lib.hid M2;clear M2 L1;obtain ⟨xa, ya, za, va⟩ := Ba.f;obtain ⟨xb, yb, zb, vb⟩ := Bb.f;obtain ⟨xc, yc, zc, vc⟩ := Bc.f;obtain ⟨xd, yd, zd, vd⟩ := Bd.f;obtain ⟨xz, yz, zz, vz⟩ := Bz.f;obtain ⟨xx, yx, zx, vx⟩ := Bx.f;go_wp2_with fail;refine zA1 fun W18 hW => ?_;have Ca : Box W18 (w.heap.size) [.int .i64 a.x, .int .i64 a.y] 30 := by rw [hW]; exact ((Ba.sn bkx 0 (.int .i64 c.x) (by first | assumption | omega)).sn bkx 1 (.int .i64 c.y) (by first | assumption | omega))
    have Cb : Box W18 (w.heap.size + 1) [.int .i64 b.x, .int .i64 b.y] 30 := by rw [hW]; exact ((Bb.sn bkx 0 (.int .i64 c.x) (by first | assumption | omega)).sn bkx 1 (.int .i64 c.y) (by first | assumption | omega))
    have Cc : Box W18 (w.heap.size + 1 + 1) [.int .i64 c.x, .int .i64 c.y] 30 := by rw [hW]; exact ((Bc.sn bkx 0 (.int .i64 c.x) (by first | assumption | omega)).sn bkx 1 (.int .i64 c.y) (by first | assumption | omega))
    have Cd : Box W18 (w.heap.size + 1 + 1 + 1) [.int .i64 d.x, .int .i64 d.y] 30 := by rw [hW]; exact ((Bd.sn bkx 0 (.int .i64 c.x) (by first | assumption | omega)).sn bkx 1 (.int .i64 c.y) (by first | assumption | omega))
    have Cz : Box W18 (bkz) [.int .i64 H3, .int .u64 L3] 129 := by rw [hW]; exact ((Bz.sn bkx 0 (.int .i64 c.x) (by first | assumption | omega)).sn bkx 1 (.int .i64 c.y) (by first | assumption | omega))
    have Cx : Box W18 (bkx) [.int .i64 c.x, .int .i64 c.y] 30 := by rw [hW]; exact ((Bx.set 0 (.int .i64 c.x)).set 1 (.int .i64 c.y))
    replace hw : Below w.heap.size w W18 := by have hl := hw.size; rw [hW]; go_grown
    clear xa ya za va xb yb zb vb xc yc zc vc xd yd zd vd xz yz zz vz xx yx zx vx;clear hW Ba Bb Bc Bd Bz Bx;have Ba := Ca;have Bb := Cb;have Bc := Cc;have Bd := Cd;have Bz := Cz;have Bx := Cx;clear Ca Cb Cc Cd Cz Cx;obtain ⟨xa, ya, za, va⟩ := Ba.f;obtain ⟨xb, yb, zb, vb⟩ := Bb.f;obtain ⟨xc, yc, zc, vc⟩ := Bc.f;obtain ⟨xd, yd, zd, vd⟩ := Bd.f;obtain ⟨xz, yz, zz, vz⟩ := Bz.f;obtain ⟨xx, yx, zx, vx⟩ := Bx.f;obtain ⟨xa, ya, za, va⟩ := Ba.f;obtain ⟨xb, yb, zb, vb⟩ := Bb.f;obtain ⟨xc, yc, zc, vc⟩ := Bc.f;obtain ⟨xd, yd, zd, vd⟩ := Bd.f;obtain ⟨xz, yz, zz, vz⟩ := Bz.f;obtain ⟨xx, yx, zx, vx⟩ := Bx.f;have co2 := zA5 a b d;have bo2 := zC4 a b d;have E : Hid (tie a b c d (lsr c (lsr b (lsr a d))) 1 = -ori a b d) := Lib.hid (by rw [N0.out]; rw [N1.out]; rw [N2.out]; simp [tie, f3, d2, d3]);generalize ori a b d = o2 at *
    go_wp2_with fail;refine (co2 _).mono ?_;rintro e w19 ⟨rfl, hb⟩;clear xa ya za va xb yb zb vb xc yc zc vc xd yd zd vd xz yz zz vz xx yx zx vx;obtain ⟨Ba, Bb, Bc, Bd, Bz, Bx, hw, -⟩ := X6 Ba Bb Bc Bd Bz Bx hw hb;clear hb;go_wp2
    go_ret
    exact ⟨zAu (by rw [E.out]), hw⟩
   ·have t4 : decide (k2 < 0) = false := by simpa using hk2
    have M2 : lsr c a = a := by rw [L1.out]; exact if_neg hk2
    have N2 := Lib.hid M2;clear M2 L1;obtain ⟨xa, ya, za, va⟩ := Ba.f;obtain ⟨xb, yb, zb, vb⟩ := Bb.f;obtain ⟨xc, yc, zc, vc⟩ := Bc.f;obtain ⟨xd, yd, zd, vd⟩ := Bd.f;obtain ⟨xz, yz, zz, vz⟩ := Bz.f;obtain ⟨xx, yx, zx, vx⟩ := Bx.f;go_wp2_with fail;obtain ⟨xa, ya, za, va⟩ := Ba.f;obtain ⟨xb, yb, zb, vb⟩ := Bb.f;obtain ⟨xc, yc, zc, vc⟩ := Bc.f;obtain ⟨xd, yd, zd, vd⟩ := Bd.f;obtain ⟨xz, yz, zz, vz⟩ := Bz.f;obtain ⟨xx, yx, zx, vx⟩ := Bx.f;have co2 := zA5 d b c;have bo2 := zC4 d b c;have E : Hid (tie a b c d (lsr c (lsr b (lsr a d))) 1 = -ori d b c) := Lib.hid (by rw [N0.out]; rw [N1.out]; rw [N2.out]; simp [tie, f1, i1]);generalize ori d b c = o2 at *
    go_wp2_with fail;refine (co2 _).mono ?_;rintro e w18 ⟨rfl, hb⟩;clear xa ya za va xb yb zb vb xc yc zc vc xd yd zd vd xz yz zz vz xx yx zx vx;obtain ⟨Ba, Bb, Bc, Bd, Bz, Bx, hw, -⟩ := X6 Ba Bb Bc Bd Bz Bx hw hb;clear hb;go_wp2
    go_ret
    exact ⟨zAu (by rw [E.out]), hw⟩
 ·have t2 : decide (k0 < 0) = false := by simpa using hk0
  have M0 : lsr a d = d := by rw [L1.out]; exact if_neg hk0
  have N0 := Lib.hid M0;clear M0 L1;obtain ⟨xa, ya, za, va⟩ := Ba.f;obtain ⟨xb, yb, zb, vb⟩ := Bb.f;obtain ⟨xc, yc, zc, vc⟩ := Bc.f;obtain ⟨xd, yd, zd, vd⟩ := Bd.f;obtain ⟨xz, yz, zz, vz⟩ := Bz.f;obtain ⟨xx, yx, zx, vx⟩ := Bx.f;go_wp2_with fail;have kc := zAd b d;have L1 : Hid (lsr b d = if cmpP b d < 0 then b else d) := Lib.hid rfl;generalize cmpP b d = k1 at *
  refine (kc _).mono ?_;rintro e w15 ⟨rfl, hb⟩;clear xa ya za va xb yb zb vb xc yc zc vc xd yd zd vd xz yz zz vz xx yx zx vx;obtain ⟨Ba, Bb, Bc, Bd, Bz, Bx, hw, -⟩ := X6 Ba Bb Bc Bd Bz Bx hw hb;clear hb;by_cases hk1 : k1 < 0
  ·have t3 : decide (k1 < 0) = true := by simpa using hk1
   have M1 : lsr b d = b := by rw [L1.out]; exact if_pos hk1
   have N1 := Lib.hid M1;clear M1 L1;obtain ⟨xa, ya, za, va⟩ := Ba.f;obtain ⟨xb, yb, zb, vb⟩ := Bb.f;obtain ⟨xc, yc, zc, vc⟩ := Bc.f;obtain ⟨xd, yd, zd, vd⟩ := Bd.f;obtain ⟨xz, yz, zz, vz⟩ := Bz.f;obtain ⟨xx, yx, zx, vx⟩ := Bx.f;go_wp2_with fail;refine zA1 fun W16 hW => ?_;have Ca : Box W16 (w.heap.size) [.int .i64 a.x, .int .i64 a.y] 30 := by rw [hW]; exact ((Ba.sn bkx 0 (.int .i64 b.x) (by first | assumption | omega)).sn bkx 1 (.int .i64 b.y) (by first | assumption | omega))
   have Cb : Box W16 (w.heap.size + 1) [.int .i64 b.x, .int .i64 b.y] 30 := by rw [hW]; exact ((Bb.sn bkx 0 (.int .i64 b.x) (by first | assumption | omega)).sn bkx 1 (.int .i64 b.y) (by first | assumption | omega))
   have Cc : Box W16 (w.heap.size + 1 + 1) [.int .i64 c.x, .int .i64 c.y] 30 := by rw [hW]; exact ((Bc.sn bkx 0 (.int .i64 b.x) (by first | assumption | omega)).sn bkx 1 (.int .i64 b.y) (by first | assumption | omega))
   have Cd : Box W16 (w.heap.size + 1 + 1 + 1) [.int .i64 d.x, .int .i64 d.y] 30 := by rw [hW]; exact ((Bd.sn bkx 0 (.int .i64 b.x) (by first | assumption | omega)).sn bkx 1 (.int .i64 b.y) (by first | assumption | omega))
   have Cz : Box W16 (bkz) [.int .i64 H3, .int .u64 L3] 129 := by rw [hW]; exact ((Bz.sn bkx 0 (.int .i64 b.x) (by first | assumption | omega)).sn bkx 1 (.int .i64 b.y) (by first | assumption | omega))
   have Cx : Box W16 (bkx) [.int .i64 b.x, .int .i64 b.y] 30 := by rw [hW]; exact ((Bx.set 0 (.int .i64 b.x)).set 1 (.int .i64 b.y))
   replace hw : Below w.heap.size w W16 := by have hl := hw.size; rw [hW]; go_grown
   clear xa ya za va xb yb zb vb xc yc zc vc xd yd zd vd xz yz zz vz xx yx zx vx;clear hW Ba Bb Bc Bd Bz Bx;have Ba := Ca;have Bb := Cb;have Bc := Cc;have Bd := Cd;have Bz := Cz;have Bx := Cx;clear Ca Cb Cc Cd Cz Cx;obtain ⟨xa, ya, za, va⟩ := Ba.f;obtain ⟨xb, yb, zb, vb⟩ := Bb.f;obtain ⟨xc, yc, zc, vc⟩ := Bc.f;obtain ⟨xd, yd, zd, vd⟩ := Bd.f;obtain ⟨xz, yz, zz, vz⟩ := Bz.f;obtain ⟨xx, yx, zx, vx⟩ := Bx.f;have kc := zAd c b;have L1 : Hid (lsr c b = if cmpP c b < 0 then c else b) := Lib.hid rfl;generalize cmpP c b = k2 at *
   refine (kc _).mono ?_;rintro e w17 ⟨rfl, hb⟩;clear xa ya za va xb yb zb vb xc yc zc vc xd yd zd vd xz yz zz vz xx yx zx vx;obtain ⟨Ba, Bb, Bc, Bd, Bz, Bx, hw, -⟩ := X6 Ba Bb Bc Bd Bz Bx hw hb;clear hb;by_cases hk2 : k2 < 0
   ·have t4 : decide (k2 < 0) = true := by simpa using hk2
    have M2 : lsr c b = c := by rw [L1.out]; exact if_pos hk2
    have N2 := Lib.hid M2;clear M2 L1;obtain ⟨xa, ya, za, va⟩ := Ba.f;obtain ⟨xb, yb, zb, vb⟩ := Bb.f;obtain ⟨xc, yc, zc, vc⟩ := Bc.f;obtain ⟨xd, yd, zd, vd⟩ := Bd.f;obtain ⟨xz, yz, zz, vz⟩ := Bz.f;obtain ⟨xx, yx, zx, vx⟩ := Bx.f;go_wp2_with fail;refine zA1 fun W18 hW => ?_;have Ca : Box W18 (w.heap.size) [.int .i64 a.x, .int .i64 a.y] 30 := by rw [hW]; exact ((Ba.sn bkx 0 (.int .i64 c.x) (by first | assumption | omega)).sn bkx 1 (.int .i64 c.y) (by first | assumption | omega))
    have Cb : Box W18 (w.heap.size + 1) [.int .i64 b.x, .int .i64 b.y] 30 := by rw [hW]; exact ((Bb.sn bkx 0 (.int .i64 c.x) (by first | assumption | omega)).sn bkx 1 (.int .i64 c.y) (by first | assumption | omega))
    have Cc : Box W18 (w.heap.size + 1 + 1) [.int .i64 c.x, .int .i64 c.y] 30 := by rw [hW]; exact ((Bc.sn bkx 0 (.int .i64 c.x) (by first | assumption | omega)).sn bkx 1 (.int .i64 c.y) (by first | assumption | omega))
    have Cd : Box W18 (w.heap.size + 1 + 1 + 1) [.int .i64 d.x, .int .i64 d.y] 30 := by rw [hW]; exact ((Bd.sn bkx 0 (.int .i64 c.x) (by first | assumption | omega)).sn bkx 1 (.int .i64 c.y) (by first | assumption | omega))
    have Cz : Box W18 (bkz) [.int .i64 H3, .int .u64 L3] 129 := by rw [hW]; exact ((Bz.sn bkx 0 (.int .i64 c.x) (by first | assumption | omega)).sn bkx 1 (.int .i64 c.y) (by first | assumption | omega))
    have Cx : Box W18 (bkx) [.int .i64 c.x, .int .i64 c.y] 30 := by rw [hW]; exact ((Bx.set 0 (.int .i64 c.x)).set 1 (.int .i64 c.y))
    replace hw : Below w.heap.size w W18 := by have hl := hw.size; rw [hW]; go_grown
    clear xa ya za va xb yb zb vb xc yc zc vc xd yd zd vd xz yz zz vz xx yx zx vx;clear hW Ba Bb Bc Bd Bz Bx;have Ba := Ca;have Bb := Cb;have Bc := Cc;have Bd := Cd;have Bz := Cz;have Bx := Cx;clear Ca Cb Cc Cd Cz Cx;obtain ⟨xa, ya, za, va⟩ := Ba.f;obtain ⟨xb, yb, zb, vb⟩ := Bb.f;obtain ⟨xc, yc, zc, vc⟩ := Bc.f;obtain ⟨xd, yd, zd, vd⟩ := Bd.f;obtain ⟨xz, yz, zz, vz⟩ := Bz.f;obtain ⟨xx, yx, zx, vx⟩ := Bx.f;obtain ⟨xa, ya, za, va⟩ := Ba.f;obtain ⟨xb, yb, zb, vb⟩ := Bb.f;obtain ⟨xc, yc, zc, vc⟩ := Bc.f;obtain ⟨xd, yd, zd, vd⟩ := Bd.f;obtain ⟨xz, yz, zz, vz⟩ := Bz.f;obtain ⟨xx, yx, zx, vx⟩ := Bx.f;have co2 := zA5 a b d;have bo2 := zC4 a b d;have E : Hid (tie a b c d (lsr c (lsr b (lsr a d))) 1 = -ori a b d) := Lib.hid (by rw [N0.out]; rw [N1.out]; rw [N2.out]; simp [tie, f3, d2, d3]);generalize ori a b d = o2 at *
    go_wp2_with fail;refine (co2 _).mono ?_;rintro e w19 ⟨rfl, hb⟩;clear xa ya za va xb yb zb vb xc yc zc vc xd yd zd vd xz yz zz vz xx yx zx vx;obtain ⟨Ba, Bb, Bc, Bd, Bz, Bx, hw, -⟩ := X6 Ba Bb Bc Bd Bz Bx hw hb;clear hb;go_wp2
    go_ret
    exact ⟨zAu (by rw [E.out]), hw⟩
   ·have t4 : decide (k2 < 0) = false := by simpa using hk2
    have M2 : lsr c b = b := by rw [L1.out]; exact if_neg hk2
    have N2 := Lib.hid M2;clear M2 L1;obtain ⟨xa, ya, za, va⟩ := Ba.f;obtain ⟨xb, yb, zb, vb⟩ := Bb.f;obtain ⟨xc, yc, zc, vc⟩ := Bc.f;obtain ⟨xd, yd, zd, vd⟩ := Bd.f;obtain ⟨xz, yz, zz, vz⟩ := Bz.f;obtain ⟨xx, yx, zx, vx⟩ := Bx.f;go_wp2_with fail;obtain ⟨xa, ya, za, va⟩ := Ba.f;obtain ⟨xb, yb, zb, vb⟩ := Bb.f;obtain ⟨xc, yc, zc, vc⟩ := Bc.f;obtain ⟨xd, yd, zd, vd⟩ := Bd.f;obtain ⟨xz, yz, zz, vz⟩ := Bz.f;obtain ⟨xx, yx, zx, vx⟩ := Bx.f;have co2 := zA5 a d c;have bo2 := zC4 a d c;have E : Hid (tie a b c d (lsr c (lsr b (lsr a d))) 1 = -ori a d c) := Lib.hid (by rw [N0.out]; rw [N1.out]; rw [N2.out]; simp [tie, f2, d1, i2]);generalize ori a d c = o2 at *
    go_wp2_with fail;refine (co2 _).mono ?_;rintro e w18 ⟨rfl, hb⟩;clear xa ya za va xb yb zb vb xc yc zc vc xd yd zd vd xz yz zz vz xx yx zx vx;obtain ⟨Ba, Bb, Bc, Bd, Bz, Bx, hw, -⟩ := X6 Ba Bb Bc Bd Bz Bx hw hb;clear hb;go_wp2
    go_ret
    exact ⟨zAu (by rw [E.out]), hw⟩
  ·have t3 : decide (k1 < 0) = false := by simpa using hk1
   have M1 : lsr b d = d := by rw [L1.out]; exact if_neg hk1
   have N1 := Lib.hid M1;clear M1 L1;obtain ⟨xa, ya, za, va⟩ := Ba.f;obtain ⟨xb, yb, zb, vb⟩ := Bb.f;obtain ⟨xc, yc, zc, vc⟩ := Bc.f;obtain ⟨xd, yd, zd, vd⟩ := Bd.f;obtain ⟨xz, yz, zz, vz⟩ := Bz.f;obtain ⟨xx, yx, zx, vx⟩ := Bx.f;go_wp2_with fail;have kc := zAd c d;have L1 : Hid (lsr c d = if cmpP c d < 0 then c else d) := Lib.hid rfl;generalize cmpP c d = k2 at *
   refine (kc _).mono ?_;rintro e w16 ⟨rfl, hb⟩;clear xa ya za va xb yb zb vb xc yc zc vc xd yd zd vd xz yz zz vz xx yx zx vx;obtain ⟨Ba, Bb, Bc, Bd, Bz, Bx, hw, -⟩ := X6 Ba Bb Bc Bd Bz Bx hw hb;clear hb;by_cases hk2 : k2 < 0
   ·have t4 : decide (k2 < 0) = true := by simpa using hk2
    have M2 : lsr c d = c := by rw [L1.out]; exact if_pos hk2
    have N2 := Lib.hid M2;clear M2 L1;obtain ⟨xa, ya, za, va⟩ := Ba.f;obtain ⟨xb, yb, zb, vb⟩ := Bb.f;obtain ⟨xc, yc, zc, vc⟩ := Bc.f;obtain ⟨xd, yd, zd, vd⟩ := Bd.f;obtain ⟨xz, yz, zz, vz⟩ := Bz.f;obtain ⟨xx, yx, zx, vx⟩ := Bx.f;go_wp2_with fail;refine zA1 fun W17 hW => ?_;have Ca : Box W17 (w.heap.size) [.int .i64 a.x, .int .i64 a.y] 30 := by rw [hW]; exact ((Ba.sn bkx 0 (.int .i64 c.x) (by first | assumption | omega)).sn bkx 1 (.int .i64 c.y) (by first | assumption | omega))
    have Cb : Box W17 (w.heap.size + 1) [.int .i64 b.x, .int .i64 b.y] 30 := by rw [hW]; exact ((Bb.sn bkx 0 (.int .i64 c.x) (by first | assumption | omega)).sn bkx 1 (.int .i64 c.y) (by first | assumption | omega))
    have Cc : Box W17 (w.heap.size + 1 + 1) [.int .i64 c.x, .int .i64 c.y] 30 := by rw [hW]; exact ((Bc.sn bkx 0 (.int .i64 c.x) (by first | assumption | omega)).sn bkx 1 (.int .i64 c.y) (by first | assumption | omega))
    have Cd : Box W17 (w.heap.size + 1 + 1 + 1) [.int .i64 d.x, .int .i64 d.y] 30 := by rw [hW]; exact ((Bd.sn bkx 0 (.int .i64 c.x) (by first | assumption | omega)).sn bkx 1 (.int .i64 c.y) (by first | assumption | omega))
    have Cz : Box W17 (bkz) [.int .i64 H3, .int .u64 L3] 129 := by rw [hW]; exact ((Bz.sn bkx 0 (.int .i64 c.x) (by first | assumption | omega)).sn bkx 1 (.int .i64 c.y) (by first | assumption | omega))
    have Cx : Box W17 (bkx) [.int .i64 c.x, .int .i64 c.y] 30 := by rw [hW]; exact ((Bx.set 0 (.int .i64 c.x)).set 1 (.int .i64 c.y))
    replace hw : Below w.heap.size w W17 := by have hl := hw.size; rw [hW]; go_grown
    clear xa ya za va xb yb zb vb xc yc zc vc xd yd zd vd xz yz zz vz xx yx zx vx;clear hW Ba Bb Bc Bd Bz Bx;have Ba := Ca;have Bb := Cb;have Bc := Cc;have Bd := Cd;have Bz := Cz;have Bx := Cx;clear Ca Cb Cc Cd Cz Cx;obtain ⟨xa, ya, za, va⟩ := Ba.f;obtain ⟨xb, yb, zb, vb⟩ := Bb.f;obtain ⟨xc, yc, zc, vc⟩ := Bc.f;obtain ⟨xd, yd, zd, vd⟩ := Bd.f;obtain ⟨xz, yz, zz, vz⟩ := Bz.f;obtain ⟨xx, yx, zx, vx⟩ := Bx.f;obtain ⟨xa, ya, za, va⟩ := Ba.f;obtain ⟨xb, yb, zb, vb⟩ := Bb.f;obtain ⟨xc, yc, zc, vc⟩ := Bc.f;obtain ⟨xd, yd, zd, vd⟩ := Bd.f;obtain ⟨xz, yz, zz, vz⟩ := Bz.f;obtain ⟨xx, yx, zx, vx⟩ := Bx.f;have co2 := zA5 a b d;have bo2 := zC4 a b d;have E : Hid (tie a b c d (lsr c (lsr b (lsr a d))) 1 = -ori a b d) := Lib.hid (by rw [N0.out]; rw [N1.out]; rw [N2.out]; simp [tie, f3, d2, d3]);generalize ori a b d = o2 at *
    go_wp2_with fail;refine (co2 _).mono ?_;rintro e w18 ⟨rfl, hb⟩;clear xa ya za va xb yb zb vb xc yc zc vc xd yd zd vd xz yz zz vz xx yx zx vx;obtain ⟨Ba, Bb, Bc, Bd, Bz, Bx, hw, -⟩ := X6 Ba Bb Bc Bd Bz Bx hw hb;clear hb;go_wp2
    go_ret
    exact ⟨zAu (by rw [E.out]), hw⟩
   ·have t4 : decide (k2 < 0) = false := by simpa using hk2
    have M2 : lsr c d = d := by rw [L1.out]; exact if_neg hk2
    have N2 := Lib.hid M2;clear M2 L1;obtain ⟨xa, ya, za, va⟩ := Ba.f;obtain ⟨xb, yb, zb, vb⟩ := Bb.f;obtain ⟨xc, yc, zc, vc⟩ := Bc.f;obtain ⟨xd, yd, zd, vd⟩ := Bd.f;obtain ⟨xz, yz, zz, vz⟩ := Bz.f;obtain ⟨xx, yx, zx, vx⟩ := Bx.f;go_wp2_with fail;obtain ⟨xa, ya, za, va⟩ := Ba.f;obtain ⟨xb, yb, zb, vb⟩ := Bb.f;obtain ⟨xc, yc, zc, vc⟩ := Bc.f;obtain ⟨xd, yd, zd, vd⟩ := Bd.f;obtain ⟨xz, yz, zz, vz⟩ := Bz.f;obtain ⟨xx, yx, zx, vx⟩ := Bx.f;have E : Hid (tie a b c d (lsr c (lsr b (lsr a d))) 1 = 1) := Lib.hid (by rw [N0.out]; rw [N1.out]; rw [N2.out]; simp [tie, i3]);go_wp2
    go_ret
    exact ⟨zAu (by rw [E.out]), hw⟩
theorem zG2 (a b c d : Pt) (h : ori a b c = 1) (w : World) :
    Calls Tryz.prog 40 #[.agg #[.int .i64 a.x, .int .i64 a.y], .agg #[.int .i64 b.x, .int .i64 b.y], .agg #[.int .i64 c.x, .int .i64 c.y], .agg #[.int .i64 d.x, .int .i64 d.y]] w fun e w' => e = .returned (.int .i64 (circ a b c d)) ∧ Below w.heap.size w w' := by
 have h0 : ¬ ori a b c = 0 := by omega
 cases hv : vld d with
 | false => rw [zAf (.inr (.inl hv))]; exact zIc a b c d h0 hv w
 | true => cases e1 : peqI d.x d.y a.x a.y with
  | true => rw [zAf (.inr (.inr (.inl (zDs.1 e1))))]; exact zIb a b c d h0 hv e1 w
  | false => cases e2 : peqI d.x d.y b.x b.y with
   | true => rw [zAf (.inr (.inr (.inr (.inl (zDs.1 e2)))))]; exact zIa a b c d h0 hv e1 e2 w
   | false => cases e3 : peqI d.x d.y c.x c.y with
    | true => rw [zAf (.inr (.inr (.inr (.inr (zDs.1 e3)))))]; exact zI9 a b c d h0 hv e1 e2 e3 w
    | false =>
     rw [zBm h0 hv (zBw.1 e1) (zBw.1 e2) (zBw.1 e3)];by_cases hl : sgn (lft a b c d) = 0
     ·rw [if_neg (fun k => k hl), h];obtain ⟨va, vb, vc⟩ := zCl h0;rw [← min4_r va vb vc hv];exact rcircle_6 a b c d h hv e1 e2 e3 hl w
     ·rw [if_pos hl]; exact rcircle_5 a b c d h hv e1 e2 e3 hl w
theorem rcircle_neg (a b c d : Pt) (h : ori a b c = -1) (hv : vld d = true) (e1 : peqI d.x d.y a.x a.y = false) (e2 : peqI d.x d.y b.x b.y = false) (e3 : peqI d.x d.y c.x c.y = false) (w : World) :
    Calls Tryz.prog 40 #[.agg #[.int .i64 a.x, .int .i64 a.y], .agg #[.int .i64 b.x, .int .i64 b.y], .agg #[.int .i64 c.x, .int .i64 c.y], .agg #[.int .i64 d.x, .int .i64 d.y]] w fun e w' => e = .returned (.int .i64 (-circ a c b d)) ∧ Below w.heap.size w w' := by
 have co := zA5 a b c;have cv := zA6 d;rw [hv] at cv;have hn : ori a c b = 1 := by rw [zDt, h]; rfl
 have cc := zG2 a c b d hn;rw [h] at co;have bc : -1 ≤ circ a c b d ∧ circ a c b d ≤ 1 := by
  have := circ_sign (a := a) (b := c) (c := b) (d := d) (by omega) hv (zBw.1 e1) (zBw.1 e3) (zBw.1 e2); omega
 generalize circ a c b d = K at *
 clear hv h hn
 go_enter Tryz.func40, Tryz.ntmps40
 go_wp2_with fail;refine zA1 fun W1 hW => ?_;obtain ⟨Ba, Bb, Bc, Bd, hw⟩ := N4 hW;clear hW;refine (co _).mono ?_;rintro e w2 ⟨rfl, hb⟩;obtain ⟨Ba, Bb, Bc, Bd, hw, F_abcd⟩ := X4 Ba Bb Bc Bd hw hb;clear hb;go_wp2_with fail;refine (cv _).mono ?_;rintro e w3 ⟨rfl, hb⟩;clear F_abcd;obtain ⟨Ba, Bb, Bc, Bd, hw, F_abcd⟩ := X4 Ba Bb Bc Bd hw hb;clear hb;go_wp2_with fail;refine (cc _).mono ?_;rintro e w4 ⟨rfl, hb⟩;clear F_abcd;obtain ⟨Ba, Bb, Bc, Bd, hw, -⟩ := X4 Ba Bb Bc Bd hw hb;clear hb;go_wp2
 go_ret
 exact ⟨rfl, hw⟩
theorem zD3 (a b c d : Pt) (w : World) :
    Calls Tryz.prog 40 #[.agg #[.int .i64 a.x, .int .i64 a.y], .agg #[.int .i64 b.x, .int .i64 b.y], .agg #[.int .i64 c.x, .int .i64 c.y], .agg #[.int .i64 d.x, .int .i64 d.y]] w fun e w' => e = .returned (.int .i64 (circ a b c d)) ∧ Below w.heap.size w w' := by
 have hb := zC4 a b c;have h3 : ori a b c = 0 ∨ ori a b c = 1 ∨ ori a b c = -1 := by omega
 rcases h3 with h | h | h
 ·rw [zAf (.inl h)]; exact rcircle_0 a b c d h w
 ·exact zG2 a b c d h w
 ·have h0 : ¬ ori a b c = 0 := by omega
  cases hv : vld d with
  | false => rw [zAf (.inr (.inl hv))]; exact zIc a b c d h0 hv w
  | true => cases e1 : peqI d.x d.y a.x a.y with
   | true => rw [zAf (.inr (.inr (.inl (zDs.1 e1))))]; exact zIb a b c d h0 hv e1 w
   | false => cases e2 : peqI d.x d.y b.x b.y with
    | true => rw [zAf (.inr (.inr (.inr (.inl (zDs.1 e2)))))]; exact zIa a b c d h0 hv e1 e2 w
    | false => cases e3 : peqI d.x d.y c.x c.y with
     | true => rw [zAf (.inr (.inr (.inr (.inr (zDs.1 e3)))))]; exact zI9 a b c d h0 hv e1 e2 e3 w
     | false =>
      rw [show circ a b c d = -circ a c b d by rw [← zH5 a c b d, zIy b c a d, zH5 a b c d]; omega];exact rcircle_neg a b c d h hv e1 e2 e3 w
end Go.Proofs.YtjkfakaehjmnbaaGreat
