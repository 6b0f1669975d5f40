/- Put together: ReB, WlkT, WlkN, WlkD, WlkV, WlkF, ReE, CdtR, ReM, ReN, WlkU1, TrP, MesRow. -/
import Derived.Test.YtmobnmjjmafibaaGreatRows
import Derived.Test.YtmobnmjjmafibaaGreatPuw6
import Derived.Test.YtmobnmjjmafibaaGreatPuw0
import Derived.WalkKit
import Derived.WalkSpells
import Derived.WalkLawsBesides
import Derived.Laws.Externs
import Derived.Deep.QuietTactic
import Derived.BigQuiet
import Derived.Lib.Hide
import Derived.Handy
import Derived.LoopN
import Derived.RegionTactic
import Derived.Deep.RegionHeld3
import Derived.Test.YtmobnmjjmafibaaGreatPuw2
import Derived.Test.YtmobnmjjmafibaaGreatPuw4
import Derived.Test.YtmobnmjjmafibaaGreatPuw12
import Derived.Test.YtmobnmjjmafibaaGreatPuw10
import Derived.OwnWalk
import Derived.Maps.RangeWalk
import Derived.LoopTactic
import Derived.Test.YtmobnmjjmafibaaGreatPuw1
import Derived.Test.YtmobnmjjmafibaaGreatPuw8
import Derived.Test.YtmobnmjjmafibaaGreatPuw7
import Derived.ProofKit
import Derived.Lib.SmallJoins
import Derived.Deep.Strs
import Derived.Deep.Slices
import Derived.Carry
import Derived.Test.YtmobnmjjmafibaaGreatPuw11
import Derived.Test.YtmobnmjjmafibaaGreatPuw5
set_option maxRecDepth 100000
set_option maxHeartbeats 8000000
namespace Go.Proofs.YtmobnmjjmafibaaGreat
open Go.RowKit Go.Sort
attribute [local go_sem] rOper rAt rUpon cell_set sg_i64 sg_u64 alloc_cell alloc_frozen
attribute [local go_sem 10000] pt_eql pt_neq tri_eql
attribute [local go_sem ↓ 10000] run_mnA run_mxA run_mn2 run_mx2
attribute [local irreducible] rWalk
def ls2 (T : Tri3) (a b : Pt) : Int := mn2 (mn2 (mn2 1 (lm2 T.A T.B a b)) (lm2 T.B T.C a b)) (lm2 T.C T.A a b)
theorem zJp (T : Tri3) (a b : Pt) (w : World) (bk : Nat) (hB : Box w bk [.int .i64 a.x, .int .i64 a.y, .int .i64 b.x, .int .i64 b.y] 30) :
    Calls Tryz.prog 137 #[.agg #[.int .i64 T.A.x, .int .i64 T.A.y, .int .i64 T.B.x, .int .i64 T.B.y, .int .i64 T.C.x, .int .i64 T.C.y], .slice (some ⟨bk, 0, none⟩) 2 2] w fun e w' => e = .returned (.int .i64 (ls2 T a b)) ∧ Below w.heap.size w w' := by
 have e0 := zAw T 0;rw [show crn T 0 = T.A from rfl, show crn T (0 + 1) = T.B from rfl] at e0;have e1 := zAw T 1;rw [show crn T 1 = T.B from rfl, show crn T (1 + 1) = T.C from rfl] at e1;have e2 := zAw T 2;rw [show crn T 2 = T.C from rfl, show crn T (2 + 1) = T.A from rfl] at e2;have l0 := zJq T.A T.B a b;have l1 := zJq T.B T.C a b;have l2 := zJq T.C T.A a b;unfold ls2;generalize lm2 T.A T.B a b = m0 at *
 generalize lm2 T.B T.C a b = m1 at *
 generalize lm2 T.C T.A a b = m2 at *
 have Bl := hB; clear hB;have Fl := Bl.f;have hw := Below.refl w.heap.size w
 go_enter Tryz.func137, Tryz.ntmps137
 go_wp2_with fail;refine zA3 fun W1 hW => ?_;obtain ⟨bkt, hbt⟩ : ∃ b, w.heap.size = b := ⟨_, rfl⟩;rw [hbt];obtain ⟨llt, ft, Bt, Bl, hw⟩ := M1 hW hbt Bl hw;clear hW hbt;refine wp_loop_rounds 5 ?_;try rw [rounds_succ]
 have Fl := Bl.f;have Ft := Bt.f;go_wp2_with fail;refine (e0 _).mono ?_;rintro e w2 ⟨rfl, hb⟩;clear Fl Ft;obtain ⟨Bl, Bt, hw, -⟩ := X2 Bl Bt hw hb;clear hb;have Fl := Bl.f;have Ft := Bt.f;go_wp2_with fail;refine zA1 fun W3 hW => ?_;obtain ⟨bkp0, hbp0⟩ : ∃ b, w2.heap.size = b := ⟨_, rfl⟩;rw [hbp0];have llp0 := Bl.lt;rw [hbp0] at llp0;have ltp0 := Bt.lt;rw [hbp0] at ltp0;have fp0 := hw.size;rw [hbp0] at fp0;have Bp0 : Box W3 (bkp0) [.int .i64 T.A.x, .int .i64 T.A.y] 30 := by rw [hW, ← hbp0]; exact (Box.new rfl).old _
 have Bq0 : Box W3 (bkp0 + 1) [.int .i64 T.B.x, .int .i64 T.B.y] 30 := by rw [hW, ← hbp0]; exact Box.new (by simp)
 replace Bl : Box W3 (bk) [.int .i64 a.x, .int .i64 a.y, .int .i64 b.x, .int .i64 b.y] 30 := by rw [hW]; exact ((Bl).old _).old _
 replace Bt : Box W3 (bkt) [.int .i64 T.A.x, .int .i64 T.A.y, .int .i64 T.B.x, .int .i64 T.B.y, .int .i64 T.C.x, .int .i64 T.C.y] 38 := by rw [hW]; exact ((Bt).old _).old _
 replace hw : Below w.heap.size w W3 := by have hl := hw.size; rw [hW]; go_grown
 clear hW hbp0;refine (l0 _ bk Bl).mono ?_;rintro e w4 ⟨rfl, hb⟩;clear Fl Ft;obtain ⟨Bl, Bt, Bp0, Bq0, hw, -⟩ := X4 Bl Bt Bp0 Bq0 hw hb;clear hb;clear Bp0;clear Bq0;have Fl := Bl.f;have Ft := Bt.f;go_wp2_with fail;try rw [rounds_succ]
 go_wp2_with fail;refine (e1 _).mono ?_;rintro e w5 ⟨rfl, hb⟩;clear Fl Ft;obtain ⟨Bl, Bt, hw, -⟩ := X2 Bl Bt hw hb;clear hb;have Fl := Bl.f;have Ft := Bt.f;go_wp2_with fail;refine zA1 fun W6 hW => ?_;obtain ⟨bkp1, hbp1⟩ : ∃ b, w5.heap.size = b := ⟨_, rfl⟩;rw [hbp1];have llp1 := Bl.lt;rw [hbp1] at llp1;have ltp1 := Bt.lt;rw [hbp1] at ltp1;have fp1 := hw.size;rw [hbp1] at fp1;have Bp1 : Box W6 (bkp1) [.int .i64 T.B.x, .int .i64 T.B.y] 30 := by rw [hW, ← hbp1]; exact (Box.new rfl).old _
 have Bq1 : Box W6 (bkp1 + 1) [.int .i64 T.C.x, .int .i64 T.C.y] 30 := by rw [hW, ← hbp1]; exact Box.new (by simp)
 replace Bl : Box W6 (bk) [.int .i64 a.x, .int .i64 a.y, .int .i64 b.x, .int .i64 b.y] 30 := by rw [hW]; exact ((Bl).old _).old _
 replace Bt : Box W6 (bkt) [.int .i64 T.A.x, .int .i64 T.A.y, .int .i64 T.B.x, .int .i64 T.B.y, .int .i64 T.C.x, .int .i64 T.C.y] 38 := by rw [hW]; exact ((Bt).old _).old _
 replace hw : Below w.heap.size w W6 := by have hl := hw.size; rw [hW]; go_grown
 clear hW hbp1;refine (l1 _ bk Bl).mono ?_;rintro e w7 ⟨rfl, hb⟩;clear Fl Ft;obtain ⟨Bl, Bt, Bp1, Bq1, hw, -⟩ := X4 Bl Bt Bp1 Bq1 hw hb;clear hb;clear Bp1;clear Bq1;have Fl := Bl.f;have Ft := Bt.f;go_wp2_with fail;try rw [rounds_succ]
 go_wp2_with fail;refine (e2 _).mono ?_;rintro e w8 ⟨rfl, hb⟩;clear Fl Ft;obtain ⟨Bl, Bt, hw, -⟩ := X2 Bl Bt hw hb;clear hb;have Fl := Bl.f;have Ft := Bt.f;go_wp2_with fail;refine zA1 fun W9 hW => ?_;obtain ⟨bkp2, hbp2⟩ : ∃ b, w8.heap.size = b := ⟨_, rfl⟩;rw [hbp2];have llp2 := Bl.lt;rw [hbp2] at llp2;have ltp2 := Bt.lt;rw [hbp2] at ltp2;have fp2 := hw.size;rw [hbp2] at fp2;have Bp2 : Box W9 (bkp2) [.int .i64 T.C.x, .int .i64 T.C.y] 30 := by rw [hW, ← hbp2]; exact (Box.new rfl).old _
 have Bq2 : Box W9 (bkp2 + 1) [.int .i64 T.A.x, .int .i64 T.A.y] 30 := by rw [hW, ← hbp2]; exact Box.new (by simp)
 replace Bl : Box W9 (bk) [.int .i64 a.x, .int .i64 a.y, .int .i64 b.x, .int .i64 b.y] 30 := by rw [hW]; exact ((Bl).old _).old _
 replace Bt : Box W9 (bkt) [.int .i64 T.A.x, .int .i64 T.A.y, .int .i64 T.B.x, .int .i64 T.B.y, .int .i64 T.C.x, .int .i64 T.C.y] 38 := by rw [hW]; exact ((Bt).old _).old _
 replace hw : Below w.heap.size w W9 := by have hl := hw.size; rw [hW]; go_grown
 clear hW hbp2;refine (l2 _ bk Bl).mono ?_;rintro e w10 ⟨rfl, hb⟩;clear Fl Ft;obtain ⟨Bl, Bt, Bp2, Bq2, hw, -⟩ := X4 Bl Bt Bp2 Bq2 hw hb;clear hb;clear Bp2;clear Bq2;have Fl := Bl.f;have Ft := Bt.f;go_wp2_with fail;try rw [rounds_succ]
 go_wp2
 go_ret
 exact ⟨rfl, by have hl := hw.size; go_grown⟩
def thr (T : Tri3) (a b : Pt) : Bool := decide (0 < lm3 a b T.A T.B T.C) && (decide (0 < lm3 b a T.A T.B T.C) && decide (0 < ls2 T a b))
theorem thr_0 (T : Tri3) (a b : Pt) (h0 : decide (0 < lm3 a b T.A T.B T.C) = false) (w : World) :
    Calls Tryz.prog 104 #[.agg #[.int .i64 T.A.x, .int .i64 T.A.y, .int .i64 T.B.x, .int .i64 T.B.y, .int .i64 T.C.x, .int .i64 T.C.y], .agg #[.int .i64 a.x, .int .i64 a.y], .agg #[.int .i64 b.x, .int .i64 b.y]] w fun e w' => e = .returned (.bool false) ∧ Below w.heap.size w w' := by
 have l0 := zFn a b T.A T.B T.C;have l1 := zFn b a T.A T.B T.C;have l2 := zJp T a b;generalize lm3 a b T.A T.B T.C = m0 at *
 generalize lm3 b a T.A T.B T.C = m1 at *
 generalize ls2 T a b = m2 at *
 go_enter Tryz.func104, Tryz.ntmps104
 go_wp2_with fail;refine zA1 fun W1 hW => ?_;obtain ⟨Bt, Ba, Bb, Bo, hw⟩ := N4 hW;clear hW;refine (l0 _ _ Bo).mono ?_;rintro e w2 ⟨rfl, hb⟩;obtain ⟨Bt, Ba, Bb, Bo, hw, F_tabo⟩ := X4 Bt Ba Bb Bo hw hb;clear hb;go_wp2
 go_ret
 exact ⟨rfl, by have hl := hw.size; go_grown⟩
theorem thr_1 (T : Tri3) (a b : Pt) (h0 : decide (0 < lm3 a b T.A T.B T.C) = true) (h1 : decide (0 < lm3 b a T.A T.B T.C) = false) (w : World) :
    Calls Tryz.prog 104 #[.agg #[.int .i64 T.A.x, .int .i64 T.A.y, .int .i64 T.B.x, .int .i64 T.B.y, .int .i64 T.C.x, .int .i64 T.C.y], .agg #[.int .i64 a.x, .int .i64 a.y], .agg #[.int .i64 b.x, .int .i64 b.y]] w fun e w' => e = .returned (.bool false) ∧ Below w.heap.size w w' := by
 have l0 := zFn a b T.A T.B T.C;have l1 := zFn b a T.A T.B T.C;have l2 := zJp T a b;generalize lm3 a b T.A T.B T.C = m0 at *
 generalize lm3 b a T.A T.B T.C = m1 at *
 generalize ls2 T a b = m2 at *
 go_enter Tryz.func104, Tryz.ntmps104
 go_wp2_with fail;refine zA1 fun W1 hW => ?_;obtain ⟨Bt, Ba, Bb, Bo, hw⟩ := N4 hW;clear hW;refine (l0 _ _ Bo).mono ?_;rintro e w2 ⟨rfl, hb⟩;obtain ⟨Bt, Ba, Bb, Bo, hw, F_tabo⟩ := X4 Bt Ba Bb Bo hw hb;clear hb;go_wp2_with fail;refine (l1 _ _ Bo).mono ?_;rintro e w3 ⟨rfl, hb⟩;clear F_tabo;obtain ⟨Bt, Ba, Bb, Bo, hw, F_tabo⟩ := X4 Bt Ba Bb Bo hw hb;clear hb;go_wp2
 go_ret
 exact ⟨rfl, by have hl := hw.size; go_grown⟩
theorem thr_2 (T : Tri3) (a b : Pt) (h0 : decide (0 < lm3 a b T.A T.B T.C) = true) (h1 : decide (0 < lm3 b a T.A T.B T.C) = true) (w : World) :
    Calls Tryz.prog 104 #[.agg #[.int .i64 T.A.x, .int .i64 T.A.y, .int .i64 T.B.x, .int .i64 T.B.y, .int .i64 T.C.x, .int .i64 T.C.y], .agg #[.int .i64 a.x, .int .i64 a.y], .agg #[.int .i64 b.x, .int .i64 b.y]] w fun e w' => e = .returned (.bool (decide (0 < ls2 T a b))) ∧ Below w.heap.size w w' := by
 have l0 := zFn a b T.A T.B T.C;have l1 := zFn b a T.A T.B T.C;have l2 := zJp T a b;generalize lm3 a b T.A T.B T.C = m0 at *
 generalize lm3 b a T.A T.B T.C = m1 at *
 generalize ls2 T a b = m2 at *
 go_enter Tryz.func104, Tryz.ntmps104
 go_wp2_with fail;refine zA1 fun W1 hW => ?_;obtain ⟨Bt, Ba, Bb, Bo, hw⟩ := N4 hW;clear hW;refine (l0 _ _ Bo).mono ?_;rintro e w2 ⟨rfl, hb⟩;obtain ⟨Bt, Ba, Bb, Bo, hw, -⟩ := X4 Bt Ba Bb Bo hw hb;clear hb;have Ft := Bt.f;have Fa := Ba.f;have Fb := Bb.f;have Fo := Bo.f;go_wp2_with fail;refine (l1 _ _ Bo).mono ?_;rintro e w3 ⟨rfl, hb⟩;clear Ft Fa Fb Fo;obtain ⟨Bt, Ba, Bb, Bo, hw, -⟩ := X4 Bt Ba Bb Bo hw hb;clear hb;have Ft := Bt.f;have Fa := Ba.f;have Fb := Bb.f;have Fo := Bo.f;go_wp2_with fail;refine zA1 fun W4 hW => ?_;obtain ⟨bks, hbs⟩ : ∃ b, w3.heap.size = b := ⟨_, rfl⟩;rw [hbs];obtain ⟨lts, las, lbs, los, fs, Bs, Bt, Ba, Bb, Bo, hw⟩ := M4 hW hbs Bt Ba Bb Bo hw;clear hW hbs;refine (l2 _ bks Bs).mono ?_;rintro e w5 ⟨rfl, hb⟩;clear Ft Fa Fb Fo;obtain ⟨Bt, Ba, Bb, Bo, Bs, hw, -⟩ := X5 Bt Ba Bb Bo Bs hw hb;clear hb;have Ft := Bt.f;have Fa := Ba.f;have Fb := Bb.f;have Fo := Bo.f;have Fs := Bs.f;go_wp2
 go_ret
 exact ⟨rfl, by have hl := hw.size; go_grown⟩
theorem zGs (T : Tri3) (a b : Pt) (w : World) :
    Calls Tryz.prog 104 #[.agg #[.int .i64 T.A.x, .int .i64 T.A.y, .int .i64 T.B.x, .int .i64 T.B.y, .int .i64 T.C.x, .int .i64 T.C.y], .agg #[.int .i64 a.x, .int .i64 a.y], .agg #[.int .i64 b.x, .int .i64 b.y]] w fun e w' => e = .returned (.bool (thr T a b)) ∧ Below w.heap.size w w' := by
 unfold thr;cases h0 : decide (0 < lm3 a b T.A T.B T.C) with
 | false => exact thr_0 T a b h0 w
 | true => cases h1 : decide (0 < lm3 b a T.A T.B T.C) with
  | false => exact thr_1 T a b h0 h1 w
  | true => exact thr_2 T a b h0 h1 w
def oed (T : Tri3) (a b : Pt) : Bool := (meetS a b T.A T.B == 3) || ((meetS a b T.B T.C == 3) || (meetS a b T.C T.A == 3))
theorem oed_0 (T : Tri3) (a b : Pt) (h0 : (meetS a b T.A T.B == 3) = true) (w : World) :
    Calls Tryz.prog 105 #[.agg #[.int .i64 T.A.x, .int .i64 T.A.y, .int .i64 T.B.x, .int .i64 T.B.y, .int .i64 T.C.x, .int .i64 T.C.y], .agg #[.int .i64 a.x, .int .i64 a.y], .agg #[.int .i64 b.x, .int .i64 b.y]] w fun e w' => e = .returned (.bool true) ∧ Below w.heap.size w w' := by
 have e0 := zAw T 0;rw [show crn T 0 = T.A from rfl, show crn T (0 + 1) = T.B from rfl] at e0;have e1 := zAw T 1;rw [show crn T 1 = T.B from rfl, show crn T (1 + 1) = T.C from rfl] at e1;have e2 := zAw T 2;rw [show crn T 2 = T.C from rfl, show crn T (2 + 1) = T.A from rfl] at e2;have m0 := zBv a b T.A T.B;have m1 := zBv a b T.B T.C;have m2 := zBv a b T.C T.A;generalize meetS a b T.A T.B = n0 at *
 generalize meetS a b T.B T.C = n1 at *
 generalize meetS a b T.C T.A = n2 at *
 go_enter Tryz.func105, Tryz.ntmps105
 go_wp2_with fail;refine zA3 fun W1 hW => ?_;obtain ⟨Bt, Ba, Bb, hw⟩ := N3 hW;clear hW;refine wp_loop_rounds 5 ?_;try rw [rounds_succ]
 have F_tab := J3 Bt.f Ba.f Bb.f;go_wp2_with fail;refine (e0 _).mono ?_;rintro e w2 ⟨rfl, hb⟩;clear F_tab;obtain ⟨Bt, Ba, Bb, hw, F_tab⟩ := X3 Bt Ba Bb hw hb;clear hb;go_wp2_with fail;refine zA1 fun W3 hW => ?_;obtain ⟨bkp0, hbp0⟩ : ∃ b, w2.heap.size = b := ⟨_, rfl⟩;rw [hbp0];have ltp0 := Bt.lt;rw [hbp0] at ltp0;have lap0 := Ba.lt;rw [hbp0] at lap0;have lbp0 := Bb.lt;rw [hbp0] at lbp0;have fp0 := hw.size;rw [hbp0] at fp0;have Bp0 : Box W3 (bkp0) [.int .i64 T.A.x, .int .i64 T.A.y] 30 := by rw [hW, ← hbp0]; exact (Box.new rfl).old _
 have Bq0 : Box W3 (bkp0 + 1) [.int .i64 T.B.x, .int .i64 T.B.y] 30 := by rw [hW, ← hbp0]; exact Box.new (by simp)
 replace Bt : Box W3 (w.heap.size) [.int .i64 T.A.x, .int .i64 T.A.y, .int .i64 T.B.x, .int .i64 T.B.y, .int .i64 T.C.x, .int .i64 T.C.y] 38 := by rw [hW]; exact ((Bt).old _).old _
 replace Ba : Box W3 (w.heap.size + 1) [.int .i64 a.x, .int .i64 a.y] 30 := by rw [hW]; exact ((Ba).old _).old _
 replace Bb : Box W3 (w.heap.size + 1 + 1) [.int .i64 b.x, .int .i64 b.y] 30 := by rw [hW]; exact ((Bb).old _).old _
 replace hw : Below w.heap.size w W3 := by have hl := hw.size; rw [hW]; go_grown
 clear hW hbp0;refine (m0 _).mono ?_;rintro e w4 ⟨rfl, hb⟩;clear F_tab;obtain ⟨Bt, Ba, Bb, Bp0, Bq0, hw, -⟩ := X5 Bt Ba Bb Bp0 Bq0 hw hb;clear hb;clear Bp0;clear Bq0;have F_tab := J3 Bt.f Ba.f Bb.f;go_wp2
 go_ret
 exact ⟨rfl, by have hl := hw.size; go_grown⟩
theorem oed_1 (T : Tri3) (a b : Pt) (h0 : (meetS a b T.A T.B == 3) = false) (h1 : (meetS a b T.B T.C == 3) = true) (w : World) :
    Calls Tryz.prog 105 #[.agg #[.int .i64 T.A.x, .int .i64 T.A.y, .int .i64 T.B.x, .int .i64 T.B.y, .int .i64 T.C.x, .int .i64 T.C.y], .agg #[.int .i64 a.x, .int .i64 a.y], .agg #[.int .i64 b.x, .int .i64 b.y]] w fun e w' => e = .returned (.bool true) ∧ Below w.heap.size w w' := by
 have e0 := zAw T 0;rw [show crn T 0 = T.A from rfl, show crn T (0 + 1) = T.B from rfl] at e0;have e1 := zAw T 1;rw [show crn T 1 = T.B from rfl, show crn T (1 + 1) = T.C from rfl] at e1;have e2 := zAw T 2;rw [show crn T 2 = T.C from rfl, show crn T (2 + 1) = T.A from rfl] at e2;have m0 := zBv a b T.A T.B;have m1 := zBv a b T.B T.C;have m2 := zBv a b T.C T.A;generalize meetS a b T.A T.B = n0 at *
 generalize meetS a b T.B T.C = n1 at *
 generalize meetS a b T.C T.A = n2 at *
 go_enter Tryz.func105, Tryz.ntmps105
 go_wp2_with fail;refine zA3 fun W1 hW => ?_;obtain ⟨Bt, Ba, Bb, hw⟩ := N3 hW;clear hW;refine wp_loop_rounds 5 ?_;try rw [rounds_succ]
 have F_tab := J3 Bt.f Ba.f Bb.f;go_wp2_with fail;refine (e0 _).mono ?_;rintro e w2 ⟨rfl, hb⟩;clear F_tab;obtain ⟨Bt, Ba, Bb, hw, F_tab⟩ := X3 Bt Ba Bb hw hb;clear hb;go_wp2_with fail;refine zA1 fun W3 hW => ?_;obtain ⟨bkp0, hbp0⟩ : ∃ b, w2.heap.size = b := ⟨_, rfl⟩;rw [hbp0];have ltp0 := Bt.lt;rw [hbp0] at ltp0;have lap0 := Ba.lt;rw [hbp0] at lap0;have lbp0 := Bb.lt;rw [hbp0] at lbp0;have fp0 := hw.size;rw [hbp0] at fp0;have Bp0 : Box W3 (bkp0) [.int .i64 T.A.x, .int .i64 T.A.y] 30 := by rw [hW, ← hbp0]; exact (Box.new rfl).old _
 have Bq0 : Box W3 (bkp0 + 1) [.int .i64 T.B.x, .int .i64 T.B.y] 30 := by rw [hW, ← hbp0]; exact Box.new (by simp)
 replace Bt : Box W3 (w.heap.size) [.int .i64 T.A.x, .int .i64 T.A.y, .int .i64 T.B.x, .int .i64 T.B.y, .int .i64 T.C.x, .int .i64 T.C.y] 38 := by rw [hW]; exact ((Bt).old _).old _
 replace Ba : Box W3 (w.heap.size + 1) [.int .i64 a.x, .int .i64 a.y] 30 := by rw [hW]; exact ((Ba).old _).old _
 replace Bb : Box W3 (w.heap.size + 1 + 1) [.int .i64 b.x, .int .i64 b.y] 30 := by rw [hW]; exact ((Bb).old _).old _
 replace hw : Below w.heap.size w W3 := by have hl := hw.size; rw [hW]; go_grown
 clear hW hbp0;refine (m0 _).mono ?_;rintro e w4 ⟨rfl, hb⟩;clear F_tab;obtain ⟨Bt, Ba, Bb, Bp0, Bq0, hw, -⟩ := X5 Bt Ba Bb Bp0 Bq0 hw hb;clear hb;clear Bp0;clear Bq0;have F_tab := J3 Bt.f Ba.f Bb.f;go_wp2_with fail;try rw [rounds_succ]
 go_wp2_with fail;refine (e1 _).mono ?_;rintro e w5 ⟨rfl, hb⟩;clear F_tab;obtain ⟨Bt, Ba, Bb, hw, F_tab⟩ := X3 Bt Ba Bb hw hb;clear hb;go_wp2_with fail;refine zA1 fun W6 hW => ?_;obtain ⟨bkp1, hbp1⟩ : ∃ b, w5.heap.size = b := ⟨_, rfl⟩;rw [hbp1];have ltp1 := Bt.lt;rw [hbp1] at ltp1;have lap1 := Ba.lt;rw [hbp1] at lap1;have lbp1 := Bb.lt;rw [hbp1] at lbp1;have fp1 := hw.size;rw [hbp1] at fp1;have Bp1 : Box W6 (bkp1) [.int .i64 T.B.x, .int .i64 T.B.y] 30 := by rw [hW, ← hbp1]; exact (Box.new rfl).old _
 have Bq1 : Box W6 (bkp1 + 1) [.int .i64 T.C.x, .int .i64 T.C.y] 30 := by rw [hW, ← hbp1]; exact Box.new (by simp)
 replace Bt : Box W6 (w.heap.size) [.int .i64 T.A.x, .int .i64 T.A.y, .int .i64 T.B.x, .int .i64 T.B.y, .int .i64 T.C.x, .int .i64 T.C.y] 38 := by rw [hW]; exact ((Bt).old _).old _
 replace Ba : Box W6 (w.heap.size + 1) [.int .i64 a.x, .int .i64 a.y] 30 := by rw [hW]; exact ((Ba).old _).old _
 replace Bb : Box W6 (w.heap.size + 1 + 1) [.int .i64 b.x, .int .i64 b.y] 30 := by rw [hW]; exact ((Bb).old _).old _
 replace hw : Below w.heap.size w W6 := by have hl := hw.size; rw [hW]; go_grown
 clear hW hbp1;refine (m1 _).mono ?_;rintro e w7 ⟨rfl, hb⟩;clear F_tab;obtain ⟨Bt, Ba, Bb, Bp1, Bq1, hw, -⟩ := X5 Bt Ba Bb Bp1 Bq1 hw hb;clear hb;clear Bp1;clear Bq1;have F_tab := J3 Bt.f Ba.f Bb.f;go_wp2
 go_ret
 exact ⟨rfl, by have hl := hw.size; go_grown⟩
theorem oed_2 (T : Tri3) (a b : Pt) (h0 : (meetS a b T.A T.B == 3) = false) (h1 : (meetS a b T.B T.C == 3) = false) (h2 : (meetS a b T.C T.A == 3) = true) (w : World) :
    Calls Tryz.prog 105 #[.agg #[.int .i64 T.A.x, .int .i64 T.A.y, .int .i64 T.B.x, .int .i64 T.B.y, .int .i64 T.C.x, .int .i64 T.C.y], .agg #[.int .i64 a.x, .int .i64 a.y], .agg #[.int .i64 b.x, .int .i64 b.y]] w fun e w' => e = .returned (.bool true) ∧ Below w.heap.size w w' := by
 have e0 := zAw T 0;rw [show crn T 0 = T.A from rfl, show crn T (0 + 1) = T.B from rfl] at e0;have e1 := zAw T 1;rw [show crn T 1 = T.B from rfl, show crn T (1 + 1) = T.C from rfl] at e1;have e2 := zAw T 2;rw [show crn T 2 = T.C from rfl, show crn T (2 + 1) = T.A from rfl] at e2;have m0 := zBv a b T.A T.B;have m1 := zBv a b T.B T.C;have m2 := zBv a b T.C T.A;generalize meetS a b T.A T.B = n0 at *
 generalize meetS a b T.B T.C = n1 at *
 generalize meetS a b T.C T.A = n2 at *
 go_enter Tryz.func105, Tryz.ntmps105
 go_wp2_with fail;refine zA3 fun W1 hW => ?_;obtain ⟨Bt, Ba, Bb, hw⟩ := N3 hW;clear hW;refine wp_loop_rounds 5 ?_;try rw [rounds_succ]
 have F_tab := J3 Bt.f Ba.f Bb.f;go_wp2_with fail;refine (e0 _).mono ?_;rintro e w2 ⟨rfl, hb⟩;clear F_tab;obtain ⟨Bt, Ba, Bb, hw, F_tab⟩ := X3 Bt Ba Bb hw hb;clear hb;go_wp2_with fail;refine zA1 fun W3 hW => ?_;obtain ⟨bkp0, hbp0⟩ : ∃ b, w2.heap.size = b := ⟨_, rfl⟩;rw [hbp0];have ltp0 := Bt.lt;rw [hbp0] at ltp0;have lap0 := Ba.lt;rw [hbp0] at lap0;have lbp0 := Bb.lt;rw [hbp0] at lbp0;have fp0 := hw.size;rw [hbp0] at fp0;have Bp0 : Box W3 (bkp0) [.int .i64 T.A.x, .int .i64 T.A.y] 30 := by rw [hW, ← hbp0]; exact (Box.new rfl).old _
 have Bq0 : Box W3 (bkp0 + 1) [.int .i64 T.B.x, .int .i64 T.B.y] 30 := by rw [hW, ← hbp0]; exact Box.new (by simp)
 replace Bt : Box W3 (w.heap.size) [.int .i64 T.A.x, .int .i64 T.A.y, .int .i64 T.B.x, .int .i64 T.B.y, .int .i64 T.C.x, .int .i64 T.C.y] 38 := by rw [hW]; exact ((Bt).old _).old _
 replace Ba : Box W3 (w.heap.size + 1) [.int .i64 a.x, .int .i64 a.y] 30 := by rw [hW]; exact ((Ba).old _).old _
 replace Bb : Box W3 (w.heap.size + 1 + 1) [.int .i64 b.x, .int .i64 b.y] 30 := by rw [hW]; exact ((Bb).old _).old _
 replace hw : Below w.heap.size w W3 := by have hl := hw.size; rw [hW]; go_grown
 clear hW hbp0;refine (m0 _).mono ?_;rintro e w4 ⟨rfl, hb⟩;clear F_tab;obtain ⟨Bt, Ba, Bb, Bp0, Bq0, hw, -⟩ := X5 Bt Ba Bb Bp0 Bq0 hw hb;clear hb;clear Bp0;clear Bq0;have F_tab := J3 Bt.f Ba.f Bb.f;go_wp2_with fail;try rw [rounds_succ]
 go_wp2_with fail;refine (e1 _).mono ?_;rintro e w5 ⟨rfl, hb⟩;clear F_tab;obtain ⟨Bt, Ba, Bb, hw, F_tab⟩ := X3 Bt Ba Bb hw hb;clear hb;go_wp2_with fail;refine zA1 fun W6 hW => ?_;obtain ⟨bkp1, hbp1⟩ : ∃ b, w5.heap.size = b := ⟨_, rfl⟩;rw [hbp1];have ltp1 := Bt.lt;rw [hbp1] at ltp1;have lap1 := Ba.lt;rw [hbp1] at lap1;have lbp1 := Bb.lt;rw [hbp1] at lbp1;have fp1 := hw.size;rw [hbp1] at fp1;have Bp1 : Box W6 (bkp1) [.int .i64 T.B.x, .int .i64 T.B.y] 30 := by rw [hW, ← hbp1]; exact (Box.new rfl).old _
 have Bq1 : Box W6 (bkp1 + 1) [.int .i64 T.C.x, .int .i64 T.C.y] 30 := by rw [hW, ← hbp1]; exact Box.new (by simp)
 replace Bt : Box W6 (w.heap.size) [.int .i64 T.A.x, .int .i64 T.A.y, .int .i64 T.B.x, .int .i64 T.B.y, .int .i64 T.C.x, .int .i64 T.C.y] 38 := by rw [hW]; exact ((Bt).old _).old _
 replace Ba : Box W6 (w.heap.size + 1) [.int .i64 a.x, .int .i64 a.y] 30 := by rw [hW]; exact ((Ba).old _).old _
 replace Bb : Box W6 (w.heap.size + 1 + 1) [.int .i64 b.x, .int .i64 b.y] 30 := by rw [hW]; exact ((Bb).old _).old _
 replace hw : Below w.heap.size w W6 := by have hl := hw.size; rw [hW]; go_grown
 clear hW hbp1;refine (m1 _).mono ?_;rintro e w7 ⟨rfl, hb⟩;clear F_tab;obtain ⟨Bt, Ba, Bb, Bp1, Bq1, hw, -⟩ := X5 Bt Ba Bb Bp1 Bq1 hw hb;clear hb;clear Bp1;clear Bq1;have F_tab := J3 Bt.f Ba.f Bb.f;go_wp2_with fail;try rw [rounds_succ]
 go_wp2_with fail;refine (e2 _).mono ?_;rintro e w8 ⟨rfl, hb⟩;clear F_tab;obtain ⟨Bt, Ba, Bb, hw, F_tab⟩ := X3 Bt Ba Bb hw hb;clear hb;go_wp2_with fail;refine zA1 fun W9 hW => ?_;obtain ⟨bkp2, hbp2⟩ : ∃ b, w8.heap.size = b := ⟨_, rfl⟩;rw [hbp2];have ltp2 := Bt.lt;rw [hbp2] at ltp2;have lap2 := Ba.lt;rw [hbp2] at lap2;have lbp2 := Bb.lt;rw [hbp2] at lbp2;have fp2 := hw.size;rw [hbp2] at fp2;have Bp2 : Box W9 (bkp2) [.int .i64 T.C.x, .int .i64 T.C.y] 30 := by rw [hW, ← hbp2]; exact (Box.new rfl).old _
 have Bq2 : Box W9 (bkp2 + 1) [.int .i64 T.A.x, .int .i64 T.A.y] 30 := by rw [hW, ← hbp2]; exact Box.new (by simp)
 replace Bt : Box W9 (w.heap.size) [.int .i64 T.A.x, .int .i64 T.A.y, .int .i64 T.B.x, .int .i64 T.B.y, .int .i64 T.C.x, .int .i64 T.C.y] 38 := by rw [hW]; exact ((Bt).old _).old _
 replace Ba : Box W9 (w.heap.size + 1) [.int .i64 a.x, .int .i64 a.y] 30 := by rw [hW]; exact ((Ba).old _).old _
 replace Bb : Box W9 (w.heap.size + 1 + 1) [.int .i64 b.x, .int .i64 b.y] 30 := by rw [hW]; exact ((Bb).old _).old _
 replace hw : Below w.heap.size w W9 := by have hl := hw.size; rw [hW]; go_grown
 clear hW hbp2;refine (m2 _).mono ?_;rintro e w10 ⟨rfl, hb⟩;clear F_tab;obtain ⟨Bt, Ba, Bb, Bp2, Bq2, hw, -⟩ := X5 Bt Ba Bb Bp2 Bq2 hw hb;clear hb;clear Bp2;clear Bq2;have F_tab := J3 Bt.f Ba.f Bb.f;go_wp2
 go_ret
 exact ⟨rfl, by have hl := hw.size; go_grown⟩
theorem oed_3 (T : Tri3) (a b : Pt) (h0 : (meetS a b T.A T.B == 3) = false) (h1 : (meetS a b T.B T.C == 3) = false) (h2 : (meetS a b T.C T.A == 3) = false) (w : World) :
    Calls Tryz.prog 105 #[.agg #[.int .i64 T.A.x, .int .i64 T.A.y, .int .i64 T.B.x, .int .i64 T.B.y, .int .i64 T.C.x, .int .i64 T.C.y], .agg #[.int .i64 a.x, .int .i64 a.y], .agg #[.int .i64 b.x, .int .i64 b.y]] w fun e w' => e = .returned (.bool false) ∧ Below w.heap.size w w' := by
 have e0 := zAw T 0;rw [show crn T 0 = T.A from rfl, show crn T (0 + 1) = T.B from rfl] at e0;have e1 := zAw T 1;rw [show crn T 1 = T.B from rfl, show crn T (1 + 1) = T.C from rfl] at e1;have e2 := zAw T 2;rw [show crn T 2 = T.C from rfl, show crn T (2 + 1) = T.A from rfl] at e2;have m0 := zBv a b T.A T.B;have m1 := zBv a b T.B T.C;have m2 := zBv a b T.C T.A;generalize meetS a b T.A T.B = n0 at *
 generalize meetS a b T.B T.C = n1 at *
 generalize meetS a b T.C T.A = n2 at *
 go_enter Tryz.func105, Tryz.ntmps105
 go_wp2_with fail;refine zA3 fun W1 hW => ?_;obtain ⟨Bt, Ba, Bb, hw⟩ := N3 hW;clear hW;refine wp_loop_rounds 5 ?_;try rw [rounds_succ]
 have F_tab := J3 Bt.f Ba.f Bb.f;go_wp2_with fail;refine (e0 _).mono ?_;rintro e w2 ⟨rfl, hb⟩;clear F_tab;obtain ⟨Bt, Ba, Bb, hw, F_tab⟩ := X3 Bt Ba Bb hw hb;clear hb;go_wp2_with fail;refine zA1 fun W3 hW => ?_;obtain ⟨bkp0, hbp0⟩ : ∃ b, w2.heap.size = b := ⟨_, rfl⟩;rw [hbp0];have ltp0 := Bt.lt;rw [hbp0] at ltp0;have lap0 := Ba.lt;rw [hbp0] at lap0;have lbp0 := Bb.lt;rw [hbp0] at lbp0;have fp0 := hw.size;rw [hbp0] at fp0;have Bp0 : Box W3 (bkp0) [.int .i64 T.A.x, .int .i64 T.A.y] 30 := by rw [hW, ← hbp0]; exact (Box.new rfl).old _
 have Bq0 : Box W3 (bkp0 + 1) [.int .i64 T.B.x, .int .i64 T.B.y] 30 := by rw [hW, ← hbp0]; exact Box.new (by simp)
 replace Bt : Box W3 (w.heap.size) [.int .i64 T.A.x, .int .i64 T.A.y, .int .i64 T.B.x, .int .i64 T.B.y, .int .i64 T.C.x, .int .i64 T.C.y] 38 := by rw [hW]; exact ((Bt).old _).old _
 replace Ba : Box W3 (w.heap.size + 1) [.int .i64 a.x, .int .i64 a.y] 30 := by rw [hW]; exact ((Ba).old _).old _
 replace Bb : Box W3 (w.heap.size + 1 + 1) [.int .i64 b.x, .int .i64 b.y] 30 := by rw [hW]; exact ((Bb).old _).old _
 replace hw : Below w.heap.size w W3 := by have hl := hw.size; rw [hW]; go_grown
 clear hW hbp0;refine (m0 _).mono ?_;rintro e w4 ⟨rfl, hb⟩;clear F_tab;obtain ⟨Bt, Ba, Bb, Bp0, Bq0, hw, -⟩ := X5 Bt Ba Bb Bp0 Bq0 hw hb;clear hb;clear Bp0;clear Bq0;have F_tab := J3 Bt.f Ba.f Bb.f;go_wp2_with fail;try rw [rounds_succ]
 go_wp2_with fail;refine (e1 _).mono ?_;rintro e w5 ⟨rfl, hb⟩;clear F_tab;obtain ⟨Bt, Ba, Bb, hw, F_tab⟩ := X3 Bt Ba Bb hw hb;clear hb;go_wp2_with fail;refine zA1 fun W6 hW => ?_;obtain ⟨bkp1, hbp1⟩ : ∃ b, w5.heap.size = b := ⟨_, rfl⟩;rw [hbp1];have ltp1 := Bt.lt;rw [hbp1] at ltp1;have lap1 := Ba.lt;rw [hbp1] at lap1;have lbp1 := Bb.lt;rw [hbp1] at lbp1;have fp1 := hw.size;rw [hbp1] at fp1;have Bp1 : Box W6 (bkp1) [.int .i64 T.B.x, .int .i64 T.B.y] 30 := by rw [hW, ← hbp1]; exact (Box.new rfl).old _
 have Bq1 : Box W6 (bkp1 + 1) [.int .i64 T.C.x, .int .i64 T.C.y] 30 := by rw [hW, ← hbp1]; exact Box.new (by simp)
 replace Bt : Box W6 (w.heap.size) [.int .i64 T.A.x, .int .i64 T.A.y, .int .i64 T.B.x, .int .i64 T.B.y, .int .i64 T.C.x, .int .i64 T.C.y] 38 := by rw [hW]; exact ((Bt).old _).old _
 replace Ba : Box W6 (w.heap.size + 1) [.int .i64 a.x, .int .i64 a.y] 30 := by rw [hW]; exact ((Ba).old _).old _
 replace Bb : Box W6 (w.heap.size + 1 + 1) [.int .i64 b.x, .int .i64 b.y] 30 := by rw [hW]; exact ((Bb).old _).old _
 replace hw : Below w.heap.size w W6 := by have hl := hw.size; rw [hW]; go_grown
 clear hW hbp1;refine (m1 _).mono ?_;rintro e w7 ⟨rfl, hb⟩;clear F_tab;obtain ⟨Bt, Ba, Bb, Bp1, Bq1, hw, -⟩ := X5 Bt Ba Bb Bp1 Bq1 hw hb;clear hb;clear Bp1;clear Bq1;have F_tab := J3 Bt.f Ba.f Bb.f;go_wp2_with fail;try rw [rounds_succ]
 go_wp2_with fail;refine (e2 _).mono ?_;rintro e w8 ⟨rfl, hb⟩;clear F_tab;obtain ⟨Bt, Ba, Bb, hw, F_tab⟩ := X3 Bt Ba Bb hw hb;clear hb;go_wp2_with fail;refine zA1 fun W9 hW => ?_;obtain ⟨bkp2, hbp2⟩ : ∃ b, w8.heap.size = b := ⟨_, rfl⟩;rw [hbp2];have ltp2 := Bt.lt;rw [hbp2] at ltp2;have lap2 := Ba.lt;rw [hbp2] at lap2;have lbp2 := Bb.lt;rw [hbp2] at lbp2;have fp2 := hw.size;rw [hbp2] at fp2;have Bp2 : Box W9 (bkp2) [.int .i64 T.C.x, .int .i64 T.C.y] 30 := by rw [hW, ← hbp2]; exact (Box.new rfl).old _
 have Bq2 : Box W9 (bkp2 + 1) [.int .i64 T.A.x, .int .i64 T.A.y] 30 := by rw [hW, ← hbp2]; exact Box.new (by simp)
 replace Bt : Box W9 (w.heap.size) [.int .i64 T.A.x, .int .i64 T.A.y, .int .i64 T.B.x, .int .i64 T.B.y, .int .i64 T.C.x, .int .i64 T.C.y] 38 := by rw [hW]; exact ((Bt).old _).old _
 replace Ba : Box W9 (w.heap.size + 1) [.int .i64 a.x, .int .i64 a.y] 30 := by rw [hW]; exact ((Ba).old _).old _
 replace Bb : Box W9 (w.heap.size + 1 + 1) [.int .i64 b.x, .int .i64 b.y] 30 := by rw [hW]; exact ((Bb).old _).old _
 replace hw : Below w.heap.size w W9 := by have hl := hw.size; rw [hW]; go_grown
 clear hW hbp2;refine (m2 _).mono ?_;rintro e w10 ⟨rfl, hb⟩;clear F_tab;obtain ⟨Bt, Ba, Bb, Bp2, Bq2, hw, -⟩ := X5 Bt Ba Bb Bp2 Bq2 hw hb;clear hb;clear Bp2;clear Bq2;have F_tab := J3 Bt.f Ba.f Bb.f;go_wp2_with fail;try rw [rounds_succ]
 go_wp2
 go_ret
 exact ⟨rfl, by have hl := hw.size; go_grown⟩
theorem zH3 (T : Tri3) (a b : Pt) (w : World) :
    Calls Tryz.prog 105 #[.agg #[.int .i64 T.A.x, .int .i64 T.A.y, .int .i64 T.B.x, .int .i64 T.B.y, .int .i64 T.C.x, .int .i64 T.C.y], .agg #[.int .i64 a.x, .int .i64 a.y], .agg #[.int .i64 b.x, .int .i64 b.y]] w fun e w' => e = .returned (.bool (oed T a b)) ∧ Below w.heap.size w w' := by
 unfold oed;cases h0 : (meetS a b T.A T.B == 3) with
 | true => exact oed_0 T a b h0 w
 | false => cases h1 : (meetS a b T.B T.C == 3) with
  | true => exact oed_1 T a b h0 h1 w
  | false => cases h2 : (meetS a b T.C T.A == 3) with
   | true => exact oed_2 T a b h0 h1 h2 w
   | false => exact oed_3 T a b h0 h1 h2 w
def alg (T : Tri3) (a b : Pt) : Bool := valT T && (vld a && (vld b && (thr T a b || oed T a b)))
theorem alg_0 (T : Tri3) (a b : Pt) (h0 : valT T = false) (w : World) :
    Calls Tryz.prog 61 #[.agg #[.int .i64 T.A.x, .int .i64 T.A.y, .int .i64 T.B.x, .int .i64 T.B.y, .int .i64 T.C.x, .int .i64 T.C.y], .agg #[.int .i64 a.x, .int .i64 a.y], .agg #[.int .i64 b.x, .int .i64 b.y]] w fun e w' => e = .returned (.bool false) ∧ Below w.heap.size w w' := by
 have c0 := zBg T;have c1 := zA6 a;have c2 := zA6 b;have c3 := zGs T a b;have c4 := zH3 T a b;rw [h0] at c0;clear h0;generalize oed T a b = m at *
 go_enter Tryz.func61, Tryz.ntmps61
 go_wp2_with fail;refine zA1 fun W1 hW => ?_;obtain ⟨Bt, Ba, Bb, hw⟩ := N3 hW;clear hW;refine (c0 _).mono ?_;rintro e w2 ⟨rfl, hb⟩;obtain ⟨Bt, Ba, Bb, hw, F_tab⟩ := X3 Bt Ba Bb hw hb;clear hb;go_wp2
 go_ret
 exact ⟨rfl, by have hl := hw.size; go_grown⟩
theorem alg_1 (T : Tri3) (a b : Pt) (h0 : valT T = true) (h1 : vld a = false) (w : World) :
    Calls Tryz.prog 61 #[.agg #[.int .i64 T.A.x, .int .i64 T.A.y, .int .i64 T.B.x, .int .i64 T.B.y, .int .i64 T.C.x, .int .i64 T.C.y], .agg #[.int .i64 a.x, .int .i64 a.y], .agg #[.int .i64 b.x, .int .i64 b.y]] w fun e w' => e = .returned (.bool false) ∧ Below w.heap.size w w' := by
 have c0 := zBg T;have c1 := zA6 a;have c2 := zA6 b;have c3 := zGs T a b;have c4 := zH3 T a b;rw [h0] at c0;rw [h1] at c1;clear h0 h1;generalize oed T a b = m at *
 go_enter Tryz.func61, Tryz.ntmps61
 go_wp2_with fail;refine zA1 fun W1 hW => ?_;obtain ⟨Bt, Ba, Bb, hw⟩ := N3 hW;clear hW;refine (c0 _).mono ?_;rintro e w2 ⟨rfl, hb⟩;obtain ⟨Bt, Ba, Bb, hw, F_tab⟩ := X3 Bt Ba Bb hw hb;clear hb;go_wp2_with fail;refine (c1 _).mono ?_;rintro e w3 ⟨rfl, hb⟩;clear F_tab;obtain ⟨Bt, Ba, Bb, hw, F_tab⟩ := X3 Bt Ba Bb hw hb;clear hb;go_wp2
 go_ret
 exact ⟨rfl, by have hl := hw.size; go_grown⟩
theorem alg_2 (T : Tri3) (a b : Pt) (h0 : valT T = true) (h1 : vld a = true) (h2 : vld b = false) (w : World) :
    Calls Tryz.prog 61 #[.agg #[.int .i64 T.A.x, .int .i64 T.A.y, .int .i64 T.B.x, .int .i64 T.B.y, .int .i64 T.C.x, .int .i64 T.C.y], .agg #[.int .i64 a.x, .int .i64 a.y], .agg #[.int .i64 b.x, .int .i64 b.y]] w fun e w' => e = .returned (.bool false) ∧ Below w.heap.size w w' := by
 have c0 := zBg T;have c1 := zA6 a;have c2 := zA6 b;have c3 := zGs T a b;have c4 := zH3 T a b;rw [h0] at c0;rw [h1] at c1;rw [h2] at c2;clear h0 h1 h2;generalize oed T a b = m at *
 go_enter Tryz.func61, Tryz.ntmps61
 go_wp2_with fail;refine zA1 fun W1 hW => ?_;obtain ⟨Bt, Ba, Bb, hw⟩ := N3 hW;clear hW;refine (c0 _).mono ?_;rintro e w2 ⟨rfl, hb⟩;obtain ⟨Bt, Ba, Bb, hw, F_tab⟩ := X3 Bt Ba Bb hw hb;clear hb;go_wp2_with fail;refine (c1 _).mono ?_;rintro e w3 ⟨rfl, hb⟩;clear F_tab;obtain ⟨Bt, Ba, Bb, hw, F_tab⟩ := X3 Bt Ba Bb hw hb;clear hb;go_wp2_with fail;refine (c2 _).mono ?_;rintro e w4 ⟨rfl, hb⟩;clear F_tab;obtain ⟨Bt, Ba, Bb, hw, F_tab⟩ := X3 Bt Ba Bb hw hb;clear hb;go_wp2
 go_ret
 exact ⟨rfl, by have hl := hw.size; go_grown⟩
theorem alg_3 (T : Tri3) (a b : Pt) (h0 : valT T = true) (h1 : vld a = true) (h2 : vld b = true) (h3 : thr T a b = true) (w : World) :
    Calls Tryz.prog 61 #[.agg #[.int .i64 T.A.x, .int .i64 T.A.y, .int .i64 T.B.x, .int .i64 T.B.y, .int .i64 T.C.x, .int .i64 T.C.y], .agg #[.int .i64 a.x, .int .i64 a.y], .agg #[.int .i64 b.x, .int .i64 b.y]] w fun e w' => e = .returned (.bool true) ∧ Below w.heap.size w w' := by
 have c0 := zBg T;have c1 := zA6 a;have c2 := zA6 b;have c3 := zGs T a b;have c4 := zH3 T a b;rw [h0] at c0;rw [h1] at c1;rw [h2] at c2;rw [h3] at c3;clear h0 h1 h2 h3;generalize oed T a b = m at *
 go_enter Tryz.func61, Tryz.ntmps61
 go_wp2_with fail;refine zA1 fun W1 hW => ?_;obtain ⟨Bt, Ba, Bb, hw⟩ := N3 hW;clear hW;refine (c0 _).mono ?_;rintro e w2 ⟨rfl, hb⟩;obtain ⟨Bt, Ba, Bb, hw, F_tab⟩ := X3 Bt Ba Bb hw hb;clear hb;go_wp2_with fail;refine (c1 _).mono ?_;rintro e w3 ⟨rfl, hb⟩;clear F_tab;obtain ⟨Bt, Ba, Bb, hw, F_tab⟩ := X3 Bt Ba Bb hw hb;clear hb;go_wp2_with fail;refine (c2 _).mono ?_;rintro e w4 ⟨rfl, hb⟩;clear F_tab;obtain ⟨Bt, Ba, Bb, hw, F_tab⟩ := X3 Bt Ba Bb hw hb;clear hb;go_wp2_with fail;refine (c3 _).mono ?_;rintro e w5 ⟨rfl, hb⟩;clear F_tab;obtain ⟨Bt, Ba, Bb, hw, F_tab⟩ := X3 Bt Ba Bb hw hb;clear hb;go_wp2
 go_ret
 exact ⟨rfl, by have hl := hw.size; go_grown⟩
theorem alg_4 (T : Tri3) (a b : Pt) (h0 : valT T = true) (h1 : vld a = true) (h2 : vld b = true) (h3 : thr T a b = false) (w : World) :
    Calls Tryz.prog 61 #[.agg #[.int .i64 T.A.x, .int .i64 T.A.y, .int .i64 T.B.x, .int .i64 T.B.y, .int .i64 T.C.x, .int .i64 T.C.y], .agg #[.int .i64 a.x, .int .i64 a.y], .agg #[.int .i64 b.x, .int .i64 b.y]] w fun e w' => e = .returned (.bool (oed T a b)) ∧ Below w.heap.size w w' := by
 have c0 := zBg T;have c1 := zA6 a;have c2 := zA6 b;have c3 := zGs T a b;have c4 := zH3 T a b;rw [h0] at c0;rw [h1] at c1;rw [h2] at c2;rw [h3] at c3;clear h0 h1 h2 h3;generalize oed T a b = m at *
 go_enter Tryz.func61, Tryz.ntmps61
 go_wp2_with fail;refine zA1 fun W1 hW => ?_;obtain ⟨Bt, Ba, Bb, hw⟩ := N3 hW;clear hW;refine (c0 _).mono ?_;rintro e w2 ⟨rfl, hb⟩;obtain ⟨Bt, Ba, Bb, hw, F_tab⟩ := X3 Bt Ba Bb hw hb;clear hb;go_wp2_with fail;refine (c1 _).mono ?_;rintro e w3 ⟨rfl, hb⟩;clear F_tab;obtain ⟨Bt, Ba, Bb, hw, F_tab⟩ := X3 Bt Ba Bb hw hb;clear hb;go_wp2_with fail;refine (c2 _).mono ?_;rintro e w4 ⟨rfl, hb⟩;clear F_tab;obtain ⟨Bt, Ba, Bb, hw, F_tab⟩ := X3 Bt Ba Bb hw hb;clear hb;go_wp2_with fail;refine (c3 _).mono ?_;rintro e w5 ⟨rfl, hb⟩;clear F_tab;obtain ⟨Bt, Ba, Bb, hw, F_tab⟩ := X3 Bt Ba Bb hw hb;clear hb;go_wp2_with fail;refine (c4 _).mono ?_;rintro e w6 ⟨rfl, hb⟩;clear F_tab;obtain ⟨Bt, Ba, Bb, hw, F_tab⟩ := X3 Bt Ba Bb hw hb;clear hb;go_wp2
 go_ret
 exact ⟨rfl, by have hl := hw.size; go_grown⟩
theorem alg_any (T : Tri3) (a b : Pt) (w : World) :
    Calls Tryz.prog 61 #[.agg #[.int .i64 T.A.x, .int .i64 T.A.y, .int .i64 T.B.x, .int .i64 T.B.y, .int .i64 T.C.x, .int .i64 T.C.y], .agg #[.int .i64 a.x, .int .i64 a.y], .agg #[.int .i64 b.x, .int .i64 b.y]] w fun e w' => e = .returned (.bool (alg T a b)) ∧ Below w.heap.size w w' := by
 unfold alg;cases h0 : valT T with
 | false => exact alg_0 T a b h0 w
 | true => cases h1 : vld a with
  | false => exact alg_1 T a b h0 h1 w
  | true => cases h2 : vld b with
   | false => exact alg_2 T a b h0 h1 h2 w
   | true => cases h3 : thr T a b with
    | true => exact alg_3 T a b h0 h1 h2 h3 w
    | false => exact alg_4 T a b h0 h1 h2 h3 w
end Go.Proofs.YtmobnmjjmafibaaGreat
namespace Go.Proofs.YtmobnmjjmafibaaGreat
open Go.RowKit Go.Sort
attribute [local go_sem] rOper rAt rUpon cell_set sg_i64 sg_u64 alloc_cell alloc_frozen
attribute [local go_sem 10000] pt_eql pt_neq tri_eql
attribute [local irreducible] rWalk
def qway : Nat → Pt × Pt
 | 0 => (⟨0, 0⟩, ⟨2, 0⟩)
 | 1 => (⟨2, 0⟩, ⟨2, 2⟩)
 | 2 => (⟨2, 2⟩, ⟨0, 2⟩)
 | _ => (⟨0, 2⟩, ⟨0, 0⟩)
def five : List Pt := [⟨0, 0⟩, ⟨2, 0⟩, ⟨2, 2⟩, ⟨0, 2⟩, ⟨1, 1⟩]
def quart (i : Nat) : List Tri3 := [⟨(qway i).1, (qway i).2, ⟨1, 1⟩⟩, ⟨(qway i).2, ⟨1, 1⟩, (qway i).1⟩, ⟨⟨1, 1⟩, (qway i).1, (qway i).2⟩]
def isQ (i : Nat) (T : Tri3) : Bool := (quart i).contains T
theorem twelve : ∀ a ∈ five, ∀ b ∈ five, ∀ d ∈ five, 0 < det a b d → ((0 ≤ det a b ⟨1, 1⟩ ∧ 0 ≤ det b d ⟨1, 1⟩ ∧ 0 ≤ det d a ⟨1, 1⟩) → (⟨1, 1⟩ : Pt) = a ∨ (⟨1, 1⟩ : Pt) = b ∨ (⟨1, 1⟩ : Pt) = d) → (⟨a, b, d⟩ : Tri3) ∈ quart 0 ++ quart 1 ++ quart 2 ++ quart 3 := by
 decide +kernel
def quarters : List Tri3 := (quart 0 ++ quart 1 ++ quart 2 ++ quart 3).filter valT
theorem quarts {E : Es} {L : List Tri3} (g : Good E L) (t : Tiles 2 2 L) (hc : ∀ q, someC L q ↔ PutPt 2 [4] q) {T : Tri3} (hT : T ∈ L) : T ∈ quarters := by
 have hs : spt 2 4 = ⟨1, 1⟩ := by decide
 have h5 : ∀ q, someC L q → q ∈ five := fun q hq => by
  rcases (hc q).1 hq with (h | h | h | h) | ⟨x, hx, h⟩
  ·rw [h]; decide
  ·rw [h]; decide
  ·rw [h]; decide
  ·rw [h]; decide
  ·rw [List.mem_singleton] at hx; rw [h, hx, hs]; decide
 have hm : someC L ⟨1, 1⟩ := (hc _).2 (.inr ⟨4, by simp, hs.symm⟩);obtain ⟨S, hS, hcS⟩ := hm;refine List.mem_filter.2 ⟨twelve T.A (h5 _ ⟨T, hT, .inl rfl⟩) T.B (h5 _ ⟨T, hT, .inr (.inl rfl)⟩) T.C (h5 _ ⟨T, hT, .inr (.inr rfl)⟩) (t.pos T hT) (fun h => t.cnr_all hS hT hcS h), g.val T hT⟩
theorem zB9 : ∀ T ∈ quarters, det T.A T.B T.C = 2 ∧ isCb ⟨1, 1⟩ T = true ∧ hasP T ⟨1, 0⟩ = isQ 0 T ∧ alg T ⟨0, 0⟩ ⟨1, 1⟩ = (isQ 0 T || isQ 3 T) ∧ alg T ⟨1, 1⟩ ⟨1, 1⟩ = false ∧
    (if isQ 0 T then 1 else 0) + (if isQ 1 T then 1 else 0) + (if isQ 2 T then 1 else 0) + (if isQ 3 T then 1 else 0) = 1 ∧ (∀ i, i < 4 → isQ i T = true → qway i ∈ ways T) := by
 decide +kernel
theorem zJa : ∀ (L : List Tri3), (∀ T ∈ L, det T.A T.B T.C = 2) → sumA L = 2 * (L.length : Int)
 | [], _ => rfl
 | T :: L, h => by
  unfold sumA;rw [h T (by simp), zJa L (fun S hS => h S (by simp [hS]))];simp; omega
theorem zHe : ∀ (L : List Tri3), (∀ T ∈ L, T ∈ quarters) → (L.filter (isQ 0)).length + (L.filter (isQ 1)).length + (L.filter (isQ 2)).length + (L.filter (isQ 3)).length = L.length
 | [], _ => rfl
 | T :: L, h => by
  have k := zHe L (fun S hS => h S (by simp [hS]));have q := (zB9 T (h T (by simp))).2.2.2.2.2.1;simp only [List.filter_cons];cases h0 : isQ 0 T <;> cases h1 : isQ 1 T <;> cases h2 : isQ 2 T <;> cases h3 : isQ 3 T <;> simp [h0, h1, h2, h3] at q ⊢ <;> omega
theorem zEl {L : List Tri3} (hn : (L.flatMap ways).Nodup) (hq : ∀ T ∈ L, T ∈ quarters) {i : Nat} (hi : i < 4) : (L.filter (isQ i)).length ≤ 1 := by
 have nd : (L.filter (isQ i)).Nodup := (zH9 hn).sublist List.filter_sublist
 match hF : L.filter (isQ i), nd with
 | [], _ => simp
 | [_], _ => simp
 | S :: T :: M, nd =>
  exfalso
  have hS := List.mem_filter.1 (show S ∈ L.filter (isQ i) by rw [hF]; simp);have hT := List.mem_filter.1 (show T ∈ L.filter (isQ i) by rw [hF]; simp);have e := zJy hn hS.1 hT.1 ((zB9 S (hq S hS.1)).2.2.2.2.2.2 i hi hS.2) ((zB9 T (hq T hT.1)).2.2.2.2.2.2 i hi hT.2);rw [e] at nd;simp at nd
theorem two_facts {E : Es} {L : List Tri3} (g : Good E L) (t : Tiles 2 2 L) (hc : ∀ q, someC L q ↔ PutPt 2 [4] q) :
    (atE E ⟨1, 1⟩).length = 4 ∧ (starW E ⟨1, 1⟩).length = 4 ∧ (atE E ⟨1, 0⟩).length = 1 ∧ (srt cmpT (heads (fun T => alg T ⟨0, 0⟩ ⟨1, 1⟩) E)).length = 2 ∧ (srt cmpT (heads (fun T => alg T ⟨1, 1⟩ ⟨1, 1⟩) E)).length = 0 ∧ closedW E ⟨1, 1⟩ = true ∧ closedW E ⟨0, 0⟩ = false := by
 have hq := fun T (hT : T ∈ L) => quarts g t hc hT;have hm : someC L ⟨1, 1⟩ := (hc _).2 (.inr ⟨4, by simp, by decide⟩);have h0 : someC L ⟨0, 0⟩ := (hc _).2 (.inl (.inl rfl));have hl : L.length = 4 := by
  have a := t.area;rw [zJa L (fun T hT => (zB9 T (hq T hT)).1)] at a;omega
 have c4 := zHe L hq;have c0 := zEl t.once hq (i := 0) (by omega);have c1 := zEl t.once hq (i := 1) (by omega);have c2 := zEl t.once hq (i := 2) (by omega);have c3 := zEl t.once hq (i := 3) (by omega);have len : ∀ f : Tri3 → Bool, (srt cmpT (heads f E)).length = (L.filter f).length := fun f => by rw [(zAg _).length_eq, (zBj g f).length_eq]
 have hst : (starW E ⟨1, 1⟩).length = 4 := by
  unfold starW;rw [len, List.filter_eq_self.2 (fun T hT => (zB9 T (hq T hT)).2.1), hl]
 refine ⟨?_, hst, ?_, ?_, ?_, ?_, ?_⟩
 ·rw [at_star g t (by decide) (by decide) (by unfold inBox; decide) hm, hst]
 ·unfold atE;rw [len, List.filter_congr (fun T hT => (zB9 T (hq T hT)).2.2.1)];omega
 ·rw [len, List.filter_congr (fun T hT => (zB9 T (hq T hT)).2.2.2.1)];have s : ∀ M : List Tri3, (∀ T ∈ M, T ∈ quarters) → (M.filter fun T => isQ 0 T || isQ 3 T).length = (M.filter (isQ 0)).length + (M.filter (isQ 3)).length := fun M => by
   induction M with
   | nil => intro _; rfl
   | cons T M ih =>
    intro h;have k := ih (fun S hS => h S (by simp [hS]));have q := (zB9 T (h T (by simp))).2.2.2.2.2.1;simp only [List.filter_cons];cases h0 : isQ 0 T <;> cases h1 : isQ 1 T <;> cases h2 : isQ 2 T <;> cases h3 : isQ 3 T <;> simp [h0, h1, h2, h3] at q ⊢ <;> omega
  rw [s L hq];omega
 ·rw [len, List.filter_eq_nil_iff.2 (fun T hT => by rw [(zB9 T (hq T hT)).2.2.2.2.1]; decide)];rfl
 ·rw [zHh g t hm]; unfold atRim; decide
 ·rw [← Bool.not_eq_true, zHh g t h0]; unfold atRim; decide
theorem nthose (f : Value) (w : World) : Calls Tryz.prog 53 #[.pointer none, f] w fun e w' => e = .returned (.slice none 0 0) ∧ Below w.heap.size w w' := by
 go_enter Tryz.func53, Tryz.ntmps53
 go_wp2
 go_ret
 exact ⟨rfl, by go_grown⟩
theorem nstar (p : Pt) (w : World) : Calls Tryz.prog 16 #[.pointer none, .agg #[.int .i64 p.x, .int .i64 p.y]] w fun e w' => e = .returned (.slice none 0 0) ∧ Below w.heap.size w w' := by
 go_enter Tryz.func16, Tryz.ntmps16
 go_wp2_with fail;refine zA1 fun W1 hW => ?_;have hw : Below w.heap.size w W1 := by rw [hW]; go_grown
 clear hW;refine (nthose _ _).mono ?_;rintro e w2 ⟨rfl, hb⟩;have hw2 := (upB hw hb);go_wp2
 go_ret
 exact ⟨rfl, hw2⟩
theorem nclosed (p : Pt) (w : World) : Calls Tryz.prog 18 #[.pointer none, .agg #[.int .i64 p.x, .int .i64 p.y]] w fun e w' => e = .returned (.bool false) ∧ Below w.heap.size w w' := by
 go_enter Tryz.func18, Tryz.ntmps18
 go_wp2_with fail;refine zA1 fun W1 hW => ?_;have hw : Below w.heap.size w W1 := by rw [hW]; go_grown
 clear hW;refine (nstar p _).mono ?_;rintro e w2 ⟨rfl, hb⟩;have hw2 := (upB hw hb);clear hb hw;go_wp2_with fail;refine wp_loop_rounds 1 ?_;try rw [rounds_succ]
 go_wp2_with fail
 go_ret
 exact ⟨rfl, hw2⟩
theorem trCl (T : Tri3) (p q : Pt) (pb qb : Nat) (w : World) (Bp : Box w pb [.int .i64 p.x, .int .i64 p.y] 30) (Bq : Box w qb [.int .i64 q.x, .int .i64 q.y] 30) : Calls Tryz.prog 60 #[.agg #[.int .i64 T.A.x, .int .i64 T.A.y, .int .i64 T.B.x, .int .i64 T.B.y, .int .i64 T.C.x, .int .i64 T.C.y], .pointer (some ⟨pb, 0, none⟩), .pointer (some ⟨qb, 0, none⟩)] w fun e w' => e = .returned (.bool (alg T p q)) ∧ Below w.heap.size w w' := by
 have ch := alg_any T p q;generalize alg T p q = z at *
 have F_pq := J2 Bp.f Bq.f
 go_enter Tryz.func60, Tryz.ntmps60
 go_wp2_with fail;refine zA1 fun W1 hW => ?_;have hw : Below w.heap.size w W1 := by rw [hW]; go_grown
 clear hW;refine (ch _).mono ?_;rintro e w2 ⟨rfl, hb⟩;have hw2 := (upB hw hb);clear hb hw ch F_pq;go_wp2
 go_ret
 exact ⟨rfl, hw2⟩
theorem trEnter : ∀ args w, (callFunc 60 args).run Tryz.prog w = .ok (.enter 60 args) w := enters_of Tryz.func60 (by kernel_rfl) rfl
theorem zEm (mb b : Nat) (E : Es) (p q : Pt) (hE : E.length ≤ 1000000) (w : World) (Bm : Box w mb [.map (some b)] 89) (Hm : HoldsMap eW eT okW w b E) :
    Calls Tryz.prog 22 #[.pointer (some ⟨mb, 0, none⟩), .agg #[.int .i64 p.x, .int .i64 p.y], .agg #[.int .i64 q.x, .int .i64 q.y]] w fun e w' => ∃ a cap, e = .returned (.slice a (srt cmpT (heads (fun T => alg T p q) E)).length cap) ∧ RowAt cT 6 w' a (srt cmpT (heads (fun T => alg T p q) E)) ∧ Below w.heap.size w w' := by
 obtain ⟨f, ef⟩ : ∃ f : Tri3 → Bool, f = (fun T => alg T p q) := ⟨_, rfl⟩;rw [← ef];have cc : ∀ (T : Tri3) (pb qb : Nat) (W : World), Box W pb [.int .i64 p.x, .int .i64 p.y] 30 → Box W qb [.int .i64 q.x, .int .i64 q.y] 30 → Calls Tryz.prog 60 #[.agg #[.int .i64 T.A.x, .int .i64 T.A.y, .int .i64 T.B.x, .int .i64 T.B.y, .int .i64 T.C.x, .int .i64 T.C.y], .pointer (some ⟨pb, 0, none⟩), .pointer (some ⟨qb, 0, none⟩)] W fun e w' => e = .returned (.bool (f T)) ∧ Below W.heap.size W w' := fun T pb qb W B B2 => by rw [ef]; exact trCl T p q pb qb W B B2
 clear ef
 go_enter Tryz.func22, Tryz.ntmps22
 go_wp2_with fail;refine zA1 fun W1 hW => ?_;have Bp : Box W1 w.heap.size [.int .i64 p.x, .int .i64 p.y] 30 := by rw [hW]; exact (Box.new rfl).old _
 have Bq : Box W1 (w.heap.size + 1) [.int .i64 q.x, .int .i64 q.y] 30 := by rw [hW]; exact Box.new (by simp)
 have hw : Below w.heap.size w W1 := by rw [hW]; go_grown
 clear hW;refine (zFy mb b E 60 #[.pointer (some ⟨w.heap.size, 0, none⟩), .pointer (some ⟨w.heap.size + 1, 0, none⟩)] f hE W1 (Bm.ee hw) (Hm.ee hw) trEnter (fun T W hW => cc T _ _ W (Bp.ee hW) (Bq.ee hW))).mono ?_;rintro e w2 ⟨a, cap, rfl, hr, hb⟩;have hw2 := (upB hw hb);go_wp2
 go_ret
 exact ⟨a, cap, rfl, hr, hw2⟩
theorem row_one {w : World} {b : Nat} {x : Int} {T : TypeId} (h : Box w b [.int .i64 x] T) : RowAt cI 1 w (some ⟨b, 0, none⟩) [x] := fun j y hy => by
 match j, hy with
 | 0, hy =>
  simp only [List.getElem?_cons_zero, Option.some.injEq] at hy;subst hy;refine ⟨_, rfl, h.lt, fun i u hu => ?_⟩;have := h.f.1 i;rw [Addr.add_lit, Addr.add_lit]
  simpa [cI] using this.trans hu
 | j + 1, hy => simp at hy
theorem zHj (w : World) : Calls Tryz.prog 12 #[] w fun e w' => e = .returned (.bool true) ∧ Below w.heap.size w w' := by
 go_enter Tryz.func12, Tryz.ntmps12
 go_wp2_with fail;refine zA1 fun W1 hW => ?_;have BI : Box W1 w.heap.size [.int .i64 4] 3 := by rw [hW]; exact Box.new rfl
 have hw1 : Below w.heap.size w W1 := by rw [hW]; go_grown
 clear hW;refine (built6_any 2 (by decide) (by decide) _ 1 1 0 [4] (Lib.hid rfl) (by decide) _ (row_one BI)).mono ?_;rintro e w2 ⟨m2, b2, cb, mb, b, db, v, E, E0, L, D, rfl, B2, H2, G2, S, hI, hC, hl, _, hb, _, _, _, _, _, _⟩;have hb0 := (upB hw1 hb);have F := two_facts G2 hI.fix.tiles hC;have hE : E.length ≤ 1000000 := by rw [G2.len]; have : L.length ≤ 2 + 2 * 1 := hl; omega
 have hok : ∀ p T, T ∈ starW E p → okT T := fun p T h => zBk (G2.val T ((zC6 G2).1 h).1);obtain ⟨F1, F2, F3, F4, F5, F6, F7⟩ := F;have c1 := fun W B H => zJ7 m2 b2 E ⟨1, 1⟩ hE W B H;have c2 := fun W B H => zFx m2 b2 E ⟨1, 1⟩ hE W B H;have c3 := fun W B H => zF3 m2 b2 E ⟨1, 1⟩ hE (hok _) W B H;have c4 := fun W B H => zF3 m2 b2 E ⟨0, 0⟩ hE (hok _) W B H;have c5 := fun W B H => zJ7 m2 b2 E ⟨1, 0⟩ hE W B H;have c6 := fun W B H => zEm m2 b2 E ⟨0, 0⟩ ⟨1, 1⟩ hE W B H;have c7 := fun W B H => zEm m2 b2 E ⟨1, 1⟩ ⟨1, 1⟩ hE W B H;unfold atE at F1 F3;unfold starW at F2;rw [F1] at c1;rw [F2] at c2;rw [F6] at c3;rw [F7] at c4;rw [F3] at c5;rw [F4] at c6;rw [F5] at c7;have c8 := nstar ⟨1, 1⟩;have c9 := nclosed ⟨1, 1⟩;clear F1 F2 F3 F4 F5 F6 F7 hok hE hl hI hC S G2 BI hw1 hb;have hw : Below w2.heap.size w2 w2 := Below.refl _ _;go_wp2_with fail;refine zA1 fun W11 hW => ?_;obtain ⟨bkp, hbp⟩ : ∃ b, w2.heap.size = b := ⟨_, rfl⟩;rw [hbp];obtain ⟨fp, Bp, hw⟩ := M0 hW hbp hw;clear hW hbp;refine (c1 _ (B2.ee hw) (H2.ee hw)).mono ?_;rintro e w12 ⟨a, cap, rfl, _, hb⟩;obtain ⟨Bp, hw, Fp⟩ := X1 Bp hw hb;clear hb;go_wp2_with fail;refine (c2 _ (B2.ee hw) (H2.ee hw)).mono ?_;rintro e w13 ⟨a, cap, rfl, _, hb⟩;clear Fp;obtain ⟨Bp, hw, Fp⟩ := X1 Bp hw hb;clear hb;go_wp2_with fail;refine (c3 _ (B2.ee hw) (H2.ee hw)).mono ?_;rintro e w14 ⟨rfl, hb⟩;clear Fp;obtain ⟨Bp, hw, Fp⟩ := X1 Bp hw hb;clear hb;go_wp2_with fail;refine (c4 _ (B2.ee hw) (H2.ee hw)).mono ?_;rintro e w15 ⟨rfl, hb⟩;clear Fp;obtain ⟨Bp, hw, Fp⟩ := X1 Bp hw hb;clear hb;go_wp2_with fail;refine (c5 _ (B2.ee hw) (H2.ee hw)).mono ?_;rintro e w16 ⟨a, cap, rfl, _, hb⟩;clear Fp;obtain ⟨Bp, hw, Fp⟩ := X1 Bp hw hb;clear hb;go_wp2_with fail;refine (c6 _ (B2.ee hw) (H2.ee hw)).mono ?_;rintro e w17 ⟨a, cap, rfl, _, hb⟩;clear Fp;obtain ⟨Bp, hw, Fp⟩ := X1 Bp hw hb;clear hb;go_wp2_with fail;refine (c7 _ (B2.ee hw) (H2.ee hw)).mono ?_;rintro e w18 ⟨a, cap, rfl, _, hb⟩;clear Fp;obtain ⟨Bp, hw, Fp⟩ := X1 Bp hw hb;clear hb;go_wp2_with fail;refine (c8 _).mono ?_;rintro e w19 ⟨rfl, hb⟩;clear Fp;obtain ⟨Bp, hw, Fp⟩ := X1 Bp hw hb;clear hb;go_wp2_with fail;refine (c9 _).mono ?_;rintro e w20 ⟨rfl, hb⟩;clear Fp;obtain ⟨Bp, hw, Fp⟩ := X1 Bp hw hb;clear hb;go_wp2_with fail
 go_ret
 exact ⟨rfl, (upB hb0 hw)⟩
theorem zK1 (s : Int) (a0 a1 : Option Addr) (n m c0 c1 : Nat) (w : World) : Calls Tryz.prog 11 #[.int .i64 s, .slice a0 n c0, .slice a1 m c1] w fun e w' => e = .returned (.bool (decide (1 ≤ s) && (decide (s ≤ 40) && (decide (n ≤ 25) && decide (m ≤ 12))))) ∧ Below w.heap.size w w' := by
 have e1 : decide (1 ≤ s) = decide ((1 : Int) ≤ s) := rfl;have e3 : decide (n ≤ 25) = decide ((n : Int) ≤ 25) := by simp; omega
 have e4 : decide (m ≤ 12) = decide ((m : Int) ≤ 12) := by simp; omega
 rw [e3, e4];clear e1 e3 e4;cases h1 : decide ((1 : Int) ≤ s) <;> cases h2 : decide (s ≤ 40) <;> cases h3 : decide ((n : Int) ≤ 25) <;> cases h4 : decide ((m : Int) ≤ 12)
 all_goals
  go_enter Tryz.func11, Tryz.ntmps11
  go_wp2
  go_ret
  exact ⟨rfl, by go_grown⟩
theorem zFq {T : Tri3} (h : valT T = true) (i : Int) : vld (crn T i) = true := by
 obtain ⟨x, y, z⟩ := zJ8 h;unfold crn;split
 ·exact x
 ·split
  ·exact y
  ·exact z
theorem zI0 {a b c : Pt} (ha : vld a = true) (hb : vld b = true) (hc : vld c = true) : -1125899906842624 ≤ det a b c ∧ det a b c ≤ 1125899906842624 := by
 have s1 := zDj ha hb;have s2 := zDj ha hc;have h1 := zBb s1.1 s2.2;have h2 := zBb s1.2 s2.1;simp only [way] at h1 h2;unfold det;omega
structure Clp where
 (ln ld hn hd : Int)
def stp (f g : Int) (s : Clp) : Clp :=
 ⟨if f < 0 ∧ 0 < -f * s.ld - s.ln * (g - f) then -f else s.ln, if f < 0 ∧ 0 < -f * s.ld - s.ln * (g - f) then g - f else s.ld,
  if g < 0 ∧ f * s.hd - s.hn * (f - g) < 0 then f else s.hn, if g < 0 ∧ f * s.hd - s.hn * (f - g) < 0 then f - g else s.hd⟩
def edF (T : Tri3) (p : Pt) (n : Nat) : Int := det (crn T n) (crn T (n + 1)) p
def clp (T : Tri3) (a b : Pt) : Nat → Clp
 | 0 => ⟨0, 1, 1, 1⟩
 | n + 1 => stp (edF T a n) (edF T b n) (clp T a b n)
def sml (n : Int) : Prop := -2251799813685248 ≤ n ∧ n ≤ 2251799813685248
theorem zL3 {T : Tri3} {a b : Pt} (h : valT T = true) (ha : vld a = true) (hb : vld b = true) : ∀ n, sml (clp T a b n).ln ∧ sml (clp T a b n).ld ∧ sml (clp T a b n).hn ∧ sml (clp T a b n).hd
 | 0 => by simp [clp, sml]
 | n + 1 => by
  have ih := zL3 h ha hb n;have d1 := zI0 (zFq h n) (zFq h (n + 1)) ha;have d2 := zI0 (zFq h n) (zFq h (n + 1)) hb;unfold clp edF stp;generalize clp T a b n = s at *
  generalize det (crn T n) (crn T (n + 1)) a = f at *
  generalize det (crn T n) (crn T (n + 1)) b = g at *
  unfold sml at *;refine ⟨?_, ?_, ?_, ?_⟩ <;> simp only <;> split <;> omega
def bth (T : Tri3) (a b : Pt) (n : Nat) : Bool := decide (edF T a n < 0) && decide (edF T b n < 0)
def lst (s : Clp) : Bool := decide (sgn (s.ln * s.hd - s.hn * s.ld) < 0)
def sal (T : Tri3) (a b : Pt) : Bool := !bth T a b 0 && (!bth T a b 1 && (!bth T a b 2 && lst (clp T a b 3)))
theorem zJ5 {n : Int} (h : -9223372036854775808 ≤ n ∧ n ≤ 9223372036854775807) : wrap64 n = n ∧ IntKind.i64.wrap n = n := by
 rw [IntKind.wrap_i64, w64]; omega
theorem zFc {x y : Int} (hx : -9223372036854775808 ≤ x ∧ x ≤ 9223372036854775807) (hy : -9223372036854775808 ≤ y ∧ y ≤ 9223372036854775807) : fits (x * y) = true := zJz x y hx.1 hx.2 hy.1 hy.2
theorem rcmpm {n m : Int} (hn : fits n = true) (hm : fits m = true) (w : World) :
    Calls Tryz.prog 106 #[.agg #[.int .i64 (cH n), .int .u64 (cL n)], .agg #[.int .i64 (cH m), .int .u64 (cL m)]] w fun e w' => e = .returned (.int .i64 (sgn (n - m))) ∧ Below w.heap.size w w' := by
 have h := r_cmp (cH n) (cL n) (cH m) (cL m) (ok_c n) (ok_c m) w;rw [V_c hn, V_c hm] at h;exact h
theorem ral_0 (T : Tri3) (a b : Pt) (h0 : valT T = false) (w : World) :
    Calls Tryz.prog 63 #[.agg #[.int .i64 T.A.x, .int .i64 T.A.y, .int .i64 T.B.x, .int .i64 T.B.y, .int .i64 T.C.x, .int .i64 T.C.y], .agg #[.int .i64 a.x, .int .i64 a.y], .agg #[.int .i64 b.x, .int .i64 b.y]] w fun e w' => e = .returned (.bool false) ∧ Below w.heap.size w w' := by
 have c0 := zBh T;have c1 := zA2 a;have c2 := zA2 b;rw [h0] at c0;clear h0
 go_enter Tryz.func63, Tryz.ntmps63
 go_wp2_with fail;refine zA1 fun W1 hW => ?_;obtain ⟨Bt, Ba, Bb, hw⟩ := N3 hW;clear hW;refine (c0 _).mono ?_;rintro e w2 ⟨rfl, hb⟩;obtain ⟨Bt, Ba, Bb, hw, F_tab⟩ := X3 Bt Ba Bb hw hb;clear hb;go_wp2
 go_ret
 exact ⟨rfl, by have hl := hw.size; go_grown⟩
theorem ral_1 (T : Tri3) (a b : Pt) (h0 : valT T = true) (h1 : vld a = false) (w : World) :
    Calls Tryz.prog 63 #[.agg #[.int .i64 T.A.x, .int .i64 T.A.y, .int .i64 T.B.x, .int .i64 T.B.y, .int .i64 T.C.x, .int .i64 T.C.y], .agg #[.int .i64 a.x, .int .i64 a.y], .agg #[.int .i64 b.x, .int .i64 b.y]] w fun e w' => e = .returned (.bool false) ∧ Below w.heap.size w w' := by
 have c0 := zBh T;have c1 := zA2 a;have c2 := zA2 b;rw [h0] at c0;rw [h1] at c1;clear h0 h1
 go_enter Tryz.func63, Tryz.ntmps63
 go_wp2_with fail;refine zA1 fun W1 hW => ?_;obtain ⟨Bt, Ba, Bb, hw⟩ := N3 hW;clear hW;refine (c0 _).mono ?_;rintro e w2 ⟨rfl, hb⟩;obtain ⟨Bt, Ba, Bb, hw, F_tab⟩ := X3 Bt Ba Bb hw hb;clear hb;go_wp2_with fail;refine (c1 _).mono ?_;rintro e w3 ⟨rfl, hb⟩;clear F_tab;obtain ⟨Bt, Ba, Bb, hw, F_tab⟩ := X3 Bt Ba Bb hw hb;clear hb;go_wp2
 go_ret
 exact ⟨rfl, by have hl := hw.size; go_grown⟩
theorem ral_2 (T : Tri3) (a b : Pt) (h0 : valT T = true) (h1 : vld a = true) (h2 : vld b = false) (w : World) :
    Calls Tryz.prog 63 #[.agg #[.int .i64 T.A.x, .int .i64 T.A.y, .int .i64 T.B.x, .int .i64 T.B.y, .int .i64 T.C.x, .int .i64 T.C.y], .agg #[.int .i64 a.x, .int .i64 a.y], .agg #[.int .i64 b.x, .int .i64 b.y]] w fun e w' => e = .returned (.bool false) ∧ Below w.heap.size w w' := by
 have c0 := zBh T;have c1 := zA2 a;have c2 := zA2 b;rw [h0] at c0;rw [h1] at c1;rw [h2] at c2;clear h0 h1 h2
 go_enter Tryz.func63, Tryz.ntmps63
 go_wp2_with fail;refine zA1 fun W1 hW => ?_;obtain ⟨Bt, Ba, Bb, hw⟩ := N3 hW;clear hW;refine (c0 _).mono ?_;rintro e w2 ⟨rfl, hb⟩;obtain ⟨Bt, Ba, Bb, hw, F_tab⟩ := X3 Bt Ba Bb hw hb;clear hb;go_wp2_with fail;refine (c1 _).mono ?_;rintro e w3 ⟨rfl, hb⟩;clear F_tab;obtain ⟨Bt, Ba, Bb, hw, F_tab⟩ := X3 Bt Ba Bb hw hb;clear hb;go_wp2_with fail;refine (c2 _).mono ?_;rintro e w4 ⟨rfl, hb⟩;clear F_tab;obtain ⟨Bt, Ba, Bb, hw, F_tab⟩ := X3 Bt Ba Bb hw hb;clear hb;go_wp2
 go_ret
 exact ⟨rfl, by have hl := hw.size; go_grown⟩
theorem ral_3 (T : Tri3) (a b : Pt) (h0 : valT T = true) (h1 : vld a = true) (h2 : vld b = true) (h3 : peqI a.x a.y b.x b.y = true) (w : World) :
    Calls Tryz.prog 63 #[.agg #[.int .i64 T.A.x, .int .i64 T.A.y, .int .i64 T.B.x, .int .i64 T.B.y, .int .i64 T.C.x, .int .i64 T.C.y], .agg #[.int .i64 a.x, .int .i64 a.y], .agg #[.int .i64 b.x, .int .i64 b.y]] w fun e w' => e = .returned (.bool false) ∧ Below w.heap.size w w' := by
 have c0 := zBh T;have c1 := zA2 a;have c2 := zA2 b;rw [h0] at c0;rw [h1] at c1;rw [h2] at c2;clear h0 h1 h2
 go_enter Tryz.func63, Tryz.ntmps63
 go_wp2_with fail;refine zA1 fun W1 hW => ?_;obtain ⟨Bt, Ba, Bb, hw⟩ := N3 hW;clear hW;refine (c0 _).mono ?_;rintro e w2 ⟨rfl, hb⟩;obtain ⟨Bt, Ba, Bb, hw, F_tab⟩ := X3 Bt Ba Bb hw hb;clear hb;go_wp2_with fail;refine (c1 _).mono ?_;rintro e w3 ⟨rfl, hb⟩;clear F_tab;obtain ⟨Bt, Ba, Bb, hw, F_tab⟩ := X3 Bt Ba Bb hw hb;clear hb;go_wp2_with fail;refine (c2 _).mono ?_;rintro e w4 ⟨rfl, hb⟩;clear F_tab;obtain ⟨Bt, Ba, Bb, hw, F_tab⟩ := X3 Bt Ba Bb hw hb;clear hb;go_wp2
 go_ret
 exact ⟨rfl, by have hl := hw.size; go_grown⟩
theorem ral_4 (T : Tri3) (a b : Pt) (hv : valT T = true) (ha : vld a = true) (hb : vld b = true) (h3 : peqI a.x a.y b.x b.y = false) (w : World) :
    Calls Tryz.prog 63 #[.agg #[.int .i64 T.A.x, .int .i64 T.A.y, .int .i64 T.B.x, .int .i64 T.B.y, .int .i64 T.C.x, .int .i64 T.C.y], .agg #[.int .i64 a.x, .int .i64 a.y], .agg #[.int .i64 b.x, .int .i64 b.y]] w fun e w' => e = .returned (.bool (sal T a b)) ∧ Below w.heap.size w w' := by
 have c0 := zBh T;have c1 := zA2 a;have c2 := zA2 b;rw [hv] at c0;rw [ha] at c1;rw [hb] at c2
 go_enter Tryz.func63, Tryz.ntmps63
 go_wp2_with fail;refine zA1 fun W1 hW => ?_;obtain ⟨Bt, Ba, Bb, hw⟩ := N3 hW;clear hW;refine (c0 _).mono ?_;rintro e w2 ⟨rfl, hb⟩;obtain ⟨Bt, Ba, Bb, hw, F_tab⟩ := X3 Bt Ba Bb hw hb;clear hb;go_wp2_with fail;refine (c1 _).mono ?_;rintro e w3 ⟨rfl, hb⟩;clear F_tab;obtain ⟨Bt, Ba, Bb, hw, F_tab⟩ := X3 Bt Ba Bb hw hb;clear hb;go_wp2_with fail;refine (c2 _).mono ?_;rintro e w4 ⟨rfl, hb⟩;clear F_tab;obtain ⟨Bt, Ba, Bb, hw, F_tab⟩ := X3 Bt Ba Bb hw hb;clear hb;go_wp2_with fail;refine zA3 fun W5 hW => ?_;replace hw : Below w.heap.size w W5 := by rw [hW]; exact hw
 replace Bt : Box W5 (w.heap.size) [.int .i64 T.A.x, .int .i64 T.A.y, .int .i64 T.B.x, .int .i64 T.B.y, .int .i64 T.C.x, .int .i64 T.C.y] 38 := by rw [hW]; exact Bt
 replace Ba : Box W5 (w.heap.size + 1) [.int .i64 a.x, .int .i64 a.y] 30 := by rw [hW]; exact Ba
 replace Bb : Box W5 (w.heap.size + 1 + 1) [.int .i64 b.x, .int .i64 b.y] 30 := by rw [hW]; exact Bb
 clear hW c0 c1 c2 h3;clear F_tab
 go_loopw [7, 8, 9, 10, 11] (fun x y z v i wr => ∃ n : Nat, n ≤ 3 ∧ x = .int .i64 (clp T a b n).ln ∧ y = .int .i64 (clp T a b n).ld ∧ z = .int .i64 (clp T a b n).hn ∧ v = .int .i64 (clp T a b n).hd ∧ i = .int .i64 n ∧ (∀ j, j < n → bth T a b j = false) ∧ Below w.heap.size w wr ∧ Box wr (w.heap.size) [.int .i64 T.A.x, .int .i64 T.A.y, .int .i64 T.B.x, .int .i64 T.B.y, .int .i64 T.C.x, .int .i64 T.C.y] 38 ∧ Box wr (w.heap.size + 1) [.int .i64 a.x, .int .i64 a.y] 30 ∧ Box wr (w.heap.size + 1 + 1) [.int .i64 b.x, .int .i64 b.y] 30) (fun _ _ _ _ i _ => 3 - (intOf i).toNat)
 case atStart => exact ⟨0, by omega, rfl, rfl, rfl, rfl, rfl, fun j h => absurd h (by omega), hw, Bt, Ba, Bb⟩
 case round =>
  obtain ⟨n, n3, rfl, rfl, rfl, rfl, rfl, hno, hw', Ct, Ca, Cb⟩ := hrel;clear hw Bt Ba Bb;have hw := hw';clear hw';have Bt := Ct;clear Ct;have Ba := Ca;clear Ca;have Bb := Cb;clear Cb;by_cases hn : n < 3
  ·have hd : decide ((n : Int) < 3) = true := by simp; omega
   have c1 := zB0 T n;have c2 := zB0 T (n + 1);have vX := zFq hv n;have vY := zFq hv (n + 1);have f1 := zCb (crn T n) (crn T (n + 1)) a vX vY ha;have g1 := zCb (crn T n) (crn T (n + 1)) b vX vY hb;have df := zI0 vX vY ha;have dg := zI0 vX vY hb;obtain ⟨b1, b2, b3, b4⟩ := zL3 hv ha hb n;have eS : clp T a b (n + 1) = stp (det (crn T n) (crn T (n + 1)) a) (det (crn T n) (crn T (n + 1)) b) (clp T a b n) := rfl;have eB : bth T a b n = (decide (det (crn T n) (crn T (n + 1)) a < 0) && decide (det (crn T n) (crn T (n + 1)) b < 0)) := rfl;have hno2 : bth T a b n = false → ∀ j, j < n + 1 → bth T a b j = false := by
    intro hq j hj;by_cases e : j = n
    ·rw [e]; exact hq
    ·exact hno j (by omega)
   have hs : bth T a b n = true → sal T a b = false := by
    intro hq;unfold sal;have hn : n = 0 ∨ n = 1 ∨ n = 2 := by omega
    rcases hn with rfl | rfl | rfl <;> rw [hq] <;> simp
   obtain ⟨wI, wI2⟩ := zJ5 (n := (n : Int) + 1) (by omega);generalize det (crn T n) (crn T (n + 1)) a = f at *
   generalize det (crn T n) (crn T (n + 1)) b = g at *
   generalize crn T (n + 1) = Y at *
   generalize crn T n = X at *
   obtain ⟨S, hS⟩ : ∃ S, S = clp T a b n := ⟨_, rfl⟩;rw [← hS] at b1 b2 b3 b4 eS;unfold sml at b1 b2 b3 b4;rw [← hS];clear hS hno vX vY ha hb hv;cases hf : decide (f < 0)
   ·cases hg : decide (g < 0)
    ·have hno2 := hno2 (by rw [eB, hf, hg]; rfl);have eS : clp T a b (n + 1) = ⟨S.ln, S.ld, S.hn, S.hd⟩ := by
      rw [eS]; unfold stp;have hf := of_decide_eq_false hf;have hg := of_decide_eq_false hg;rw [if_neg (fun h => hf h.1), if_neg (fun h => hf h.1), if_neg (fun h => hg h.1), if_neg (fun h => hg h.1)]
     have ES := Lib.hid eS;clear hs eB eS b1 b2 b3 b4 df dg
     as_aux_lemma =>
      go_wp2_with fail;have g_tab := J3 Bt.cells Ba.cells Bb.cells;refine wrt 18 (by kernel_rfl) (by kernel_rfl) ?_;simp only [tK1, tK0, dP1, dP0];repeat (first | (refine zA0 (Eq.refl false) ?_; simp only [Act.put, sT2, sT1, sT0]) | (refine rWalk_step (fun K hK => ?_); go_simp; first | (refine hK _ ?_; clear hK K) | (apply Exists.intro; refine ⟨fun _ => ?_, hK _ ?_⟩; (first | with_reducible exact toExt c1 _ | with_reducible exact toExt c2 _ | with_reducible exact toExt f1 _ | with_reducible exact toExt g1 _); clear hK K)))
      refine rWalk_nil ?_;intro w6 hb;clear g_tab;obtain ⟨Bt, Ba, Bb, hw, -⟩ := X3 Bt Ba Bb hw hb;clear c1 c2 f1 g1;go_wp2_with fail
      go_roundw
      case rel => exact ⟨n + 1, by omega, by rw [ES.out], by rw [ES.out], by rw [ES.out], by rw [ES.out], rfl, hno2, hw, Bt, Ba, Bb⟩
      case measure => simp [intOf]; omega
    ·have hno2 := hno2 (by rw [eB, hf, hg]; rfl);obtain ⟨wA, wA2⟩ := zJ5 (n := f) (by omega);obtain ⟨wB, wB2⟩ := zJ5 (n := f - g) (by omega);have m1 := r_mul (f) (S.hd) (by omega) (by omega) (by omega) (by omega);have m2 := r_mul (S.hn) (f - g) (by omega) (by omega) (by omega) (by omega);have cc := rcmpm (zFc (x := f) (y := S.hd) (by omega) (by omega)) (zFc (x := S.hn) (y := f - g) (by omega) (by omega));cases hq : decide (sgn (f * S.hd - S.hn * (f - g)) < 0)
     ·have eS : clp T a b (n + 1) = ⟨S.ln, S.ld, S.hn, S.hd⟩ := by
        rw [eS]; unfold stp;have hq2 : ¬ (f * S.hd - S.hn * (f - g) < 0) := by
         have := of_decide_eq_false hq;unfold sgn at this
         (repeat' split at this) <;> omega
        rw [if_neg (fun h => (of_decide_eq_false hf) h.1), if_neg (fun h => (of_decide_eq_false hf) h.1), if_neg (fun h => hq2 h.2), if_neg (fun h => hq2 h.2)]
      have ES := Lib.hid eS;generalize sgn (f * S.hd - S.hn * (f - g)) = o at *
      generalize f * S.hd = p at *
      generalize S.hn * (f - g) = q at *
      clear hs eB eS b1 b2 b3 b4 df dg
      as_aux_lemma =>
       go_wp2_with fail;have g_tab := J3 Bt.cells Ba.cells Bb.cells;refine wrt 18 (by kernel_rfl) (by kernel_rfl) ?_;simp only [tK1, tK0, dP1, dP0];repeat (first | (refine zA0 (Eq.refl false) ?_; simp only [Act.put, sT2, sT1, sT0]) | (refine rWalk_step (fun K hK => ?_); go_simp; first | (refine hK _ ?_; clear hK K) | (apply Exists.intro; refine ⟨fun _ => ?_, hK _ ?_⟩; (first | with_reducible exact toExt c1 _ | with_reducible exact toExt c2 _ | with_reducible exact toExt f1 _ | with_reducible exact toExt g1 _); clear hK K)))
       refine rWalk_nil ?_;intro w6 hb;clear g_tab;obtain ⟨Bt, Ba, Bb, hw, -⟩ := X3 Bt Ba Bb hw hb;clear c1 c2 f1 g1;go_wp2_with fail;refine (m1 _).mono ?_;rintro e w7 ⟨rfl, hb⟩;obtain ⟨Bt, Ba, Bb, hw, -⟩ := X3 Bt Ba Bb hw hb;clear hb;go_wp2_with fail;refine (m2 _).mono ?_;rintro e w8 ⟨rfl, hb⟩;obtain ⟨Bt, Ba, Bb, hw, -⟩ := X3 Bt Ba Bb hw hb;clear hb;go_wp2_with fail;refine (cc _).mono ?_;rintro e w9 ⟨rfl, hb⟩;obtain ⟨Bt, Ba, Bb, hw, -⟩ := X3 Bt Ba Bb hw hb;clear hb;go_wp2_with fail
       go_roundw
       case rel => exact ⟨n + 1, by omega, by rw [ES.out], by rw [ES.out], by rw [ES.out], by rw [ES.out], rfl, hno2, hw, Bt, Ba, Bb⟩
       case measure => simp [intOf]; omega
     ·have eS : clp T a b (n + 1) = ⟨S.ln, S.ld, f, f - g⟩ := by
        rw [eS]; unfold stp;have hq2 : f * S.hd - S.hn * (f - g) < 0 := by
         have := of_decide_eq_true hq;unfold sgn at this
         (repeat' split at this) <;> omega
        rw [if_neg (fun h => (of_decide_eq_false hf) h.1), if_neg (fun h => (of_decide_eq_false hf) h.1), if_pos ⟨of_decide_eq_true hg, hq2⟩, if_pos ⟨of_decide_eq_true hg, hq2⟩]
      have ES := Lib.hid eS;generalize sgn (f * S.hd - S.hn * (f - g)) = o at *
      generalize f * S.hd = p at *
      generalize S.hn * (f - g) = q at *
      clear hs eB eS b1 b2 b3 b4 df dg
      as_aux_lemma =>
       go_wp2_with fail;have g_tab := J3 Bt.cells Ba.cells Bb.cells;refine wrt 18 (by kernel_rfl) (by kernel_rfl) ?_;simp only [tK1, tK0, dP1, dP0];repeat (first | (refine zA0 (Eq.refl false) ?_; simp only [Act.put, sT2, sT1, sT0]) | (refine rWalk_step (fun K hK => ?_); go_simp; first | (refine hK _ ?_; clear hK K) | (apply Exists.intro; refine ⟨fun _ => ?_, hK _ ?_⟩; (first | with_reducible exact toExt c1 _ | with_reducible exact toExt c2 _ | with_reducible exact toExt f1 _ | with_reducible exact toExt g1 _); clear hK K)))
       refine rWalk_nil ?_;intro w6 hb;clear g_tab;obtain ⟨Bt, Ba, Bb, hw, -⟩ := X3 Bt Ba Bb hw hb;clear c1 c2 f1 g1;go_wp2_with fail;refine (m1 _).mono ?_;rintro e w7 ⟨rfl, hb⟩;obtain ⟨Bt, Ba, Bb, hw, -⟩ := X3 Bt Ba Bb hw hb;clear hb;go_wp2_with fail;refine (m2 _).mono ?_;rintro e w8 ⟨rfl, hb⟩;obtain ⟨Bt, Ba, Bb, hw, -⟩ := X3 Bt Ba Bb hw hb;clear hb;go_wp2_with fail;refine (cc _).mono ?_;rintro e w9 ⟨rfl, hb⟩;obtain ⟨Bt, Ba, Bb, hw, -⟩ := X3 Bt Ba Bb hw hb;clear hb;go_wp2_with fail
       go_roundw
       case rel => exact ⟨n + 1, by omega, by rw [ES.out], by rw [ES.out], by rw [ES.out], by rw [ES.out], rfl, hno2, hw, Bt, Ba, Bb⟩
       case measure => simp [intOf]; omega
   ·cases hg : decide (g < 0)
    ·have hno2 := hno2 (by rw [eB, hf, hg]; rfl);obtain ⟨wA, wA2⟩ := zJ5 (n := -f) (by omega);obtain ⟨wB, wB2⟩ := zJ5 (n := g - f) (by omega);have m1 := r_mul (-f) (S.ld) (by omega) (by omega) (by omega) (by omega);have m2 := r_mul (S.ln) (g - f) (by omega) (by omega) (by omega) (by omega);have cc := rcmpm (zFc (x := -f) (y := S.ld) (by omega) (by omega)) (zFc (x := S.ln) (y := g - f) (by omega) (by omega));cases hq : decide (sgn (-f * S.ld - S.ln * (g - f)) > 0)
     ·have eS : clp T a b (n + 1) = ⟨S.ln, S.ld, S.hn, S.hd⟩ := by
        rw [eS]; unfold stp;have hq2 : ¬ (0 < -f * S.ld - S.ln * (g - f)) := by
         have := of_decide_eq_false hq;unfold sgn at this
         (repeat' split at this) <;> omega
        rw [if_neg (fun h => hq2 h.2), if_neg (fun h => hq2 h.2), if_neg (fun h => (of_decide_eq_false hg) h.1), if_neg (fun h => (of_decide_eq_false hg) h.1)]
      have ES := Lib.hid eS;generalize sgn (-f * S.ld - S.ln * (g - f)) = o at *
      generalize -f * S.ld = p at *
      generalize S.ln * (g - f) = q at *
      clear hs eB eS b1 b2 b3 b4 df dg
      as_aux_lemma =>
       go_wp2_with fail;have g_tab := J3 Bt.cells Ba.cells Bb.cells;refine wrt 18 (by kernel_rfl) (by kernel_rfl) ?_;simp only [tK1, tK0, dP1, dP0];repeat (first | (refine zA0 (Eq.refl false) ?_; simp only [Act.put, sT2, sT1, sT0]) | (refine rWalk_step (fun K hK => ?_); go_simp; first | (refine hK _ ?_; clear hK K) | (apply Exists.intro; refine ⟨fun _ => ?_, hK _ ?_⟩; (first | with_reducible exact toExt c1 _ | with_reducible exact toExt c2 _ | with_reducible exact toExt f1 _ | with_reducible exact toExt g1 _); clear hK K)))
       refine rWalk_nil ?_;intro w6 hb;clear g_tab;obtain ⟨Bt, Ba, Bb, hw, -⟩ := X3 Bt Ba Bb hw hb;clear c1 c2 f1 g1;go_wp2_with fail;refine (m1 _).mono ?_;rintro e w7 ⟨rfl, hb⟩;obtain ⟨Bt, Ba, Bb, hw, -⟩ := X3 Bt Ba Bb hw hb;clear hb;go_wp2_with fail;refine (m2 _).mono ?_;rintro e w8 ⟨rfl, hb⟩;obtain ⟨Bt, Ba, Bb, hw, -⟩ := X3 Bt Ba Bb hw hb;clear hb;go_wp2_with fail;refine (cc _).mono ?_;rintro e w9 ⟨rfl, hb⟩;obtain ⟨Bt, Ba, Bb, hw, -⟩ := X3 Bt Ba Bb hw hb;clear hb;go_wp2_with fail
       go_roundw
       case rel => exact ⟨n + 1, by omega, by rw [ES.out], by rw [ES.out], by rw [ES.out], by rw [ES.out], rfl, hno2, hw, Bt, Ba, Bb⟩
       case measure => simp [intOf]; omega
     ·have eS : clp T a b (n + 1) = ⟨-f, g - f, S.hn, S.hd⟩ := by
        rw [eS]; unfold stp;have hq2 : 0 < -f * S.ld - S.ln * (g - f) := by
         have := of_decide_eq_true hq;unfold sgn at this
         (repeat' split at this) <;> omega
        rw [if_pos ⟨of_decide_eq_true hf, hq2⟩, if_pos ⟨of_decide_eq_true hf, hq2⟩, if_neg (fun h => (of_decide_eq_false hg) h.1), if_neg (fun h => (of_decide_eq_false hg) h.1)]
      have ES := Lib.hid eS;generalize sgn (-f * S.ld - S.ln * (g - f)) = o at *
      generalize -f * S.ld = p at *
      generalize S.ln * (g - f) = q at *
      clear hs eB eS b1 b2 b3 b4 df dg
      as_aux_lemma =>
       go_wp2_with fail;have g_tab := J3 Bt.cells Ba.cells Bb.cells;refine wrt 18 (by kernel_rfl) (by kernel_rfl) ?_;simp only [tK1, tK0, dP1, dP0];repeat (first | (refine zA0 (Eq.refl false) ?_; simp only [Act.put, sT2, sT1, sT0]) | (refine rWalk_step (fun K hK => ?_); go_simp; first | (refine hK _ ?_; clear hK K) | (apply Exists.intro; refine ⟨fun _ => ?_, hK _ ?_⟩; (first | with_reducible exact toExt c1 _ | with_reducible exact toExt c2 _ | with_reducible exact toExt f1 _ | with_reducible exact toExt g1 _); clear hK K)))
       refine rWalk_nil ?_;intro w6 hb;clear g_tab;obtain ⟨Bt, Ba, Bb, hw, -⟩ := X3 Bt Ba Bb hw hb;clear c1 c2 f1 g1;go_wp2_with fail;refine (m1 _).mono ?_;rintro e w7 ⟨rfl, hb⟩;obtain ⟨Bt, Ba, Bb, hw, -⟩ := X3 Bt Ba Bb hw hb;clear hb;go_wp2_with fail;refine (m2 _).mono ?_;rintro e w8 ⟨rfl, hb⟩;obtain ⟨Bt, Ba, Bb, hw, -⟩ := X3 Bt Ba Bb hw hb;clear hb;go_wp2_with fail;refine (cc _).mono ?_;rintro e w9 ⟨rfl, hb⟩;obtain ⟨Bt, Ba, Bb, hw, -⟩ := X3 Bt Ba Bb hw hb;clear hb;go_wp2_with fail
       go_roundw
       case rel => exact ⟨n + 1, by omega, by rw [ES.out], by rw [ES.out], by rw [ES.out], by rw [ES.out], rfl, hno2, hw, Bt, Ba, Bb⟩
       case measure => simp [intOf]; omega
    ·have hs := hs (by rw [eB, hf, hg]; rfl);have HS := Lib.hid hs;clear hs hno2 eB eS b1 b2 b3 b4 df dg
     as_aux_lemma =>
      go_wp2_with fail;have g_tab := J3 Bt.cells Ba.cells Bb.cells;refine wrt 18 (by kernel_rfl) (by kernel_rfl) ?_;simp only [tK1, tK0, dP1, dP0];repeat (first | (refine zA0 (Eq.refl false) ?_; simp only [Act.put, sT2, sT1, sT0]) | (refine rWalk_step (fun K hK => ?_); go_simp; first | (refine hK _ ?_; clear hK K) | (apply Exists.intro; refine ⟨fun _ => ?_, hK _ ?_⟩; (first | with_reducible exact toExt c1 _ | with_reducible exact toExt c2 _ | with_reducible exact toExt f1 _ | with_reducible exact toExt g1 _); clear hK K)))
      refine rWalk_nil ?_;intro w6 hb;clear g_tab;obtain ⟨Bt, Ba, Bb, hw, -⟩ := X3 Bt Ba Bb hw hb;clear c1 c2 f1 g1;go_wp2_with fail
      go_ret
      exact ⟨zCu HS.out.symm, hw⟩
  ·obtain rfl : n = 3 := by omega
   have hs : sal T a b = lst (clp T a b 3) := by unfold sal; rw [hno 0 (by omega), hno 1 (by omega), hno 2 (by omega)]; rfl
   have HS := Lib.hid hs;obtain ⟨b1, b2, b3, b4⟩ := zL3 hv ha hb 3;unfold lst at HS;generalize clp T a b 3 = S at *
   unfold sml at b1 b2 b3 b4;have m1 := r_mul S.ln S.hd (by omega) (by omega) (by omega) (by omega);have m2 := r_mul S.hn S.ld (by omega) (by omega) (by omega) (by omega);have cc := rcmpm (zFc (x := S.ln) (y := S.hd) (by omega) (by omega)) (zFc (x := S.hn) (y := S.ld) (by omega) (by omega));generalize sgn (S.ln * S.hd - S.hn * S.ld) = o at *
   generalize S.ln * S.hd = p at *
   generalize S.hn * S.ld = q at *
   have hd : decide (((3 : Nat) : Int) < 3) = false := by decide
   clear hs hno b1 b2 b3 b4 ha hb hv
   as_aux_lemma =>
    go_wp2_with fail;refine (m1 _).mono ?_;rintro e w6 ⟨rfl, hb⟩;obtain ⟨Bt, Ba, Bb, hw, -⟩ := X3 Bt Ba Bb hw hb;clear hb;go_wp2_with fail;refine (m2 _).mono ?_;rintro e w7 ⟨rfl, hb⟩;obtain ⟨Bt, Ba, Bb, hw, -⟩ := X3 Bt Ba Bb hw hb;clear hb;go_wp2_with fail;refine (cc _).mono ?_;rintro e w8 ⟨rfl, hb⟩;obtain ⟨Bt, Ba, Bb, hw, -⟩ := X3 Bt Ba Bb hw hb;clear hb;go_wp2
    go_ret
    exact ⟨zCu HS.out.symm, hw⟩
def ralg (T : Tri3) (a b : Pt) : Bool := valT T && (vld a && (vld b && (!peqI a.x a.y b.x b.y && sal T a b)))
theorem ralg_any (T : Tri3) (a b : Pt) (w : World) :
    Calls Tryz.prog 63 #[.agg #[.int .i64 T.A.x, .int .i64 T.A.y, .int .i64 T.B.x, .int .i64 T.B.y, .int .i64 T.C.x, .int .i64 T.C.y], .agg #[.int .i64 a.x, .int .i64 a.y], .agg #[.int .i64 b.x, .int .i64 b.y]] w fun e w' => e = .returned (.bool (ralg T a b)) ∧ Below w.heap.size w w' := by
 unfold ralg;cases h0 : valT T with
 | false => exact ral_0 T a b h0 w
 | true => cases h1 : vld a with
  | false => exact ral_1 T a b h0 h1 w
  | true => cases h2 : vld b with
   | false => exact ral_2 T a b h0 h1 h2 w
   | true => cases h3 : peqI a.x a.y b.x b.y with
    | true => exact ral_3 T a b h0 h1 h2 h3 w
    | false => exact ral_4 T a b h0 h1 h2 h3 w
theorem rtrail_any (mb b : Nat) (E : Es) (p q : Pt) (hE : E.length ≤ 1000000) (w : World) (Bm : Box w mb [.map (some b)] 41) (Hm : HoldsMap eW eT okW w b E) :
    Calls Tryz.prog 27 #[.pointer (some ⟨mb, 0, none⟩), .agg #[.int .i64 p.x, .int .i64 p.y], .agg #[.int .i64 q.x, .int .i64 q.y]] w fun e w' => ∃ a cap, e = .returned (.slice a (srt cmpT (heads (fun T => ralg T p q) E)).length cap) ∧ RowAt cT 6 w' a (srt cmpT (heads (fun T => ralg T p q) E)) ∧ Below w.heap.size w w' := by
 obtain ⟨f, ef⟩ : ∃ f : Tri3 → Bool, f = fun T => ralg T p q := ⟨_, rfl⟩;rw [← ef];have hf : ∀ T, ralg T p q = f T := fun T => by rw [ef]
 clear ef;have cH : ∀ (T : Tri3) (W : World), Calls Tryz.prog 63 #[.agg #[.int .i64 T.A.x, .int .i64 T.A.y, .int .i64 T.B.x, .int .i64 T.B.y, .int .i64 T.C.x, .int .i64 T.C.y], .agg #[.int .i64 p.x, .int .i64 p.y], .agg #[.int .i64 q.x, .int .i64 q.y]] W fun e w' => e = .returned (.bool (f T)) ∧ Below W.heap.size W w' := fun T W => by rw [← hf]; exact ralg_any T p q W
 clear hf;have Fm := Bm.f;have zm1 : (mb = w.heap.size + 1) = False := by have := Bm.lt; simp; omega
 go_enter Tryz.func27, Tryz.ntmps27
 go_wp2_with (at_range; refine zAx _ rfl _ rfl kvR rfl ((Hm.alloc _).alloc _) ?_)
 intro w0 HR0 hw0 hs0;have Bp0 : Box w0 w.heap.size [.int .i64 p.x, .int .i64 p.y] 30 := ((Box.new rfl).old _).ext hw0 (by simp);have Bq0 : Box w0 (w.heap.size + 1) [.int .i64 q.x, .int .i64 q.y] 30 := (Box.new (by simp)).ext hw0 (by simp);replace hw0 : Below w.heap.size w w0 := (((Below.refl w.heap.size w).alloc (Nat.le_refl _) _).alloc (by simp) _).trans (hw0.mono (by first | omega | simp));clear Fm zm1;go_wp2
 go_loopw [7] (fun v wr => ∃ D R : Es, Hid ((D ++ R).Perm E) ∧ wr.ownsRow (w.heap.size + 2) 38 6 v (heads f D).length ((heads f D).flatMap cT) ∧ Ranging eW eT okW wr b (w.heap.size + 2) E R ∧ Box wr w.heap.size [.int .i64 p.x, .int .i64 p.y] 30 ∧ Box wr (w.heap.size + 1) [.int .i64 q.x, .int .i64 q.y] 30 ∧ Below w.heap.size w wr) (fun _ wr => wr.rangeLeft b (w.heap.size + 2))
 case atStart => exact ⟨[], E, Lib.hid (by simp), World.ownsRow_nil _ _ _ _, by simpa using HR0, Bp0, Bq0, hw0⟩
 case round =>
  clear HR0 hw0 Bp0 Bq0;obtain ⟨D, R, hD, hown, HR, Bp, Bq, hw⟩ := hrel;go_wp2_with (at_next; refine zB5 _ rfl _ rfl rfl HR ?_ ?_)
  ·intro hR;subst hR;have hp0 : (heads f D).Perm (heads f E) := zCd (by simpa using hD.out);have hle : (heads f D).length ≤ 1000000 := by have := hp0.length_eq; have := zBo f E; omega
   have HS := Lib.hid (wholeT.srt_of_perm hp0);obtain ⟨a1, c1, rfl, hc1, hr1⟩ := zAp zF7 hown;have hlen := Lib.hid (show (heads f D).length = (srt cmpT (heads f E)).length by rw [← HS.out]; exact (zAg _).length_eq.symm);go_wp2_with fail;refine (zBq _ _ _ _ (Lib.hid rfl) hle hc1 _ hr1).mono ?_;rintro e w2 ⟨a, cap, rfl, hr, hb⟩;go_wp2
   go_ret
   rw [HS.out] at hr;exact ⟨a, cap, by rw [hlen.out]; rfl, hr, (upB hw hb)⟩
  ·intro u x T R' w1 hperm HR1 hg1 hs1 hen;have hD2 := Lib.hid (show ((D ++ [((u, x), T)]) ++ R').Perm E by have := (hperm.append_left D).symm.trans hD.out; simpa using this);have own1 := hown.kept hg1 (.inr (fun e => zAr hown HR e.symm));have Bp1 := Bp.grown1 hg1;have Bq1 := Bq.grown1 hg1;have hw1 := hw.grown hg1 hw.size (fun k hk => by cases hk; omega);have HL := Lib.hid (show w1.rangeLeft b (w.heap.size + 2) < wr.rangeLeft b (w.heap.size + 2) by rw [zA9 HR1, zA9 HR, hperm.length_eq]; simp);have hen2 : (Instr.entry (.pointer (some ⟨w.heap.size + 2, 0, none⟩))).run Tryz.prog w1 = .ok (.tuple #[.agg #[.int .i64 u.x, .int .i64 u.y, .int .i64 x.x, .int .i64 x.y], .agg #[.int .i64 T.A.x, .int .i64 T.A.y, .int .i64 T.B.x, .int .i64 T.B.y, .int .i64 T.C.x, .int .i64 T.C.y]]) w1 := hen;have hle : (heads f D).length ≤ 1000000 := by have := hD2.out.length_eq; have := zBo f D; simp at *; omega
   have HB := Lib.hid hw1.size;clear hown HR hg1 hs1 hen hperm hw Bp Bq;by_cases hA : u = T.A
   ·have hd : peqI u.x u.y T.A.x T.A.y = true := zBi.2 hA;have HHt := Lib.hid (fun (hf : f T = true) => show heads f (D ++ [((u, x), T)]) = heads f D ++ [T] by rw [zAn, zEi hA hf]);have HHf := Lib.hid (fun (hf : f T = false) => show heads f (D ++ [((u, x), T)]) = heads f D by rw [zAn, zDe (by simp [hf])]; simp);clear hA;have Fp := Bp1.f;have Fq := Bq1.f;have e1 : (w.heap.size = w1.heap.size + 1) = False := by have := Bp1.lt; simp; omega
    have e2 : (w.heap.size = w1.heap.size) = False := by have := Bp1.lt; simp; omega
    go_wp2_with fail;refine zA1 fun W2 hW => ?_;have Bt : Box W2 (w1.heap.size + 1) [.int .i64 T.A.x, .int .i64 T.A.y, .int .i64 T.B.x, .int .i64 T.B.y, .int .i64 T.C.x, .int .i64 T.C.y] 38 := by rw [hW]; exact Box.new (by simp)
    have Bp2 : Box W2 w.heap.size [.int .i64 p.x, .int .i64 p.y] 30 := by rw [hW]; exact (Bp1.old _).old _
    have Bq2 : Box W2 (w.heap.size + 1) [.int .i64 q.x, .int .i64 q.y] 30 := by rw [hW]; exact (Bq1.old _).old _
    have own2 : W2.ownsRow (w.heap.size + 2) 38 6 u7 (heads f D).length ((heads f D).flatMap cT) := by rw [hW]; exact (own1.alloc _).alloc _
    have hw2 : Below w1.heap.size w1 W2 := by rw [hW]; go_grown
    have HR2 := HR1.ee hw2;clear hW Fp Fq e1 e2 Bp1 Bq1 own1;refine (cH T _).mono ?_;rintro e w3 ⟨rfl, hb⟩;replace Bt := Bt.ee hb;replace Bp2 := Bp2.ee hb;replace Bq2 := Bq2.ee hb;replace own2 := zCp own2 hb;replace HR2 := HR2.ee hb;have hw3 := hw1.trans (((upB hw2 hb)).mono hw1.size);have HL3 := Lib.hid (show w3.rangeLeft b (w.heap.size + 2) < wr.rangeLeft b (w.heap.size + 2) by rw [zA9 HR2, ← zA9 HR1]; exact HL.out);have HB3 := Lib.hid Bq2.lt;clear hb hw2;cases hf : f T with
    | true =>
     have HH := Lib.hid (HHt.out hf);clear HHt HHf hf;have Ft := Bt.f;go_wp2_with (at_builtin; refine zAz rfl _ _ rfl (w.heap.size + 2) _ (heads f D) rfl (own2.alloc _) w3.heap.size T rfl (Box.new (by simp)) hle (by have := HB3.out; simp; omega) ?_; intro w4 v4 hown4 hg4)
     have hR3 := HR2.kept (World.grownBy_alloc _ (.cells (cT T).toArray 38) none) (by simp) (by simp);have hR4 := hR3.kept hg4 (zBa (own2.alloc _) hR3.holds) (zAr (own2.alloc _) hR3);have hw4 := ((hw3.alloc (by have := HB3.out; omega) (.cells (cT T).toArray 38))).grown hg4 (by have := HB3.out; simp; omega) (fun k hk => by have := ((own2.alloc (.cells (cT T).toArray 38)).lt k hk).1; omega);have Bq4 := (Bq2.old (.cells (cT T).toArray 38)).grown2 hg4 (fun k hk => by have := ((own2.alloc (.cells (cT T).toArray 38)).lt k hk).1; omega);have Bp4 := (Bp2.old (.cells (cT T).toArray 38)).grown2 hg4 (fun k hk => by have := ((own2.alloc (.cells (cT T).toArray 38)).lt k hk).1; omega)
     go_roundw
     case rel => exact ⟨D ++ [((u, x), T)], R', hD2, by rw [HH.out]; exact hown4, hR4, Bp4, Bq4, hw4⟩
     case measure => rw [zA9 hR4, ← zA9 HR2]; exact HL3.out
    | false =>
     have HH := Lib.hid (HHf.out hf);clear HHt HHf hf;go_wp2
     go_roundw
     case rel => exact ⟨D ++ [((u, x), T)], R', hD2, by rw [HH.out]; exact own2, HR2, Bp2, Bq2, hw3⟩
     case measure => exact HL3.out
   ·have hd : peqI u.x u.y T.A.x T.A.y = false := by rw [← Bool.not_eq_true, zBi]; exact hA
    have HH := Lib.hid (show heads f (D ++ [((u, x), T)]) = heads f D by rw [zAn, zDe (by simp [hA])]; simp);clear hA;go_wp2
    go_roundw
    case rel => exact ⟨D ++ [((u, x), T)], R', hD2, by rw [HH.out]; exact (own1.alloc _).alloc _, HR1.ext (by go_grown) rfl, (Bp1.old _).old _, (Bq1.old _).old _, by have := hw1.size; go_grown⟩
    case measure => rw [zA9 ((HR1.ext (w' := (w1.alloc _).alloc _) (by go_grown) rfl)), ← zA9 HR1]; exact HL.out
end Go.Proofs.YtmobnmjjmafibaaGreat
namespace Go.Proofs.YtmobnmjjmafibaaGreat
open Go.RowKit
theorem frle {a b c d e f : Int} (hd : 0 < d) (hb : 0 < b) (hf : 0 < f) (h1 : a * d ≤ c * b) (h2 : c * f ≤ e * d) : a * f ≤ e * b := by
 have e1 : a * d * f ≤ c * b * f := Int.mul_le_mul_of_nonneg_right h1 (by omega);have e2 : c * f * b ≤ e * d * b := Int.mul_le_mul_of_nonneg_right h2 (by omega);have e3 : d * (a * f) ≤ d * (e * b) := by grind
 exact Int.le_of_mul_le_mul_left e3 hd
theorem frlt {a b c d e f : Int} (hd : 0 < d) (hb : 0 < b) (hf : 0 < f) (h1 : a * d ≤ c * b) (h2 : c * f < e * d) : a * f < e * b := by
 have e1 : a * d * f ≤ c * b * f := Int.mul_le_mul_of_nonneg_right h1 (by omega);have e2 : c * f * b < e * d * b := Int.mul_lt_mul_of_pos_right h2 hb;have e3 : d * (a * f) < d * (e * b) := by grind
 exact Int.lt_of_mul_lt_mul_left e3 (by omega)
theorem frlt2 {a b c d e f : Int} (hd : 0 < d) (hb : 0 < b) (hf : 0 < f) (h1 : a * d < c * b) (h2 : c * f ≤ e * d) : a * f < e * b := by
 have e1 : a * d * f < c * b * f := Int.mul_lt_mul_of_pos_right h1 hf;have e2 : c * f * b ≤ e * d * b := Int.mul_le_mul_of_nonneg_right h2 (by omega);have e3 : d * (a * f) < d * (e * b) := by grind
 exact Int.lt_of_mul_lt_mul_left e3 (by omega)
structure ClpInv (F G : Nat → Int) (n : Nat) (s : Clp) : Prop where
 ln0 : 0 ≤ s.ln
 ld0 : 0 < s.ld
 hd0 : 0 < s.hd
 hn1 : s.hn ≤ s.hd
 lo : ∀ i, i < n → F i < 0 → -F i * s.ld ≤ s.ln * (G i - F i)
 loE : (s.ln = 0 ∧ s.ld = 1) ∨ ∃ i, i < n ∧ F i < 0 ∧ s.ln = -F i ∧ s.ld = G i - F i
 hi : ∀ i, i < n → G i < 0 → s.hn * (F i - G i) ≤ F i * s.hd
 hiE : (s.hn = 1 ∧ s.hd = 1) ∨ ∃ i, i < n ∧ G i < 0 ∧ s.hn = F i ∧ s.hd = F i - G i
theorem stp_inv {F G : Nat → Int} {n : Nat} {s : Clp} (h : ClpInv F G n s) (hb : ∀ i, i < n + 1 → ¬ (F i < 0 ∧ G i < 0)) : ClpInv F G (n + 1) (stp (F n) (G n) s) := by
 obtain ⟨ln0, ld0, hd0, hn1, lo, loE, hi, hiE⟩ := h;have hbn := hb n (by omega);obtain ⟨ln, ld, hn, hd⟩ := s;simp only at *;have LE := Lib.hid loE;have HE := Lib.hid hiE;clear loE hiE;have A : ∃ x y, (stp (F n) (G n) ⟨ln, ld, hn, hd⟩).ln = x ∧ (stp (F n) (G n) ⟨ln, ld, hn, hd⟩).ld = y ∧ 0 ≤ x ∧ 0 < y ∧ (∀ i, i < n + 1 → F i < 0 → -F i * y ≤ x * (G i - F i)) ∧ ((x = 0 ∧ y = 1) ∨ ∃ i, i < n + 1 ∧ F i < 0 ∧ x = -F i ∧ y = G i - F i) := by
  by_cases hc : F n < 0 ∧ 0 < -F n * ld - ln * (G n - F n)
  ·refine ⟨-F n, G n - F n, if_pos hc, if_pos hc, by omega, by omega, fun i hi hF => ?_, .inr ⟨n, by omega, hc.1, rfl, rfl⟩⟩;by_cases e : i = n
   ·rw [e]; exact Int.le_refl _
   ·have := hb i hi;exact frle ld0 (by omega) (by omega) (lo i (by omega) hF) (by omega)
  ·refine ⟨ln, ld, if_neg hc, if_neg hc, ln0, ld0, fun i hi hF => ?_, ?_⟩
   ·by_cases e : i = n
    ·rw [e] at hF ⊢;have : ¬ 0 < -F n * ld - ln * (G n - F n) := fun k => hc ⟨hF, k⟩;omega
    ·exact lo i (by omega) hF
   ·rcases LE.out with h | ⟨i, h1, h2⟩
    ·exact .inl h
    ·exact .inr ⟨i, by omega, h2⟩
 have AA := Lib.hid A;clear A;have B : ∃ x y, (stp (F n) (G n) ⟨ln, ld, hn, hd⟩).hn = x ∧ (stp (F n) (G n) ⟨ln, ld, hn, hd⟩).hd = y ∧ 0 < y ∧ x ≤ y ∧ (∀ i, i < n + 1 → G i < 0 → x * (F i - G i) ≤ F i * y) ∧ ((x = 1 ∧ y = 1) ∨ ∃ i, i < n + 1 ∧ G i < 0 ∧ x = F i ∧ y = F i - G i) := by
  by_cases hc : G n < 0 ∧ F n * hd - hn * (F n - G n) < 0
  ·refine ⟨F n, F n - G n, if_pos hc, if_pos hc, by omega, by omega, fun i hi' hF => ?_, .inr ⟨n, by omega, hc.1, rfl, rfl⟩⟩;by_cases e : i = n
   ·rw [e]; exact Int.le_refl _
   ·have := hb i hi';exact frle hd0 (by omega) (by omega) (by omega) (hi i (by omega) hF)
  ·refine ⟨hn, hd, if_neg hc, if_neg hc, hd0, hn1, fun i hi' hF => ?_, ?_⟩
   ·by_cases e : i = n
    ·rw [e] at hF ⊢;have : ¬ F n * hd - hn * (F n - G n) < 0 := fun k => hc ⟨hF, k⟩;omega
    ·exact hi i (by omega) hF
   ·rcases HE.out with h | ⟨i, h1, h2⟩
    ·exact .inl h
    ·exact .inr ⟨i, by omega, h2⟩
 obtain ⟨x, y, ex, ey, a1, a2, a3, a4⟩ := AA.out;obtain ⟨x', y', ex', ey', b1, b2, b3, b4⟩ := B;generalize stp (F n) (G n) ⟨ln, ld, hn, hd⟩ = s at *
 subst ex ey ex' ey';exact ⟨a1, a2, b1, b2, a3, a4, b3, b4⟩
theorem zIu (T : Tri3) (a b : Pt) : ∀ n, (∀ i, i < n → ¬ (edF T a i < 0 ∧ edF T b i < 0)) → ClpInv (edF T a) (edF T b) n (clp T a b n)
 | 0, _ => ⟨by simp [clp], by simp [clp], by simp [clp], by simp [clp], fun i h => absurd h (by omega), .inl ⟨rfl, rfl⟩, fun i h => absurd h (by omega), .inl ⟨rfl, rfl⟩⟩
 | n + 1, h => by
  have := zIu T a b n (fun i hi => h i (by omega));exact stp_inv this h
def PPr (f g : Int) : Prop := 0 < f ∨ 0 < g ∨ (f = 0 ∧ g = 0)
def QQr (f g f' g' : Int) : Prop := f < 0 → g' < 0 → 0 < f' * g - f * g'
structure AL (f0 f1 f2 g0 g1 g2 : Int) : Prop where
 p0 : PPr f0 g0
 p1 : PPr f1 g1
 p2 : PPr f2 g2
 q01 : QQr f0 g0 f1 g1
 q02 : QQr f0 g0 f2 g2
 q10 : QQr f1 g1 f0 g0
 q12 : QQr f1 g1 f2 g2
 q20 : QQr f2 g2 f0 g0
 q21 : QQr f2 g2 f1 g1
theorem lst_iff (s : Clp) : lst s = true ↔ s.ln * s.hd < s.hn * s.ld := by
 unfold lst;have := zAj (s.ln * s.hd - s.hn * s.ld);rw [decide_eq_true_eq]; omega
theorem bth_iff (T : Tri3) (a b : Pt) (n : Nat) : bth T a b n = false ↔ ¬ (edF T a n < 0 ∧ edF T b n < 0) := by
 unfold bth; rw [← Bool.not_eq_true, Bool.and_eq_true, decide_eq_true_eq, decide_eq_true_eq]
theorem zHw (T : Tri3) (a b : Pt) : sal T a b = true ↔ (∀ i, i < 3 → ¬ (edF T a i < 0 ∧ edF T b i < 0)) ∧ (clp T a b 3).ln * (clp T a b 3).hd < (clp T a b 3).hn * (clp T a b 3).ld := by
 unfold sal;simp only [Bool.and_eq_true, Bool.not_eq_true', bth_iff, lst_iff];constructor
 ·rintro ⟨h0, h1, h2, h3⟩;refine ⟨fun i hi => ?_, h3⟩;have : i = 0 ∨ i = 1 ∨ i = 2 := by omega
  rcases this with rfl | rfl | rfl
  ·exact h0
  ·exact h1
  ·exact h2
 ·rintro ⟨h, h3⟩;exact ⟨h 0 (by omega), h 1 (by omega), h 2 (by omega), h3⟩
theorem al_pq {F G : Nat → Int} (hp : ∀ i, i < 3 → PPr (F i) (G i)) (hq : ∀ i j, i < 3 → j < 3 → i ≠ j → QQr (F i) (G i) (F j) (G j)) : AL (F 0) (F 1) (F 2) (G 0) (G 1) (G 2) :=
 ⟨hp 0 (by omega), hp 1 (by omega), hp 2 (by omega), hq 0 1 (by omega) (by omega) (by omega), hq 0 2 (by omega) (by omega) (by omega), hq 1 0 (by omega) (by omega) (by omega), hq 1 2 (by omega) (by omega) (by omega), hq 2 0 (by omega) (by omega) (by omega), hq 2 1 (by omega) (by omega) (by omega)⟩
theorem AL.p {F G : Nat → Int} (h : AL (F 0) (F 1) (F 2) (G 0) (G 1) (G 2)) (i : Nat) (hi : i < 3) : PPr (F i) (G i) := by
 have : i = 0 ∨ i = 1 ∨ i = 2 := by omega
 rcases this with rfl | rfl | rfl
 ·exact h.p0
 ·exact h.p1
 ·exact h.p2
theorem AL.q {F G : Nat → Int} (h : AL (F 0) (F 1) (F 2) (G 0) (G 1) (G 2)) (i j : Nat) (hi : i < 3) (hj : j < 3) : F i < 0 → G j < 0 → i ≠ j ∧ 0 < F j * G i - F i * G j := by
 intro hF hG;have hn : i ≠ j := by
  intro e; subst e;have := h.p i hi;unfold PPr at this; omega
 refine ⟨hn, ?_⟩;have h1 : i = 0 ∨ i = 1 ∨ i = 2 := by omega
 have h2 : j = 0 ∨ j = 1 ∨ j = 2 := by omega
 rcases h1 with rfl | rfl | rfl <;> rcases h2 with rfl | rfl | rfl <;> first
  | exact absurd rfl hn
  | exact h.q01 hF hG
  | exact h.q02 hF hG
  | exact h.q10 hF hG
  | exact h.q12 hF hG
  | exact h.q20 hF hG
  | exact h.q21 hF hG
theorem al_iff (T : Tri3) (a b : Pt) : sal T a b = true ↔ AL (edF T a 0) (edF T a 1) (edF T a 2) (edF T b 0) (edF T b 1) (edF T b 2) := by
 rw [zHw];constructor
 ·rintro ⟨hb, hl⟩;have I := zIu T a b 3 hb;generalize clp T a b 3 = s at *
  obtain ⟨ln0, ld0, hd0, hn1, lo, loE, hi, hiE⟩ := I;generalize edF T a = F at *
  generalize edF T b = G at *
  refine al_pq (fun i hi3 => ?_) (fun i j hi3 hj3 hij => ?_)
  ·have hbi := hb i hi3;unfold PPr;rcases Int.lt_trichotomy (F i) 0 with hF | hF | hF
   ·rcases Int.lt_trichotomy (G i) 0 with hG | hG | hG
    ·omega
    ·exfalso
     have h1 := lo i hi3 hF;rw [hG] at h1;have h2 : s.ld ≤ s.ln := by
      have e : -F i * s.ld ≤ -F i * s.ln := by rw [Int.mul_comm (-F i) s.ln]; simpa using h1
      exact Int.le_of_mul_le_mul_left e (by omega)
     have h3 : s.ld * s.hd ≤ s.ln * s.hd := Int.mul_le_mul_of_nonneg_right h2 (by omega);have h4 : s.hn * s.ld ≤ s.hd * s.ld := Int.mul_le_mul_of_nonneg_right hn1 (by omega);rw [Int.mul_comm s.hd s.ld] at h4;omega
    ·omega
   ·rcases Int.lt_trichotomy (G i) 0 with hG | hG | hG
    ·exfalso
     have h1 := hi i hi3 hG;rw [hF] at h1;simp only [Int.zero_mul, Int.zero_sub] at h1;have h2 : s.hn ≤ 0 := by
      rcases Int.lt_or_le 0 s.hn with k | k
      ·have := Int.mul_pos k (show 0 < -G i by omega);omega
      ·exact k
     have h3 : 0 ≤ s.ln * s.hd := Int.mul_nonneg ln0 (by omega);have h4 : s.hn * s.ld ≤ 0 := Int.mul_nonpos_of_nonpos_of_nonneg h2 (by omega);omega
    ·omega
    ·omega
   ·omega
  ·intro hF hG;have hbi := hb i hi3;have hbj := hb j hj3;have h1 := frlt ld0 (show 0 < G i - F i by omega) hd0 (lo i hi3 hF) hl;have h2 := frlt2 hd0 (show 0 < G i - F i by omega) (show 0 < F j - G j by omega) h1 (hi j hj3 hG)
   grind
 ·intro h;have hb : ∀ i, i < 3 → ¬ (edF T a i < 0 ∧ edF T b i < 0) := fun i hi => by
   have := AL.p (F := edF T a) (G := edF T b) h i hi;unfold PPr at this; omega
  refine ⟨hb, ?_⟩;have I := zIu T a b 3 hb;generalize clp T a b 3 = s at *
  obtain ⟨ln0, ld0, hd0, hn1, lo, loE, hi, hiE⟩ := I;have P := AL.p (F := edF T a) (G := edF T b) h;have Q := AL.q (F := edF T a) (G := edF T b) h;clear h;generalize edF T a = F at *
  generalize edF T b = G at *
  rcases loE with ⟨e1, e2⟩ | ⟨i, i3, hF, e1, e2⟩ <;> rcases hiE with ⟨e3, e4⟩ | ⟨j, j3, hG, e3, e4⟩ <;> rw [e1, e2, e3, e4]
  ·omega
  ·have := P j j3;unfold PPr at this; omega
  ·have := P i i3;unfold PPr at this; omega
  ·have := (Q i j i3 j3 hF hG).2
   grind
theorem al_mid {T : Tri3} {a b : Pt} (h : sal T a b = true) : ∃ r s : Int, 0 < r ∧ 0 < s ∧ ∀ i, i < 3 → ¬ (edF T a i = 0 ∧ edF T b i = 0) → 0 < r * edF T a i + s * edF T b i := by
 obtain ⟨hb, hl⟩ := (zHw T a b).1 h;have I := zIu T a b 3 hb;generalize clp T a b 3 = s at *
 obtain ⟨ln0, ld0, hd0, hn1, lo, _, hi, _⟩ := I;generalize edF T a = F at *
 generalize edF T b = G at *
 clear h;obtain ⟨ln, ld, hn, hd⟩ := s;simp only at *;have k1 : 0 ≤ ln * hd := Int.mul_nonneg ln0 (by omega);have k2 : hn * ld ≤ hd * ld := Int.mul_le_mul_of_nonneg_right hn1 (by omega);refine ⟨2 * (hd * ld) - (ln * hd + hn * ld), ln * hd + hn * ld, by omega, by omega, fun i i3 hn0 => ?_⟩;have hbi := hb i i3;have lo := lo i i3;have hi := hi i i3;generalize F i = f at *
 generalize G i = g at *
 rcases Int.lt_or_le f 0 with hF | hF
 ·have h1 := lo hF;have h2 : -f * ld * hd ≤ ln * (g - f) * hd := Int.mul_le_mul_of_nonneg_right h1 (by omega);have h3 : ln * hd * (g - f) < hn * ld * (g - f) := Int.mul_lt_mul_of_pos_right hl (by omega)
  grind
 ·rcases Int.lt_or_le g 0 with hG | hG
  ·have h1 := hi hG;have h2 : hn * (f - g) * ld ≤ f * hd * ld := Int.mul_le_mul_of_nonneg_right h1 (by omega);have h3 : ln * hd * (f - g) < hn * ld * (f - g) := Int.mul_lt_mul_of_pos_right hl (by omega)
   grind
  ·have hr : 0 < 2 * (hd * ld) - (ln * hd + hn * ld) := by omega
   have hs : 0 < ln * hd + hn * ld := by omega
   generalize 2 * (hd * ld) - (ln * hd + hn * ld) = r at *
   generalize ln * hd + hn * ld = s at *
   rcases Int.lt_or_le 0 f with k | k
   ·have := Int.mul_pos hr k;have := Int.mul_nonneg (show 0 ≤ s by omega) hG;omega
   ·have hf0 : f = 0 := by omega
    have := Int.mul_pos hs (show 0 < g by omega);rw [hf0, Int.mul_zero]; omega
theorem lm3_pos (p q a b c : Pt) : 0 < lm3 p q a b c ↔ 0 < ori p q a ∨ 0 < ori p q b ∨ 0 < ori p q c := by
 unfold lm3 mx2; (repeat' split) <;> omega
theorem lm2_pos (p q a b : Pt) : 0 < lm2 p q a b ↔ 0 < ori p q a ∨ 0 < ori p q b := by
 unfold lm2 mx2; (repeat' split) <;> omega
theorem ls2_pos (T : Tri3) (a b : Pt) : 0 < ls2 T a b ↔ 0 < lm2 T.A T.B a b ∧ 0 < lm2 T.B T.C a b ∧ 0 < lm2 T.C T.A a b := by
 unfold ls2 mn2; (repeat' split) <;> omega
theorem edF0 (T : Tri3) (p : Pt) : edF T p 0 = det T.A T.B p := rfl
theorem edF1 (T : Tri3) (p : Pt) : edF T p 1 = det T.B T.C p := rfl
theorem edF2 (T : Tri3) (p : Pt) : edF T p 2 = det T.C T.A p := rfl
theorem det_back (a b c : Pt) : det b a c = -det a b c := by unfold det; grind
theorem zKj {T : Tri3} {a b : Pt} (hT : valT T = true) (ha : vld a = true) (hb : vld b = true) : thr T a b = true ↔
    (0 < det a b T.A ∨ 0 < det a b T.B ∨ 0 < det a b T.C) ∧ (det a b T.A < 0 ∨ det a b T.B < 0 ∨ det a b T.C < 0) ∧
    (0 < det T.A T.B a ∨ 0 < det T.A T.B b) ∧ (0 < det T.B T.C a ∨ 0 < det T.B T.C b) ∧ (0 < det T.C T.A a ∨ 0 < det T.C T.A b) := by
 obtain ⟨uA, uB, uC, hD⟩ := zDk hT;unfold thr;simp only [Bool.and_eq_true, decide_eq_true_eq, lm3_pos, ls2_pos, lm2_pos, (zDc ha hb uA).1, (zDc ha hb uB).1, (zDc ha hb uC).1, (zDc hb ha uA).1, (zDc hb ha uB).1, (zDc hb ha uC).1,
  (zDc uA uB ha).1, (zDc uA uB hb).1, (zDc uB uC ha).1, (zDc uB uC hb).1, (zDc uC uA ha).1, (zDc uC uA hb).1, det_back a b]
 omega
theorem cross_A (A B C a b : Pt) : det A B C * det a b A = det C A a * det A B b - det A B a * det C A b := by unfold det; grind
theorem cross_B (A B C a b : Pt) : det A B C * det a b B = det A B a * det B C b - det B C a * det A B b := by unfold det; grind
theorem cross_C (A B C a b : Pt) : det A B C * det a b C = det B C a * det C A b - det C A a * det B C b := by unfold det; grind
theorem zGz {D o x : Int} (hD : 0 < D) (e : D * o = x) : (0 < o ↔ 0 < x) ∧ (o < 0 ↔ x < 0) := by
 subst e;rcases Int.lt_trichotomy o 0 with h | h | h
 ·have := Int.mul_neg_of_pos_of_neg hD h; omega
 ·subst h; simp
 ·have := Int.mul_pos hD h; omega
theorem S1 {fi fj fk gi gj gk D : Int} (h1 : fi < 0) (h2 : 0 < gi) (h3 : gj < 0) (h4 : 0 < fj) (hD : 0 < D) (sf : fi + fj + fk = D) (sg : gi + gj + gk = D) (h : ¬ 0 < fj * gi - fi * gj) :
    0 ≤ fi * gj - fj * gi ∧ 0 < fk * gi - fi * gk ∧ 0 < fj * gk - fk * gj := by
 have e1 : fk * gi - fi * gk = D * (gi - fi) + (fi * gj - fj * gi) := by
  have k1 : fk = D - fi - fj := by omega
  have k2 : gk = D - gi - gj := by omega
  subst k1 k2; grind
 have e2 : fj * gk - fk * gj = D * (fj - gj) + (fi * gj - fj * gi) := by
  have k1 : fk = D - fi - fj := by omega
  have k2 : gk = D - gi - gj := by omega
  subst k1 k2; grind
 have p1 := Int.mul_pos hD (show 0 < gi - fi by omega);have p2 := Int.mul_pos hD (show 0 < fj - gj by omega);omega
theorem thr_al {D f0 f1 f2 g0 g1 g2 oA oB oC : Int} (hD : 0 < D) (sf : f0 + f1 + f2 = D) (sg : g0 + g1 + g2 = D)
    (eA : D * oA = f2 * g0 - f0 * g2) (eB : D * oB = f0 * g1 - f1 * g0) (eC : D * oC = f1 * g2 - f2 * g1)
    (hp : 0 < oA ∨ 0 < oB ∨ 0 < oC) (hn : oA < 0 ∨ oB < 0 ∨ oC < 0) (h0 : 0 < f0 ∨ 0 < g0) (h1 : 0 < f1 ∨ 0 < g1) (h2 : 0 < f2 ∨ 0 < g2) : AL f0 f1 f2 g0 g1 g2 := by
 obtain ⟨pA, nA⟩ := zGz hD eA;obtain ⟨pB, nB⟩ := zGz hD eB;obtain ⟨pC, nC⟩ := zGz hD eC;rw [pA, pB, pC] at hp;rw [nA, nB, nC] at hn;clear eA eB eC pA nA pB nB pC nC;refine ⟨?_, ?_, ?_, ?_, ?_, ?_, ?_, ?_, ?_⟩
 ·unfold PPr; omega
 ·unfold PPr; omega
 ·unfold PPr; omega
 all_goals intro x y; refine Decidable.byContradiction fun k => ?_
 ·obtain ⟨a1, a2, a3⟩ := S1 (fk := f2) (gk := g2) x (by omega) y (by omega) hD (by omega) (by omega) k; omega
 ·obtain ⟨a1, a2, a3⟩ := S1 (fk := f1) (gk := g1) x (by omega) y (by omega) hD (by omega) (by omega) k; omega
 ·obtain ⟨a1, a2, a3⟩ := S1 (fk := f2) (gk := g2) x (by omega) y (by omega) hD (by omega) (by omega) k; omega
 ·obtain ⟨a1, a2, a3⟩ := S1 (fk := f0) (gk := g0) x (by omega) y (by omega) hD (by omega) (by omega) k; omega
 ·obtain ⟨a1, a2, a3⟩ := S1 (fk := f1) (gk := g1) x (by omega) y (by omega) hD (by omega) (by omega) k; omega
 ·obtain ⟨a1, a2, a3⟩ := S1 (fk := f0) (gk := g0) x (by omega) y (by omega) hD (by omega) (by omega) k; omega
theorem zHb {A B C a b : Pt} (hD : 0 < det A B C) (h0 : det A B a = det A B b) (h2 : det C A a = det C A b) : a = b := by
 have e1 : det A B C * (a.x - b.x) = (det C A a - det C A b) * (B.x - A.x) + (det A B a - det A B b) * (C.x - A.x) := by unfold det; grind
 have e2 : det A B C * (a.y - b.y) = (det C A a - det C A b) * (B.y - A.y) + (det A B a - det A B b) * (C.y - A.y) := by unfold det; grind
 rw [h0, h2] at e1 e2;simp only [Int.sub_self, Int.zero_mul, Int.add_zero] at e1 e2;rw [Pt.eq_iff];rcases Int.mul_eq_zero.1 e1 with h | h
 ·omega
 ·rcases Int.mul_eq_zero.1 e2 with h' | h'
  ·omega
  ·omega
theorem both_signs {m0 m1 m2 x y z : Int} (h0 : 0 < m0) (h1 : 0 < m1) (h2 : 0 < m2) (e : m0 * x + m1 * y + m2 * z = 0) (hn : ¬ (x = 0 ∧ y = 0 ∧ z = 0)) : (0 < x ∨ 0 < y ∨ 0 < z) ∧ (x < 0 ∨ y < 0 ∨ z < 0) := by
 have s : ∀ {m x : Int}, 0 < m → (0 < x → 0 < m * x) ∧ (x < 0 → m * x < 0) ∧ (x = 0 → m * x = 0) := fun hm => ⟨fun h => Int.mul_pos hm h, fun h => Int.mul_neg_of_pos_of_neg hm h, fun h => by rw [h, Int.mul_zero]⟩;have a1 := s (x := x) h0;have a2 := s (x := y) h1;have a3 := s (x := z) h2;omega
theorem zKu {X Y Z p : Pt} (h : det X Y p = 0) : det X Y Z * (key p - key X) = det Z X p * (key Y - key X) := by
 have e1 : det X Y Z * (p.x - X.x) = det Z X p * (Y.x - X.x) + det X Y p * (Z.x - X.x) := by unfold det; grind
 have e2 : det X Y Z * (p.y - X.y) = det Z X p * (Y.y - X.y) + det X Y p * (Z.y - X.y) := by unfold det; grind
 rw [h] at e1 e2;unfold key
 grind
theorem zIe {D k al v : Int} (hD : 0 < D) (hk : 0 < k) (e : D * al = v * k) : (al < k ↔ v < D) ∧ (0 < al ↔ 0 < v) := by
 constructor
 ·constructor
  ·intro h;have : v * k < D * k := by rw [← e]; exact Int.mul_lt_mul_of_pos_left h hD
   exact Int.lt_of_mul_lt_mul_right this (by omega)
  ·intro h;have : D * al < D * k := by rw [e]; exact Int.mul_lt_mul_of_pos_right h hk
   exact Int.lt_of_mul_lt_mul_left this (by omega)
 ·constructor
  ·intro h;have : 0 < v * k := by rw [← e]; exact Int.mul_pos hD h
   exact (zGz hk (Int.mul_comm k v)).1.2 this
  ·intro h;have : 0 < D * al := by rw [e]; exact Int.mul_pos h hk
   exact (zGz hD (rfl : D * al = D * al)).1.2 this
theorem edge_al {X Y Z a b : Pt} (hD : 0 < det X Y Z) (vX : vld X = true) (vY : vld Y = true) (nXY : X ≠ Y) (ha : det X Y a = 0) (hb : det X Y b = 0) :
    (min (key a) (key b) < max (key X) (key Y) ∧ min (key X) (key Y) < max (key a) (key b)) ↔ (0 < det Y Z a ∨ 0 < det Y Z b) ∧ (0 < det Z X a ∨ 0 < det Z X b) := by
 have ea := zKu (Z := Z) ha;have eb := zKu (Z := Z) hb;have sa := zC5 X Y Z a;have sb := zC5 X Y Z b;have hk : key X ≠ key Y := fun h => nXY (zBx vX vY h);rw [ha] at sa;rw [hb] at sb;generalize det X Y Z = D at *
 generalize det Z X a = v at *
 generalize det Z X b = v' at *
 generalize det Y Z a = u at *
 generalize det Y Z b = u' at *
 rcases Int.lt_trichotomy (key X) (key Y) with h | h | h
 ·obtain ⟨a1, a2⟩ := zIe hD (show 0 < key Y - key X by omega) ea;obtain ⟨b1, b2⟩ := zIe hD (show 0 < key Y - key X by omega) eb;omega
 ·exact absurd h hk
 ·obtain ⟨a1, a2⟩ := zIe (al := -(key a - key X)) (v := v) hD (show 0 < -(key Y - key X) by omega) (by grind);obtain ⟨b1, b2⟩ := zIe (al := -(key b - key X)) (v := v') hD (show 0 < -(key Y - key X) by omega) (by grind);omega
theorem zId {a b c d : Pt} (hab : a ≠ b) (h1 : det a b c = 0) (h2 : det a b d = 0) : det c d a = 0 ∧ det c d b = 0 := by
 have hE := EE_pos hab;have e1 := I1 a b c d;have e2 := I2 a b c d;rw [h1, h2] at e1 e2;simp only [Int.mul_zero, Int.zero_mul, Int.sub_zero] at e1 e2;constructor
 ·rcases Int.mul_eq_zero.1 e1 with h | h
  ·omega
  ·exact h
 ·rcases Int.mul_eq_zero.1 e2 with h | h
  ·omega
  ·exact h
theorem fin_lt (sA sB sC sD : Int) : fin sA sB sC sD ≠ 3 := by unfold fin; (repeat' split) <;> omega
theorem meet3 (a b c d : Pt) : meetS a b c d = 3 ↔ Seg2 a b c d ∧ det c d a = 0 ∧ det c d b = 0 ∧ (min (key a) (key b) < max (key c) (key d) ∧ min (key c) (key d) < max (key a) (key b)) := by
 by_cases s : Seg2 a b c d
 ·by_cases h : det a b c = 0 ∧ det a b d = 0
  ·rw [meetS_line s h, mil_key s];obtain ⟨h1, h2⟩ := zId s.nab h.1 h.2;constructor
   ·intro k; split at k
    ·next g => exact ⟨s, h1, h2, g⟩
    ·cases k
   ·rintro ⟨_, _, _, g⟩; rw [if_pos g]
  ·have n1 : ¬ meetS a b c d = 3 := by
     by_cases e : a = c ∨ a = d ∨ b = c ∨ b = d
     ·rw [meetS_end s h e]; decide
     ·rw [meetS_fin s h e]; exact fin_lt _ _ _ _
   constructor
   ·intro k; exact absurd k n1
   ·rintro ⟨_, h1, h2, _⟩;exact absurd (zId s.ncd h1 h2) h
 ·constructor
  ·intro k; rw [zH4 s] at k; cases k
  ·rintro ⟨k, _⟩; exact absurd k s
theorem zKn (T : Tri3) (a b : Pt) : oed T a b = true ↔ meetS a b T.A T.B = 3 ∨ meetS a b T.B T.C = 3 ∨ meetS a b T.C T.A = 3 := by
 unfold oed;simp only [Bool.or_eq_true, beq_iff_eq]
theorem AL.rot {f0 f1 f2 g0 g1 g2 : Int} (h : AL f0 f1 f2 g0 g1 g2) : AL f1 f2 f0 g1 g2 g0 := ⟨h.p1, h.p2, h.p0, h.q12, h.q10, h.q21, h.q20, h.q01, h.q02⟩
theorem AL.rot_iff {f0 f1 f2 g0 g1 g2 : Int} : AL f0 f1 f2 g0 g1 g2 ↔ AL f1 f2 f0 g1 g2 g0 := ⟨AL.rot, fun h => h.rot.rot⟩
theorem zKc {X Y Z a b : Pt} (hD : 0 < det X Y Z) (vX : vld X = true) (vY : vld Y = true) (va : vld a = true) (vb : vld b = true) (nab : a ≠ b) (ha : det X Y a = 0) (hb : det X Y b = 0) :
    (meetS a b X Y = 3 ↔ AL (det X Y a) (det Y Z a) (det Z X a) (det X Y b) (det Y Z b) (det Z X b)) ∧ meetS a b Y Z ≠ 3 ∧ meetS a b Z X ≠ 3 := by
 have nXY : X ≠ Y := fun e => by
  subst e;have : det X X Z = 0 := by unfold det; grind
  omega
 have sa := zC5 X Y Z a;have sb := zC5 X Y Z b;refine ⟨?_, ?_, ?_⟩
 ·rw [meet3];have he := edge_al hD vX vY nXY ha hb;have ht : ¬ (det Y Z a = 0 ∧ det Y Z b = 0) := fun ⟨k1, k2⟩ => by
   refine nab (zHb (A := Y) (B := Z) (C := X) (by rw [zAl]; exact hD) ?_ ?_) <;> omega
  have ht2 : ¬ (det Z X a = 0 ∧ det Z X b = 0) := fun ⟨k1, k2⟩ => by
   refine nab (zHb hD ?_ ?_) <;> omega
  rw [he, ha, hb];generalize det Y Z a = u at *
  generalize det Y Z b = u' at *
  generalize det Z X a = v at *
  generalize det Z X b = v' at *
  constructor
  ·rintro ⟨_, _, _, h1, h2⟩;refine ⟨.inr (.inr ⟨rfl, rfl⟩), ?_, ?_, fun k => absurd k (by omega), fun k => absurd k (by omega), fun _ k => absurd k (by omega), ?_, fun _ k => absurd k (by omega), ?_⟩
   ·unfold PPr; omega
   ·unfold PPr; omega
   ·intro x y;have e : v * u' - u * v' = det X Y Z * (u' - u) := by
     have k1 : v = det X Y Z - u := by omega
     have k2 : v' = det X Y Z - u' := by omega
     rw [k1, k2]; grind
    rw [e]; exact Int.mul_pos hD (by omega)
   ·intro x y;have e : u * v' - v * u' = det X Y Z * (v' - v) := by
     have k1 : u = det X Y Z - v := by omega
     have k2 : u' = det X Y Z - v' := by omega
     rw [k1, k2]; grind
    rw [e]; exact Int.mul_pos hD (by omega)
  ·intro h;have h1 := h.p1;have h2 := h.p2;unfold PPr at h1 h2;refine ⟨⟨va, vb, vX, vY, nab, nXY⟩, rfl, rfl, ?_, ?_⟩ <;> omega
 ·rw [Ne, meet3];rintro ⟨_, k1, k2, _⟩;refine nab (zHb (A := Y) (B := Z) (C := X) (by rw [zAl]; exact hD) ?_ ?_) <;> omega
 ·rw [Ne, meet3];rintro ⟨_, k1, k2, _⟩;refine nab (zHb hD ?_ ?_) <;> omega
theorem alg_main {T : Tri3} {a b : Pt} (hT : valT T = true) (va : vld a = true) (vb : vld b = true) (nab : a ≠ b) : (thr T a b || oed T a b) = sal T a b := by
 rw [Bool.eq_iff_iff, Bool.or_eq_true, zKn, zKj hT va vb, al_iff, edF0, edF1, edF2, edF0, edF1, edF2];obtain ⟨uA, uB, uC, hD⟩ := zDk hT;by_cases l0 : det T.A T.B a = 0 ∧ det T.A T.B b = 0
 ·obtain ⟨h, n1, n2⟩ := zKc hD uA uB va vb nab l0.1 l0.2;rw [← h];constructor
  ·rintro (k | k | k | k)
   ·omega
   ·exact k
   ·exact absurd k n1
   ·exact absurd k n2
  ·intro k; exact .inr (.inl k)
 by_cases l1 : det T.B T.C a = 0 ∧ det T.B T.C b = 0
 ·obtain ⟨h, n1, n2⟩ := zKc (Z := T.A) (by rw [zAl]; exact hD) uB uC va vb nab l1.1 l1.2;rw [AL.rot_iff, ← h];constructor
  ·rintro (k | k | k | k)
   ·omega
   ·exact absurd k n2
   ·exact k
   ·exact absurd k n1
  ·intro k; exact .inr (.inr (.inl k))
 by_cases l2 : det T.C T.A a = 0 ∧ det T.C T.A b = 0
 ·obtain ⟨h, n1, n2⟩ := zKc (Z := T.B) (by rw [zAl, zAl]; exact hD) uC uA va vb nab l2.1 l2.2;rw [AL.rot_iff, AL.rot_iff, ← h];constructor
  ·rintro (k | k | k | k)
   ·omega
   ·exact absurd k n1
   ·exact absurd k n2
   ·exact k
  ·intro k; exact .inr (.inr (.inr k))
 have sf := zC5 T.A T.B T.C a;have sg := zC5 T.A T.B T.C b;have eA := cross_A T.A T.B T.C a b;have eB := cross_B T.A T.B T.C a b;have eC := cross_C T.A T.B T.C a b;constructor
 ·rintro (⟨hp, hn, h0, h1, h2⟩ | h)
  ·exact thr_al hD sf sg eA eB eC hp hn h0 h1 h2
  ·exfalso
   rcases h with h | h | h
   ·obtain ⟨_, k1, k2, _⟩ := (meet3 _ _ _ _).1 h; exact l0 ⟨k1, k2⟩
   ·obtain ⟨_, k1, k2, _⟩ := (meet3 _ _ _ _).1 h; exact l1 ⟨k1, k2⟩
   ·obtain ⟨_, k1, k2, _⟩ := (meet3 _ _ _ _).1 h; exact l2 ⟨k1, k2⟩
 ·intro h;left
  have hs : sal T a b = true := (al_iff T a b).2 h;obtain ⟨r, s, hr, hs, hm⟩ := al_mid hs;have m0 := hm 0 (by omega) l0;have m1 := hm 1 (by omega) l1;have m2 := hm 2 (by omega) l2;rw [edF0, edF0] at m0;rw [edF1, edF1] at m1;rw [edF2, edF2] at m2;clear hm h;have fne : ¬ (det a b T.A = 0 ∧ det a b T.B = 0 ∧ det a b T.C = 0) := by
   rintro ⟨z1, z2, z3⟩;rw [z1] at eA;rw [z2] at eB;rw [z3] at eC;simp only [Int.mul_zero] at eA eB eC;refine nab (zHb hD ?_ ?_)
   ·have e : det T.A T.B T.C * (det T.A T.B a - det T.A T.B b) = 0 := by grind
    rcases Int.mul_eq_zero.1 e with k | k <;> omega
   ·have e : det T.A T.B T.C * (det T.C T.A a - det T.C T.A b) = 0 := by grind
    rcases Int.mul_eq_zero.1 e with k | k <;> omega
  have pf : ∀ {f g : Int}, 0 < r * f + s * g → 0 < f ∨ 0 < g := fun {f g} k => by
   rcases Int.lt_or_le 0 f with hf | hf
   ·exact .inl hf
   ·rcases Int.lt_or_le 0 g with hg | hg
    ·exact .inr hg
    ·have := Int.mul_nonpos_of_nonneg_of_nonpos (show 0 ≤ r by omega) hf;have := Int.mul_nonpos_of_nonneg_of_nonpos (show 0 ≤ s by omega) hg;omega
  have bs := both_signs (x := det a b T.A) (y := det a b T.B) (z := det a b T.C) m1 m2 m0 (by
   have e : det T.A T.B T.C * ((r * det T.B T.C a + s * det T.B T.C b) * det a b T.A + (r * det T.C T.A a + s * det T.C T.A b) * det a b T.B + (r * det T.A T.B a + s * det T.A T.B b) * det a b T.C) = 0 := by grind
   rcases Int.mul_eq_zero.1 e with k | k
   ·omega
   ·exact k) fne
  exact ⟨bs.1, bs.2, pf m0, pf m1, pf m2⟩
theorem alg_eq (T : Tri3) (a b : Pt) : alg T a b = ralg T a b := by
 unfold alg ralg;cases hT : valT T with
 | false => rfl
 | true => cases va : vld a with
  | false => rfl
  | true => cases vb : vld b with
   | false => rfl
   | true =>
    simp only [Bool.true_and];by_cases e : a = b
    ·rw [pp e];simp only [Bool.not_true, Bool.false_and];rw [← Bool.not_eq_true, Bool.or_eq_true, zKj hT va vb, zKn];have hz : ∀ p : Pt, det a b p = 0 := fun p => by rw [e]; unfold det; grind
     have hm : ∀ p q : Pt, meetS a b p q = 0 := fun p q => zH4 (fun s => s.nab e);rw [hz, hz, hz, hm, hm, hm];omega
    ·rw [zBr.2 e];simp only [Bool.not_false, Bool.true_and];exact alg_main hT va vb e
end Go.Proofs.YtmobnmjjmafibaaGreat
namespace Go.Proofs.YtmobnmjjmafibaaGreat
open Go.RowKit Go.Sort
attribute [local go_sem] rOper rAt rUpon cell_set sg_i64 sg_u64 alloc_cell alloc_frozen
attribute [local go_sem 10000] pt_eql pt_neq tri_eql
attribute [local irreducible] rWalk
theorem wk_no (s : Int) (a0 a1 : Option Addr) (n m0 c0 c1 : Nat) (p q : Pt) (hf : (decide (1 ≤ s) && (decide (s ≤ 40) && (decide (n ≤ 25) && decide (m0 ≤ 12)))) = false) (w : World) :
    Calls Tryz.prog 6 #[.int .i64 s, .slice a0 n c0, .slice a1 m0 c1, .agg #[.int .i64 p.x, .int .i64 p.y], .agg #[.int .i64 q.x, .int .i64 q.y]] w fun e w' => e = .returned (.bool true) ∧ Below w.heap.size w w' := by
 have cf := zK1 s a0 a1 n m0 c0 c1;rw [hf] at cf
 go_enter Tryz.func6, Tryz.ntmps6
 go_wp2_with fail;refine zA1 fun W1 hW => ?_;have hw : Below w.heap.size w W1 := by rw [hW]; go_grown
 clear hW;refine (cf _).mono ?_;rintro e w2 ⟨rfl, hb⟩;have hw2 := (upB hw hb);go_wp2_with fail;refine (zHj _).mono ?_;rintro e w3 ⟨rfl, hb3⟩;have hw3 := (upB hw2 hb3);go_wp2
 go_ret
 exact ⟨rfl, hw3⟩
theorem wk_yes (s : Int) (hs : 0 < s) (hs2 : s ≤ 40) (a0 a1 : Option Addr) (n m0 c0 c1 : Nat) (hn : n ≤ 25) (hm : m0 ≤ 12) (P : List Int) (hP : Hid (P.length = n)) (Q : List Pt) (hQ : Hid (Q.length = m0)) (p q : Pt) (w : World) (h0 : RowAt cI 1 w a0 P) (hq0 : RowAt cP 2 w a1 Q) :
    Calls Tryz.prog 6 #[.int .i64 s, .slice a0 n c0, .slice a1 m0 c1, .agg #[.int .i64 p.x, .int .i64 p.y], .agg #[.int .i64 q.x, .int .i64 q.y]] w fun e w' => e = .returned (.bool true) ∧ Below w.heap.size w w' := by
 have cf := zK1 s a0 a1 n m0 c0 c1;rw [show (decide (1 ≤ s) && (decide (s ≤ 40) && (decide (n ≤ 25) && decide (m0 ≤ 12)))) = true by rw [decide_eq_true (by omega : 1 ≤ s), decide_eq_true hs2, decide_eq_true hn, decide_eq_true hm]; rfl] at cf;have cbl := fun w0 k0 k1 => built6w_any s hs (by omega) a0 a1 n m0 c0 c1 P hP (by omega) Q hQ (by omega) w0 k0 k1
 change ∀ (w0 : World) k0 k1, Calls _ _ _ _ (Built6wPost s P w0) at cbl
 have HPn := Lib.hid (show P.length ≤ 25 by rw [hP.out]; exact hn);clear hs hs2 hn hm hP hQ
 go_enter Tryz.func6, Tryz.ntmps6
 go_wp2_with fail;refine zA1 fun W1 hW => ?_;have Bp : Box W1 w.heap.size [.int .i64 p.x, .int .i64 p.y] 30 := by rw [hW]; exact (Box.new rfl).old _
 have Bq : Box W1 (w.heap.size + 1) [.int .i64 q.x, .int .i64 q.y] 30 := by rw [hW]; exact Box.new (by simp)
 have hw : Below w.heap.size w W1 := by rw [hW]; go_grown
 clear hW;refine (cf _).mono ?_;rintro e w2 ⟨rfl, hb⟩;obtain ⟨Bp, Bq, hw, -⟩ := X2 Bp Bq hw hb;clear hb cf;go_wp2_with fail;refine (cbl _ (h0.ee hw) (hq0.ee hw)).mono ?_;rintro e w3 ⟨m2, b2, cb, mb, b, db, v, E2, E, L, D, rfl, B2, H2, g2, S, hI, _, hL, hb, _, _, _, _, _, _⟩;obtain ⟨Bp, Bq, hw, -⟩ := X2 Bp Bq hw hb;have g := hI.good;have hLk : L.length ≤ 52 := by have := HPn.out; omega
 have hE2 : E2.length ≤ 1000000 := by rw [g2.len]; omega
 have hE : E.length ≤ 1000000 := by rw [g.len]; omega
 have lenh : ∀ f : Tri3 → Bool, (srt cmpT (heads f E2)).length ≤ 1000000 := fun f => by rw [(zAg _).length_eq]; exact Nat.le_trans (zBo f E2) hE2
 have same : ∀ f : Tri3 → Bool, srt cmpT (heads f E2) = srt cmpT (heads f E) := fun f => wholeT.srt_of_perm ((zBj g2 f).trans (zBj g f).symm);have c8 := zI6 mb b E p hE;rw [← same] at c8;have c19 := zBn mb b E p hE;rw [← zG0 g2 g p] at c19;unfold starW at c19;have c33 := rtrail_any mb b E p q hE;rw [show (fun T => ralg T p q) = (fun T => alg T p q) from funext fun T => (alg_eq T p q).symm, ← same] at c33;have c39 := zF3 m2 b2 E2 p hE2 (fun T hT => zBk (g2.val T ((zC6 g2).1 hT).1));have c45 := rclosed_any mb b E p hE (fun T hT => zBk (g.val T (by
  have h1 : T ∈ srt cmpT (starE p E) := (zAg (c := cmpT) (starE p E)).mem_iff.2 hT;rw [← zG0 g2 g p] at h1;exact ((zC6 g2).1 h1).1)))
 rw [← closed_same g2 g p] at c45;have hA1 := lenh (fun T => hasP T p);have hA2 := lenh (fun T => isCb p T);have hA3 := lenh (fun T => alg T p q);clear hb cbl hI g g2 hLk hE lenh same;generalize closedW E2 p = cc at *
 have g_pq := J2 Bp.cells Bq.cells;have gc := S.box.cells;go_wp2_with fail;have hcB : ∀ w', (∃ p : Regrown, w' = grow (redrawn w3 p.d) p.os) → Below w3.heap.size w3 w' := fun w' h => by obtain ⟨p, rfl⟩ := h; exact below_regrown _ _ _
 refine FT.wp_region_flow 51 (.run 0 (.run 1 (.run 3 (.run 4 (.run 5 (.run 6 (.run 7 (.alt 2 (.alt 8 (.alt 9 (.run 10 (.run 11 (.run 12 (.run 14 (.run 15 (.run 16 (.run 17 (.run 18 (.alt 13 (.alt 19 (.alt 20 (.run 21 (.run 22 (.run 23 (.run 24 (.run 25 (.run 27 (.run 28 (.run 29 (.run 30 (.run 31 (.run 32 (.alt 26 (.alt 33 (.alt 34 (.run 35 (.run 36 (.run 37 (.run 38 (.run 40 (.run 41 (.run 42 (.run 43 (.run 44 (.alt 39 (.alt 45 (.run 46 (.run 47 (.run 48 (.alt 49 (.run 50 (.tail)) .stop)))) .stop) .stop)))))))))) .stop) .stop) .stop)))))))))))) .stop) .stop) .stop))))))))) .stop) .stop) .stop)))))))) rfl (by kernel_rfl) (fun _ x _ _ _ h => by cases x <;> exact h) (C := fun w' => ∃ p : Regrown, w' = grow (redrawn w3 p.d) p.os) rgB hcB ?_;have hC : ∀ x y, Ext x y → (∃ p : Regrown, x = grow (redrawn w3 p.d) p.os) → (∃ p : Regrown, y = grow (redrawn w3 p.d) p.os) := fun x y h1 h2 => regrown_of_below ((hcB x h2).trans (h1.mono (hcB x h2).size))
 iterate 7 (refine FT.flow_run rfl (fun K hK => ?_); go_simp; first | (refine hK _ ?_; clear hK K) | (apply Exists.intro; refine ⟨fun _ => ?_, hK _ ?_⟩; rotate_left; clear hK K))
 refine FT.flow_at hC rfl trivial (fun v1 hwE K hK => ?_);have hz1 : Below w3.heap.size w3 v1 := hwE;go_simp;refine (zJ7 m2 b2 E2 p hE2 v1 (B2.ee hz1) (H2.ee hz1)).mono ?_;rintro e u1 ⟨x1, y1, rfl, r1, hb⟩;have hz1b : Below w3.heap.size w3 u1 := (upB hz1 hb);clear hwE hb hz1;go_simp;refine hK _ _ (regrown_of_below hz1b) ?_;clear hK K;refine FT.flow_at hC rfl trivial (fun v2 hwE K hK => ?_);have hz2 : Below w3.heap.size w3 v2 := hz1b.trans (Below.mono hwE hz1b.size);replace r1 := r1.ee hwE;go_simp;refine (c8 v2 (S.mesh.ee hz2) (S.map.ee hz2)).mono ?_;rintro e u2 ⟨x2, y2, rfl, r2, hb⟩;replace r1 := r1.ee hb;have hz2b : Below w3.heap.size w3 u2 := (upB hz2 hb);clear hwE hb hz1b hz2;go_simp;refine hK _ _ (regrown_of_below hz2b) ?_;clear hK K;refine FT.flow_at hC rfl trivial (fun v3 hwE K hK => ?_);have hz3 : Below w3.heap.size w3 v3 := hz2b.trans (Below.mono hwE hz2b.size);replace r1 := r1.ee hwE;replace r2 := r2.ee hwE;go_simp;refine (zKb x1 x2 y1 y2 _ _ v3 r1 r2 hA1).mono ?_;rintro e u3 ⟨rfl, hb⟩;replace r1 := r1.ee hb;replace r2 := r2.ee hb;have hz3b : Below w3.heap.size w3 u3 := (upB hz3 hb);clear hwE hb hz2b r1 r2 hz3;go_simp;refine hK _ _ (regrown_of_below hz3b) ?_;clear hK K
 iterate 8 (refine FT.flow_run rfl (fun K hK => ?_); go_simp; first | (refine hK _ ?_; clear hK K) | (apply Exists.intro; refine ⟨fun _ => ?_, hK _ ?_⟩; rotate_left; clear hK K))
 refine FT.flow_at hC rfl trivial (fun v4 hwE K hK => ?_);have hz4 : Below w3.heap.size w3 v4 := hz3b.trans (Below.mono hwE hz3b.size);go_simp;refine (zFx m2 b2 E2 p hE2 v4 (B2.ee hz4) (H2.ee hz4)).mono ?_;rintro e u4 ⟨x3, y3, rfl, r3, hb⟩;have hz4b : Below w3.heap.size w3 u4 := (upB hz4 hb);clear hwE hb hz3b hz4;go_simp;refine hK _ _ (regrown_of_below hz4b) ?_;clear hK K;refine FT.flow_at hC rfl trivial (fun v5 hwE K hK => ?_);have hz5 : Below w3.heap.size w3 v5 := hz4b.trans (Below.mono hwE hz4b.size);replace r3 := r3.ee hwE;go_simp;refine (c19 v5 (S.mesh.ee hz5) (S.map.ee hz5)).mono ?_;rintro e u5 ⟨x4, y4, rfl, r4, hb⟩;replace r3 := r3.ee hb;have hz5b : Below w3.heap.size w3 u5 := (upB hz5 hb);clear hwE hb hz4b hz5;go_simp;refine hK _ _ (regrown_of_below hz5b) ?_;clear hK K;refine FT.flow_at hC rfl trivial (fun v6 hwE K hK => ?_);have hz6 : Below w3.heap.size w3 v6 := hz5b.trans (Below.mono hwE hz5b.size);replace r3 := r3.ee hwE;replace r4 := r4.ee hwE;go_simp;refine (zKb x3 x4 y3 y4 _ _ v6 r3 r4 hA2).mono ?_;rintro e u6 ⟨rfl, hb⟩;replace r3 := r3.ee hb;replace r4 := r4.ee hb;have hz6b : Below w3.heap.size w3 u6 := (upB hz6 hb);clear hwE hb hz5b r3 r4 hz6;go_simp;refine hK _ _ (regrown_of_below hz6b) ?_;clear hK K
 iterate 11 (refine FT.flow_run rfl (fun K hK => ?_); go_simp; first | (refine hK _ ?_; clear hK K) | (apply Exists.intro; refine ⟨fun _ => ?_, hK _ ?_⟩; rotate_left; clear hK K))
 refine FT.flow_at hC rfl trivial (fun v7 hwE K hK => ?_);have hz7 : Below w3.heap.size w3 v7 := hz6b.trans (Below.mono hwE hz6b.size);go_simp;refine (zEm m2 b2 E2 p q hE2 v7 (B2.ee hz7) (H2.ee hz7)).mono ?_;rintro e u7 ⟨x5, y5, rfl, r5, hb⟩;have hz7b : Below w3.heap.size w3 u7 := (upB hz7 hb);clear hwE hb hz6b hz7;go_simp;refine hK _ _ (regrown_of_below hz7b) ?_;clear hK K;refine FT.flow_at hC rfl trivial (fun v8 hwE K hK => ?_);have hz8 : Below w3.heap.size w3 v8 := hz7b.trans (Below.mono hwE hz7b.size);replace r5 := r5.ee hwE;go_simp;refine (c33 v8 (S.mesh.ee hz8) (S.map.ee hz8)).mono ?_;rintro e u8 ⟨x6, y6, rfl, r6, hb⟩;replace r5 := r5.ee hb;have hz8b : Below w3.heap.size w3 u8 := (upB hz8 hb);clear hwE hb hz7b hz8;go_simp;refine hK _ _ (regrown_of_below hz8b) ?_;clear hK K;refine FT.flow_at hC rfl trivial (fun v9 hwE K hK => ?_);have hz9 : Below w3.heap.size w3 v9 := hz8b.trans (Below.mono hwE hz8b.size);replace r5 := r5.ee hwE;replace r6 := r6.ee hwE;go_simp;refine (zKb x5 x6 y5 y6 _ _ v9 r5 r6 hA3).mono ?_;rintro e u9 ⟨rfl, hb⟩;replace r5 := r5.ee hb;replace r6 := r6.ee hb;have hz9b : Below w3.heap.size w3 u9 := (upB hz9 hb);clear hwE hb hz8b r5 r6 hz9;go_simp;refine hK _ _ (regrown_of_below hz9b) ?_;clear hK K
 iterate 9 (refine FT.flow_run rfl (fun K hK => ?_); go_simp; first | (refine hK _ ?_; clear hK K) | (apply Exists.intro; refine ⟨fun _ => ?_, hK _ ?_⟩; rotate_left; clear hK K))
 refine FT.flow_at hC rfl trivial (fun v10 hwE K hK => ?_);have hz10 : Below w3.heap.size w3 v10 := hz9b.trans (Below.mono hwE hz9b.size);go_simp;refine (c39 v10 (B2.ee hz10) (H2.ee hz10)).mono ?_;rintro e u10 ⟨rfl, hb⟩;have hz10b : Below w3.heap.size w3 u10 := (upB hz10 hb);clear hwE hb hz9b hz10;go_simp;refine hK _ _ (regrown_of_below hz10b) ?_;clear hK K;refine FT.flow_at hC rfl trivial (fun v11 hwE K hK => ?_);have hz11 : Below w3.heap.size w3 v11 := hz10b.trans (Below.mono hwE hz10b.size);go_simp;refine (c45 v11 (S.mesh.ee hz11) (S.map.ee hz11)).mono ?_;rintro e u11 ⟨rfl, hb⟩;have hz11b : Below w3.heap.size w3 u11 := (upB hz11 hb);clear hwE hb hz10b hz11;go_simp;refine hK _ _ (regrown_of_below hz11b) ?_;clear hK K
 iterate 3 (refine FT.flow_run rfl (fun K hK => ?_); go_simp; first | (refine hK _ ?_; clear hK K) | (apply Exists.intro; refine ⟨fun _ => ?_, hK _ ?_⟩; rotate_left; clear hK K))
 refine FT.flow_at hC rfl trivial (fun v12 hwE K hK => ?_);have hz12 : Below w3.heap.size w3 v12 := hz11b.trans (Below.mono hwE hz11b.size);go_simp;refine (zHj v12).mono ?_;rintro e u12 ⟨rfl, hb⟩;have hz12b : Below w3.heap.size w3 u12 := (upB hz12 hb);clear hwE hb hz11b hz12;go_simp;refine hK _ _ (regrown_of_below hz12b) ?_;clear hK K
 iterate 1 (refine FT.flow_run rfl (fun K hK => ?_); go_simp; first | (refine hK _ ?_; clear hK K) | (apply Exists.intro; refine ⟨fun _ => ?_, hK _ ?_⟩; rotate_left; clear hK K))
 intro w77 hw77;have hz : Below w3.heap.size w3 w77 := hz12b.trans (Below.mono hw77 hz12b.size);have hwz := (upB hw hz);clear hw77 hz hz12b hcB hC;simp only [dP1, dP0];go_wp2
 go_ret
 exact ⟨rfl, hwz⟩
end Go.Proofs.YtmobnmjjmafibaaGreat
namespace Go.Proofs.YtmobnmjjmafibaaGreat
open Go.RowKit Go.Sort Go.ChangeShapes Go.WideShapes Go.ChangeAt
section
variable {H : Type} {enc : TypeId × Value → H} {w : World} {base : Nat → Bool} {spare : Bool}
theorem pt_trod {b0 : Nat} {a b : Int} (wa : (Lit.int .i64 a).wf = true) (wb : (Lit.int .i64 b).wf = true) :
    ∃ n, DataW.trod enc Tryz.prog w b0 base spare (n + 1) 30 [.int .i64 a, .int .i64 b] = some (.agg [.lit (.int .i64 a), .lit (.int .i64 b)], []) := by
 refine ⟨_, trod_struct2_mk (n := 1) (y0 := (.lit (.int .i64 a), [])) (y1 := (.lit (.int .i64 b), [])) Tryz.underlying30 (by kernel_rfl) ?_ ?_⟩
 ·rw [show Tryz.prog.cellsOf 3 = 1 by kernel_rfl]; simp [DataW.trod, Tryz.underlying3, wa]
 ·rw [show Tryz.prog.cellsOf 3 = 1 by kernel_rfl]; simp [DataW.trod, Tryz.underlying3, wb]
end
section
variable {H : Type} {enc : TypeId × Value → H} {w : World} {base : Nat → Bool} {spare : Bool}
theorem shut_pt {b0 : Nat} {x y : Int} (wx : (Lit.int .i64 x).wf = true) (wy : (Lit.int .i64 y).wf = true) : DataW.Trod enc Tryz.prog w b0 base spare 30 (.agg #[.int .i64 x, .int .i64 y]) (.agg [.lit (.int .i64 x), .lit (.int .i64 y)]) [] := by
 obtain ⟨n, hn⟩ := pt_trod (enc := enc) (w := w) (b0 := b0) (base := base) (spare := spare) wx wy;exact ⟨n + 1, by simpa [Value.cells] using hn⟩
instance : Inhabited Tri3 := ⟨⟨⟨0, 0⟩, ⟨0, 0⟩, ⟨0, 0⟩⟩⟩
end
end Go.Proofs.YtmobnmjjmafibaaGreat
