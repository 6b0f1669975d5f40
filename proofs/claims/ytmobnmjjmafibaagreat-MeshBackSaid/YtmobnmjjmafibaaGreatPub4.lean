/- Put together: MesU, TrC, CdtB, MesG, RegD, CmpD, TrD. -/
import Derived.Test.YtmobnmjjmafibaaGreatRows
import Derived.Test.YtmobnmjjmafibaaGreatPub3
import Derived.Test.YtmobnmjjmafibaaGreatPub0
import Derived.WalkKit
import Derived.WalkSpells
import Derived.WalkLawsBesides
import Derived.Laws.Externs
import Derived.Deep.QuietTactic
import Derived.BigQuiet
import Derived.Lib.Hide
import Derived.Handy
import Derived.LoopN
import Derived.RegionTactic
import Derived.Deep.Draws
import Derived.Sort.Grow
set_option maxRecDepth 100000
set_option maxHeartbeats 8000000
namespace Go.Proofs.YtmobnmjjmafibaaGreat
open Go.RowKit Go.Sort
attribute [local go_sem] rOper rAt rUpon cell_set sg_i64 sg_u64 alloc_cell alloc_frozen
attribute [local go_sem 10000] pt_eql pt_neq tri_eql
attribute [local irreducible] rWalk
def apx (T : Tri3) (a b : Pt) : Pt := if peqI T.A.x T.A.y a.x a.y = false ∧ peqI T.A.x T.A.y b.x b.y = false then T.A else if peqI T.B.x T.B.y a.x a.y = false ∧ peqI T.B.x T.B.y b.x b.y = false then T.B else T.C
theorem cor_0 (T : Tri3) (w : World) : Calls Tryz.prog 117 #[.agg #[.int .i64 T.A.x, .int .i64 T.A.y, .int .i64 T.B.x, .int .i64 T.B.y, .int .i64 T.C.x, .int .i64 T.C.y], .int .i64 0] w fun e w' => e = .returned (.agg #[.int .i64 T.A.x, .int .i64 T.A.y]) ∧ Below w.heap.size w w' := zDv T 0 w
theorem cor_1 (T : Tri3) (w : World) : Calls Tryz.prog 117 #[.agg #[.int .i64 T.A.x, .int .i64 T.A.y, .int .i64 T.B.x, .int .i64 T.B.y, .int .i64 T.C.x, .int .i64 T.C.y], .int .i64 1] w fun e w' => e = .returned (.agg #[.int .i64 T.B.x, .int .i64 T.B.y]) ∧ Below w.heap.size w w' := zDv T 1 w
theorem apex_0 (T : Tri3) (a b : Pt) (ha0 : peqI T.A.x T.A.y a.x a.y = false) (hb0 : peqI T.A.x T.A.y b.x b.y = false) (w : World) :
    Calls Tryz.prog 76 #[.agg #[.int .i64 T.A.x, .int .i64 T.A.y, .int .i64 T.B.x, .int .i64 T.B.y, .int .i64 T.C.x, .int .i64 T.C.y], .agg #[.int .i64 a.x, .int .i64 a.y], .agg #[.int .i64 b.x, .int .i64 b.y]] w fun e w' => e = .returned (.agg #[.int .i64 T.A.x, .int .i64 T.A.y]) ∧ Below w.heap.size w w' := by
 have cc0 := cor_0 T
 go_enter Tryz.func76, Tryz.ntmps76
 go_wp2_with fail
 refine zA2 fun W1 hW => ?_
 have Bt : Box W1 (w.heap.size) [.int .i64 T.A.x, .int .i64 T.A.y, .int .i64 T.B.x, .int .i64 T.B.y, .int .i64 T.C.x, .int .i64 T.C.y] 38 := by rw [hW]; exact (((Box.new rfl).old _).old _).old _
 have Ba : Box W1 (w.heap.size + 1) [.int .i64 a.x, .int .i64 a.y] 30 := by rw [hW]; exact ((Box.new (by simp)).old _).old _
 have Bb : Box W1 (w.heap.size + 1 + 1) [.int .i64 b.x, .int .i64 b.y] 30 := by rw [hW]; exact (Box.new (by simp)).old _
 have Br : Box W1 (w.heap.size + 1 + 1 + 1) [.int .i64 0, .int .i64 0] 30 := by rw [hW]; exact Box.new (by simp)
 have hw : Below w.heap.size w W1 := by rw [hW]; go_grown
 clear hW
 refine wp_loop_rounds 4 ?_
 try rw [rounds_succ]
 obtain ⟨xt, yt, zt, vt⟩ := Bt.f
 obtain ⟨xa, ya, za, va⟩ := Ba.f
 obtain ⟨xb, yb, zb, vb⟩ := Bb.f
 obtain ⟨xr, yr, zr, vr⟩ := Br.f
 go_wp2_with fail
 refine (cc0 _).mono ?_
 rintro e w2 ⟨rfl, hb⟩
 clear xt yt zt vt xa ya za va xb yb zb vb xr yr zr vr
 replace Bt := Bt.ee hb
 replace Ba := Ba.ee hb
 replace Bb := Bb.ee hb
 replace Br := Br.ee hb
 replace hw := upB hw hb
 clear hb
 obtain ⟨xt, yt, zt, vt⟩ := Bt.f
 obtain ⟨xa, ya, za, va⟩ := Ba.f
 obtain ⟨xb, yb, zb, vb⟩ := Bb.f
 obtain ⟨xr, yr, zr, vr⟩ := Br.f
 go_wp2_with fail
 refine bodyPost_ret (v := .agg #[.int .i64 T.A.x, .int .i64 T.A.y]) (by simp [results, Tryz.results76, go_sem, xr, zr]) rfl ⟨rfl, by have hl := hw.size; go_grown⟩
theorem apex_10 (T : Tri3) (a b : Pt) (ha0 : peqI T.A.x T.A.y a.x a.y = true) (ha1 : peqI T.B.x T.B.y a.x a.y = false) (hb1 : peqI T.B.x T.B.y b.x b.y = false) (w : World) :
    Calls Tryz.prog 76 #[.agg #[.int .i64 T.A.x, .int .i64 T.A.y, .int .i64 T.B.x, .int .i64 T.B.y, .int .i64 T.C.x, .int .i64 T.C.y], .agg #[.int .i64 a.x, .int .i64 a.y], .agg #[.int .i64 b.x, .int .i64 b.y]] w fun e w' => e = .returned (.agg #[.int .i64 T.B.x, .int .i64 T.B.y]) ∧ Below w.heap.size w w' := by
 have cc0 := cor_0 T
 have cc1 := cor_1 T
 go_enter Tryz.func76, Tryz.ntmps76
 go_wp2_with fail
 refine zA2 fun W1 hW => ?_
 have Bt : Box W1 (w.heap.size) [.int .i64 T.A.x, .int .i64 T.A.y, .int .i64 T.B.x, .int .i64 T.B.y, .int .i64 T.C.x, .int .i64 T.C.y] 38 := by rw [hW]; exact (((Box.new rfl).old _).old _).old _
 have Ba : Box W1 (w.heap.size + 1) [.int .i64 a.x, .int .i64 a.y] 30 := by rw [hW]; exact ((Box.new (by simp)).old _).old _
 have Bb : Box W1 (w.heap.size + 1 + 1) [.int .i64 b.x, .int .i64 b.y] 30 := by rw [hW]; exact (Box.new (by simp)).old _
 have Br : Box W1 (w.heap.size + 1 + 1 + 1) [.int .i64 0, .int .i64 0] 30 := by rw [hW]; exact Box.new (by simp)
 have hw : Below w.heap.size w W1 := by rw [hW]; go_grown
 clear hW
 refine wp_loop_rounds 4 ?_
 try rw [rounds_succ]
 obtain ⟨xt, yt, zt, vt⟩ := Bt.f
 obtain ⟨xa, ya, za, va⟩ := Ba.f
 obtain ⟨xb, yb, zb, vb⟩ := Bb.f
 obtain ⟨xr, yr, zr, vr⟩ := Br.f
 go_wp2_with fail
 refine (cc0 _).mono ?_
 rintro e w2 ⟨rfl, hb⟩
 clear xt yt zt vt xa ya za va xb yb zb vb xr yr zr vr
 replace Bt := Bt.ee hb
 replace Ba := Ba.ee hb
 replace Bb := Bb.ee hb
 replace Br := Br.ee hb
 replace hw := upB hw hb
 clear hb
 obtain ⟨xt, yt, zt, vt⟩ := Bt.f
 obtain ⟨xa, ya, za, va⟩ := Ba.f
 obtain ⟨xb, yb, zb, vb⟩ := Bb.f
 obtain ⟨xr, yr, zr, vr⟩ := Br.f
 go_wp2_with fail
 clear xt yt zt vt xa ya za va xb yb zb vb xr yr zr vr
 refine zA2 fun W3 hW => ?_
 obtain ⟨bkp0, hbp0⟩ : ∃ b, w2.heap.size = b := ⟨_, rfl⟩
 rw [hbp0]
 have ltp0 := Bt.lt
 rw [hbp0] at ltp0
 have lap0 := Ba.lt
 rw [hbp0] at lap0
 have lbp0 := Bb.lt
 rw [hbp0] at lbp0
 have lrp0 := Br.lt
 rw [hbp0] at lrp0
 have fp0 := hw.size
 rw [hbp0] at fp0
 have Bp0 : Box W3 bkp0 [.int .i64 T.A.x, .int .i64 T.A.y] 30 := by rw [hW]; exact Box.new hbp0.symm
 replace Bt : Box W3 (w.heap.size) [.int .i64 T.A.x, .int .i64 T.A.y, .int .i64 T.B.x, .int .i64 T.B.y, .int .i64 T.C.x, .int .i64 T.C.y] 38 := by rw [hW]; exact Bt.old _
 replace Ba : Box W3 (w.heap.size + 1) [.int .i64 a.x, .int .i64 a.y] 30 := by rw [hW]; exact Ba.old _
 replace Bb : Box W3 (w.heap.size + 1 + 1) [.int .i64 b.x, .int .i64 b.y] 30 := by rw [hW]; exact Bb.old _
 replace Br : Box W3 (w.heap.size + 1 + 1 + 1) [.int .i64 0, .int .i64 0] 30 := by rw [hW]; exact Br.old _
 replace hw : Below w.heap.size w W3 := by have hl := hw.size; rw [hW]; go_grown
 clear hW hbp0
 obtain ⟨xt, yt, zt, vt⟩ := Bt.f
 obtain ⟨xa, ya, za, va⟩ := Ba.f
 obtain ⟨xb, yb, zb, vb⟩ := Bb.f
 obtain ⟨xr, yr, zr, vr⟩ := Br.f
 obtain ⟨xp0, yp0, zp0, vp0⟩ := Bp0.f
 go_wp2_with fail
 clear xt yt zt vt xa ya za va xb yb zb vb xr yr zr vr xp0 yp0 zp0 vp0
 try rw [rounds_succ]
 obtain ⟨xt, yt, zt, vt⟩ := Bt.f
 obtain ⟨xa, ya, za, va⟩ := Ba.f
 obtain ⟨xb, yb, zb, vb⟩ := Bb.f
 obtain ⟨xr, yr, zr, vr⟩ := Br.f
 obtain ⟨xp0, yp0, zp0, vp0⟩ := Bp0.f
 go_wp2_with fail
 refine (cc1 _).mono ?_
 rintro e w4 ⟨rfl, hb⟩
 clear xt yt zt vt xa ya za va xb yb zb vb xr yr zr vr xp0 yp0 zp0 vp0
 replace Bt := Bt.ee hb
 replace Ba := Ba.ee hb
 replace Bb := Bb.ee hb
 replace Br := Br.ee hb
 replace Bp0 := Bp0.ee hb
 replace hw := upB hw hb
 clear hb
 obtain ⟨xt, yt, zt, vt⟩ := Bt.f
 obtain ⟨xa, ya, za, va⟩ := Ba.f
 obtain ⟨xb, yb, zb, vb⟩ := Bb.f
 obtain ⟨xr, yr, zr, vr⟩ := Br.f
 obtain ⟨xp0, yp0, zp0, vp0⟩ := Bp0.f
 go_wp2_with fail
 refine bodyPost_ret (v := .agg #[.int .i64 T.B.x, .int .i64 T.B.y]) (by simp [results, Tryz.results76, go_sem, xr, zr]) rfl ⟨rfl, by have hl := hw.size; go_grown⟩
theorem apex_11 (T : Tri3) (a b : Pt) (ha0 : peqI T.A.x T.A.y a.x a.y = true) (ha1 : peqI T.B.x T.B.y a.x a.y = true) (w : World) :
    Calls Tryz.prog 76 #[.agg #[.int .i64 T.A.x, .int .i64 T.A.y, .int .i64 T.B.x, .int .i64 T.B.y, .int .i64 T.C.x, .int .i64 T.C.y], .agg #[.int .i64 a.x, .int .i64 a.y], .agg #[.int .i64 b.x, .int .i64 b.y]] w fun e w' => e = .returned (.agg #[.int .i64 T.C.x, .int .i64 T.C.y]) ∧ Below w.heap.size w w' := by
 have cc0 := cor_0 T
 have cc1 := cor_1 T
 go_enter Tryz.func76, Tryz.ntmps76
 go_wp2_with fail
 refine zA2 fun W1 hW => ?_
 have Bt : Box W1 (w.heap.size) [.int .i64 T.A.x, .int .i64 T.A.y, .int .i64 T.B.x, .int .i64 T.B.y, .int .i64 T.C.x, .int .i64 T.C.y] 38 := by rw [hW]; exact (((Box.new rfl).old _).old _).old _
 have Ba : Box W1 (w.heap.size + 1) [.int .i64 a.x, .int .i64 a.y] 30 := by rw [hW]; exact ((Box.new (by simp)).old _).old _
 have Bb : Box W1 (w.heap.size + 1 + 1) [.int .i64 b.x, .int .i64 b.y] 30 := by rw [hW]; exact (Box.new (by simp)).old _
 have Br : Box W1 (w.heap.size + 1 + 1 + 1) [.int .i64 0, .int .i64 0] 30 := by rw [hW]; exact Box.new (by simp)
 have hw : Below w.heap.size w W1 := by rw [hW]; go_grown
 clear hW
 refine wp_loop_rounds 4 ?_
 try rw [rounds_succ]
 have Ft := Bt.f
 have Fa := Ba.f
 have Fb := Bb.f
 have Fr := Br.f
 go_wp2_with fail
 refine (cc0 _).mono ?_
 rintro e w2 ⟨rfl, hb⟩
 clear Ft Fa Fb Fr
 replace Bt := Bt.ee hb
 replace Ba := Ba.ee hb
 replace Bb := Bb.ee hb
 replace Br := Br.ee hb
 replace hw := upB hw hb
 clear hb
 have Ft := Bt.f
 have Fa := Ba.f
 have Fb := Bb.f
 have Fr := Br.f
 go_wp2_with fail
 clear Ft Fa Fb Fr
 refine zA2 fun W3 hW => ?_
 obtain ⟨bkp0, hbp0⟩ : ∃ b, w2.heap.size = b := ⟨_, rfl⟩
 rw [hbp0]
 have ltp0 := Bt.lt
 rw [hbp0] at ltp0
 have lap0 := Ba.lt
 rw [hbp0] at lap0
 have lbp0 := Bb.lt
 rw [hbp0] at lbp0
 have lrp0 := Br.lt
 rw [hbp0] at lrp0
 have fp0 := hw.size
 rw [hbp0] at fp0
 have Bp0 : Box W3 bkp0 [.int .i64 T.A.x, .int .i64 T.A.y] 30 := by rw [hW]; exact Box.new hbp0.symm
 replace Bt : Box W3 (w.heap.size) [.int .i64 T.A.x, .int .i64 T.A.y, .int .i64 T.B.x, .int .i64 T.B.y, .int .i64 T.C.x, .int .i64 T.C.y] 38 := by rw [hW]; exact Bt.old _
 replace Ba : Box W3 (w.heap.size + 1) [.int .i64 a.x, .int .i64 a.y] 30 := by rw [hW]; exact Ba.old _
 replace Bb : Box W3 (w.heap.size + 1 + 1) [.int .i64 b.x, .int .i64 b.y] 30 := by rw [hW]; exact Bb.old _
 replace Br : Box W3 (w.heap.size + 1 + 1 + 1) [.int .i64 0, .int .i64 0] 30 := by rw [hW]; exact Br.old _
 replace hw : Below w.heap.size w W3 := by have hl := hw.size; rw [hW]; go_grown
 clear hW hbp0
 have Ft := Bt.f
 have Fa := Ba.f
 have Fb := Bb.f
 have Fr := Br.f
 have Fp0 := Bp0.f
 go_wp2_with fail
 clear Ft Fa Fb Fr Fp0
 try rw [rounds_succ]
 have Ft := Bt.f
 have Fa := Ba.f
 have Fb := Bb.f
 have Fr := Br.f
 have Fp0 := Bp0.f
 go_wp2_with fail
 refine (cc1 _).mono ?_
 rintro e w4 ⟨rfl, hb⟩
 clear Ft Fa Fb Fr Fp0
 replace Bt := Bt.ee hb
 replace Ba := Ba.ee hb
 replace Bb := Bb.ee hb
 replace Br := Br.ee hb
 replace Bp0 := Bp0.ee hb
 replace hw := upB hw hb
 clear hb
 have Ft := Bt.f
 have Fa := Ba.f
 have Fb := Bb.f
 have Fr := Br.f
 have Fp0 := Bp0.f
 go_wp2_with fail
 clear Ft Fa Fb Fr Fp0
 refine zA2 fun W5 hW => ?_
 obtain ⟨bkp1, hbp1⟩ : ∃ b, w4.heap.size = b := ⟨_, rfl⟩
 rw [hbp1]
 have ltp1 := Bt.lt
 rw [hbp1] at ltp1
 have lap1 := Ba.lt
 rw [hbp1] at lap1
 have lbp1 := Bb.lt
 rw [hbp1] at lbp1
 have lrp1 := Br.lt
 rw [hbp1] at lrp1
 have lp0p1 := Bp0.lt
 rw [hbp1] at lp0p1
 have fp1 := hw.size
 rw [hbp1] at fp1
 have Bp1 : Box W5 bkp1 [.int .i64 T.B.x, .int .i64 T.B.y] 30 := by rw [hW]; exact Box.new hbp1.symm
 replace Bt : Box W5 (w.heap.size) [.int .i64 T.A.x, .int .i64 T.A.y, .int .i64 T.B.x, .int .i64 T.B.y, .int .i64 T.C.x, .int .i64 T.C.y] 38 := by rw [hW]; exact Bt.old _
 replace Ba : Box W5 (w.heap.size + 1) [.int .i64 a.x, .int .i64 a.y] 30 := by rw [hW]; exact Ba.old _
 replace Bb : Box W5 (w.heap.size + 1 + 1) [.int .i64 b.x, .int .i64 b.y] 30 := by rw [hW]; exact Bb.old _
 replace Br : Box W5 (w.heap.size + 1 + 1 + 1) [.int .i64 0, .int .i64 0] 30 := by rw [hW]; exact Br.old _
 replace Bp0 : Box W5 (bkp0) [.int .i64 T.A.x, .int .i64 T.A.y] 30 := by rw [hW]; exact Bp0.old _
 replace hw : Below w.heap.size w W5 := by have hl := hw.size; rw [hW]; go_grown
 clear hW hbp1
 have Ft := Bt.f
 have Fa := Ba.f
 have Fb := Bb.f
 have Fr := Br.f
 have Fp0 := Bp0.f
 have Fp1 := Bp1.f
 go_wp2_with fail
 clear Ft Fa Fb Fr Fp0 Fp1
 try rw [rounds_succ]
 have Ft := Bt.f
 have Fa := Ba.f
 have Fb := Bb.f
 have Fr := Br.f
 have Fp0 := Bp0.f
 have Fp1 := Bp1.f
 go_wp2_with fail
 refine bodyPost_ret (v := .agg #[.int .i64 T.C.x, .int .i64 T.C.y]) (by simp [results, Tryz.results76, go_sem, Fr]) rfl ⟨rfl, by have hl := hw.size; go_grown⟩
theorem apex_12 (T : Tri3) (a b : Pt) (ha0 : peqI T.A.x T.A.y a.x a.y = true) (ha1 : peqI T.B.x T.B.y a.x a.y = false) (hb1 : peqI T.B.x T.B.y b.x b.y = true) (w : World) :
    Calls Tryz.prog 76 #[.agg #[.int .i64 T.A.x, .int .i64 T.A.y, .int .i64 T.B.x, .int .i64 T.B.y, .int .i64 T.C.x, .int .i64 T.C.y], .agg #[.int .i64 a.x, .int .i64 a.y], .agg #[.int .i64 b.x, .int .i64 b.y]] w fun e w' => e = .returned (.agg #[.int .i64 T.C.x, .int .i64 T.C.y]) ∧ Below w.heap.size w w' := by
 have cc0 := cor_0 T
 have cc1 := cor_1 T
 go_enter Tryz.func76, Tryz.ntmps76
 go_wp2_with fail
 refine zA2 fun W1 hW => ?_
 have Bt : Box W1 (w.heap.size) [.int .i64 T.A.x, .int .i64 T.A.y, .int .i64 T.B.x, .int .i64 T.B.y, .int .i64 T.C.x, .int .i64 T.C.y] 38 := by rw [hW]; exact (((Box.new rfl).old _).old _).old _
 have Ba : Box W1 (w.heap.size + 1) [.int .i64 a.x, .int .i64 a.y] 30 := by rw [hW]; exact ((Box.new (by simp)).old _).old _
 have Bb : Box W1 (w.heap.size + 1 + 1) [.int .i64 b.x, .int .i64 b.y] 30 := by rw [hW]; exact (Box.new (by simp)).old _
 have Br : Box W1 (w.heap.size + 1 + 1 + 1) [.int .i64 0, .int .i64 0] 30 := by rw [hW]; exact Box.new (by simp)
 have hw : Below w.heap.size w W1 := by rw [hW]; go_grown
 clear hW
 refine wp_loop_rounds 4 ?_
 try rw [rounds_succ]
 have Ft := Bt.f
 have Fa := Ba.f
 have Fb := Bb.f
 have Fr := Br.f
 go_wp2_with fail
 refine (cc0 _).mono ?_
 rintro e w2 ⟨rfl, hb⟩
 clear Ft Fa Fb Fr
 replace Bt := Bt.ee hb
 replace Ba := Ba.ee hb
 replace Bb := Bb.ee hb
 replace Br := Br.ee hb
 replace hw := upB hw hb
 clear hb
 have Ft := Bt.f
 have Fa := Ba.f
 have Fb := Bb.f
 have Fr := Br.f
 go_wp2_with fail
 clear Ft Fa Fb Fr
 refine zA2 fun W3 hW => ?_
 obtain ⟨bkp0, hbp0⟩ : ∃ b, w2.heap.size = b := ⟨_, rfl⟩
 rw [hbp0]
 have ltp0 := Bt.lt
 rw [hbp0] at ltp0
 have lap0 := Ba.lt
 rw [hbp0] at lap0
 have lbp0 := Bb.lt
 rw [hbp0] at lbp0
 have lrp0 := Br.lt
 rw [hbp0] at lrp0
 have fp0 := hw.size
 rw [hbp0] at fp0
 have Bp0 : Box W3 bkp0 [.int .i64 T.A.x, .int .i64 T.A.y] 30 := by rw [hW]; exact Box.new hbp0.symm
 replace Bt : Box W3 (w.heap.size) [.int .i64 T.A.x, .int .i64 T.A.y, .int .i64 T.B.x, .int .i64 T.B.y, .int .i64 T.C.x, .int .i64 T.C.y] 38 := by rw [hW]; exact Bt.old _
 replace Ba : Box W3 (w.heap.size + 1) [.int .i64 a.x, .int .i64 a.y] 30 := by rw [hW]; exact Ba.old _
 replace Bb : Box W3 (w.heap.size + 1 + 1) [.int .i64 b.x, .int .i64 b.y] 30 := by rw [hW]; exact Bb.old _
 replace Br : Box W3 (w.heap.size + 1 + 1 + 1) [.int .i64 0, .int .i64 0] 30 := by rw [hW]; exact Br.old _
 replace hw : Below w.heap.size w W3 := by have hl := hw.size; rw [hW]; go_grown
 clear hW hbp0
 have Ft := Bt.f
 have Fa := Ba.f
 have Fb := Bb.f
 have Fr := Br.f
 have Fp0 := Bp0.f
 go_wp2_with fail
 clear Ft Fa Fb Fr Fp0
 try rw [rounds_succ]
 have Ft := Bt.f
 have Fa := Ba.f
 have Fb := Bb.f
 have Fr := Br.f
 have Fp0 := Bp0.f
 go_wp2_with fail
 refine (cc1 _).mono ?_
 rintro e w4 ⟨rfl, hb⟩
 clear Ft Fa Fb Fr Fp0
 replace Bt := Bt.ee hb
 replace Ba := Ba.ee hb
 replace Bb := Bb.ee hb
 replace Br := Br.ee hb
 replace Bp0 := Bp0.ee hb
 replace hw := upB hw hb
 clear hb
 have Ft := Bt.f
 have Fa := Ba.f
 have Fb := Bb.f
 have Fr := Br.f
 have Fp0 := Bp0.f
 go_wp2_with fail
 clear Ft Fa Fb Fr Fp0
 refine zA2 fun W5 hW => ?_
 obtain ⟨bkp1, hbp1⟩ : ∃ b, w4.heap.size = b := ⟨_, rfl⟩
 rw [hbp1]
 have ltp1 := Bt.lt
 rw [hbp1] at ltp1
 have lap1 := Ba.lt
 rw [hbp1] at lap1
 have lbp1 := Bb.lt
 rw [hbp1] at lbp1
 have lrp1 := Br.lt
 rw [hbp1] at lrp1
 have lp0p1 := Bp0.lt
 rw [hbp1] at lp0p1
 have fp1 := hw.size
 rw [hbp1] at fp1
 have Bp1 : Box W5 bkp1 [.int .i64 T.B.x, .int .i64 T.B.y] 30 := by rw [hW]; exact Box.new hbp1.symm
 replace Bt : Box W5 (w.heap.size) [.int .i64 T.A.x, .int .i64 T.A.y, .int .i64 T.B.x, .int .i64 T.B.y, .int .i64 T.C.x, .int .i64 T.C.y] 38 := by rw [hW]; exact Bt.old _
 replace Ba : Box W5 (w.heap.size + 1) [.int .i64 a.x, .int .i64 a.y] 30 := by rw [hW]; exact Ba.old _
 replace Bb : Box W5 (w.heap.size + 1 + 1) [.int .i64 b.x, .int .i64 b.y] 30 := by rw [hW]; exact Bb.old _
 replace Br : Box W5 (w.heap.size + 1 + 1 + 1) [.int .i64 0, .int .i64 0] 30 := by rw [hW]; exact Br.old _
 replace Bp0 : Box W5 (bkp0) [.int .i64 T.A.x, .int .i64 T.A.y] 30 := by rw [hW]; exact Bp0.old _
 replace hw : Below w.heap.size w W5 := by have hl := hw.size; rw [hW]; go_grown
 clear hW hbp1
 have Ft := Bt.f
 have Fa := Ba.f
 have Fb := Bb.f
 have Fr := Br.f
 have Fp0 := Bp0.f
 have Fp1 := Bp1.f
 go_wp2_with fail
 clear Ft Fa Fb Fr Fp0 Fp1
 try rw [rounds_succ]
 have Ft := Bt.f
 have Fa := Ba.f
 have Fb := Bb.f
 have Fr := Br.f
 have Fp0 := Bp0.f
 have Fp1 := Bp1.f
 go_wp2_with fail
 refine bodyPost_ret (v := .agg #[.int .i64 T.C.x, .int .i64 T.C.y]) (by simp [results, Tryz.results76, go_sem, Fr]) rfl ⟨rfl, by have hl := hw.size; go_grown⟩
theorem apex_20 (T : Tri3) (a b : Pt) (ha0 : peqI T.A.x T.A.y a.x a.y = false) (hb0 : peqI T.A.x T.A.y b.x b.y = true) (ha1 : peqI T.B.x T.B.y a.x a.y = false) (hb1 : peqI T.B.x T.B.y b.x b.y = false) (w : World) :
    Calls Tryz.prog 76 #[.agg #[.int .i64 T.A.x, .int .i64 T.A.y, .int .i64 T.B.x, .int .i64 T.B.y, .int .i64 T.C.x, .int .i64 T.C.y], .agg #[.int .i64 a.x, .int .i64 a.y], .agg #[.int .i64 b.x, .int .i64 b.y]] w fun e w' => e = .returned (.agg #[.int .i64 T.B.x, .int .i64 T.B.y]) ∧ Below w.heap.size w w' := by
 have cc0 := cor_0 T
 have cc1 := cor_1 T
 go_enter Tryz.func76, Tryz.ntmps76
 go_wp2_with fail
 refine zA2 fun W1 hW => ?_
 have Bt : Box W1 (w.heap.size) [.int .i64 T.A.x, .int .i64 T.A.y, .int .i64 T.B.x, .int .i64 T.B.y, .int .i64 T.C.x, .int .i64 T.C.y] 38 := by rw [hW]; exact (((Box.new rfl).old _).old _).old _
 have Ba : Box W1 (w.heap.size + 1) [.int .i64 a.x, .int .i64 a.y] 30 := by rw [hW]; exact ((Box.new (by simp)).old _).old _
 have Bb : Box W1 (w.heap.size + 1 + 1) [.int .i64 b.x, .int .i64 b.y] 30 := by rw [hW]; exact (Box.new (by simp)).old _
 have Br : Box W1 (w.heap.size + 1 + 1 + 1) [.int .i64 0, .int .i64 0] 30 := by rw [hW]; exact Box.new (by simp)
 have hw : Below w.heap.size w W1 := by rw [hW]; go_grown
 clear hW
 refine wp_loop_rounds 4 ?_
 try rw [rounds_succ]
 obtain ⟨xt, yt, zt, vt⟩ := Bt.f
 obtain ⟨xa, ya, za, va⟩ := Ba.f
 obtain ⟨xb, yb, zb, vb⟩ := Bb.f
 obtain ⟨xr, yr, zr, vr⟩ := Br.f
 go_wp2_with fail
 refine (cc0 _).mono ?_
 rintro e w2 ⟨rfl, hb⟩
 clear xt yt zt vt xa ya za va xb yb zb vb xr yr zr vr
 replace Bt := Bt.ee hb
 replace Ba := Ba.ee hb
 replace Bb := Bb.ee hb
 replace Br := Br.ee hb
 replace hw := upB hw hb
 clear hb
 obtain ⟨xt, yt, zt, vt⟩ := Bt.f
 obtain ⟨xa, ya, za, va⟩ := Ba.f
 obtain ⟨xb, yb, zb, vb⟩ := Bb.f
 obtain ⟨xr, yr, zr, vr⟩ := Br.f
 go_wp2_with fail
 clear xt yt zt vt xa ya za va xb yb zb vb xr yr zr vr
 refine zA2 fun W3 hW => ?_
 obtain ⟨bkp0, hbp0⟩ : ∃ b, w2.heap.size = b := ⟨_, rfl⟩
 rw [hbp0]
 have ltp0 := Bt.lt
 rw [hbp0] at ltp0
 have lap0 := Ba.lt
 rw [hbp0] at lap0
 have lbp0 := Bb.lt
 rw [hbp0] at lbp0
 have lrp0 := Br.lt
 rw [hbp0] at lrp0
 have fp0 := hw.size
 rw [hbp0] at fp0
 have Bp0 : Box W3 bkp0 [.int .i64 T.A.x, .int .i64 T.A.y] 30 := by rw [hW]; exact Box.new hbp0.symm
 replace Bt : Box W3 (w.heap.size) [.int .i64 T.A.x, .int .i64 T.A.y, .int .i64 T.B.x, .int .i64 T.B.y, .int .i64 T.C.x, .int .i64 T.C.y] 38 := by rw [hW]; exact Bt.old _
 replace Ba : Box W3 (w.heap.size + 1) [.int .i64 a.x, .int .i64 a.y] 30 := by rw [hW]; exact Ba.old _
 replace Bb : Box W3 (w.heap.size + 1 + 1) [.int .i64 b.x, .int .i64 b.y] 30 := by rw [hW]; exact Bb.old _
 replace Br : Box W3 (w.heap.size + 1 + 1 + 1) [.int .i64 0, .int .i64 0] 30 := by rw [hW]; exact Br.old _
 replace hw : Below w.heap.size w W3 := by have hl := hw.size; rw [hW]; go_grown
 clear hW hbp0
 obtain ⟨xt, yt, zt, vt⟩ := Bt.f
 obtain ⟨xa, ya, za, va⟩ := Ba.f
 obtain ⟨xb, yb, zb, vb⟩ := Bb.f
 obtain ⟨xr, yr, zr, vr⟩ := Br.f
 obtain ⟨xp0, yp0, zp0, vp0⟩ := Bp0.f
 go_wp2_with fail
 clear xt yt zt vt xa ya za va xb yb zb vb xr yr zr vr xp0 yp0 zp0 vp0
 try rw [rounds_succ]
 obtain ⟨xt, yt, zt, vt⟩ := Bt.f
 obtain ⟨xa, ya, za, va⟩ := Ba.f
 obtain ⟨xb, yb, zb, vb⟩ := Bb.f
 obtain ⟨xr, yr, zr, vr⟩ := Br.f
 obtain ⟨xp0, yp0, zp0, vp0⟩ := Bp0.f
 go_wp2_with fail
 refine (cc1 _).mono ?_
 rintro e w4 ⟨rfl, hb⟩
 clear xt yt zt vt xa ya za va xb yb zb vb xr yr zr vr xp0 yp0 zp0 vp0
 replace Bt := Bt.ee hb
 replace Ba := Ba.ee hb
 replace Bb := Bb.ee hb
 replace Br := Br.ee hb
 replace Bp0 := Bp0.ee hb
 replace hw := upB hw hb
 clear hb
 obtain ⟨xt, yt, zt, vt⟩ := Bt.f
 obtain ⟨xa, ya, za, va⟩ := Ba.f
 obtain ⟨xb, yb, zb, vb⟩ := Bb.f
 obtain ⟨xr, yr, zr, vr⟩ := Br.f
 obtain ⟨xp0, yp0, zp0, vp0⟩ := Bp0.f
 go_wp2_with fail
 refine bodyPost_ret (v := .agg #[.int .i64 T.B.x, .int .i64 T.B.y]) (by simp [results, Tryz.results76, go_sem, xr, zr]) rfl ⟨rfl, by have hl := hw.size; go_grown⟩
theorem apex_21 (T : Tri3) (a b : Pt) (ha0 : peqI T.A.x T.A.y a.x a.y = false) (hb0 : peqI T.A.x T.A.y b.x b.y = true) (ha1 : peqI T.B.x T.B.y a.x a.y = true) (w : World) :
    Calls Tryz.prog 76 #[.agg #[.int .i64 T.A.x, .int .i64 T.A.y, .int .i64 T.B.x, .int .i64 T.B.y, .int .i64 T.C.x, .int .i64 T.C.y], .agg #[.int .i64 a.x, .int .i64 a.y], .agg #[.int .i64 b.x, .int .i64 b.y]] w fun e w' => e = .returned (.agg #[.int .i64 T.C.x, .int .i64 T.C.y]) ∧ Below w.heap.size w w' := by
 have cc0 := cor_0 T
 have cc1 := cor_1 T
 go_enter Tryz.func76, Tryz.ntmps76
 go_wp2_with fail
 refine zA2 fun W1 hW => ?_
 have Bt : Box W1 (w.heap.size) [.int .i64 T.A.x, .int .i64 T.A.y, .int .i64 T.B.x, .int .i64 T.B.y, .int .i64 T.C.x, .int .i64 T.C.y] 38 := by rw [hW]; exact (((Box.new rfl).old _).old _).old _
 have Ba : Box W1 (w.heap.size + 1) [.int .i64 a.x, .int .i64 a.y] 30 := by rw [hW]; exact ((Box.new (by simp)).old _).old _
 have Bb : Box W1 (w.heap.size + 1 + 1) [.int .i64 b.x, .int .i64 b.y] 30 := by rw [hW]; exact (Box.new (by simp)).old _
 have Br : Box W1 (w.heap.size + 1 + 1 + 1) [.int .i64 0, .int .i64 0] 30 := by rw [hW]; exact Box.new (by simp)
 have hw : Below w.heap.size w W1 := by rw [hW]; go_grown
 clear hW
 refine wp_loop_rounds 4 ?_
 try rw [rounds_succ]
 have Ft := Bt.f
 have Fa := Ba.f
 have Fb := Bb.f
 have Fr := Br.f
 go_wp2_with fail
 refine (cc0 _).mono ?_
 rintro e w2 ⟨rfl, hb⟩
 clear Ft Fa Fb Fr
 replace Bt := Bt.ee hb
 replace Ba := Ba.ee hb
 replace Bb := Bb.ee hb
 replace Br := Br.ee hb
 replace hw := upB hw hb
 clear hb
 have Ft := Bt.f
 have Fa := Ba.f
 have Fb := Bb.f
 have Fr := Br.f
 go_wp2_with fail
 clear Ft Fa Fb Fr
 refine zA2 fun W3 hW => ?_
 obtain ⟨bkp0, hbp0⟩ : ∃ b, w2.heap.size = b := ⟨_, rfl⟩
 rw [hbp0]
 have ltp0 := Bt.lt
 rw [hbp0] at ltp0
 have lap0 := Ba.lt
 rw [hbp0] at lap0
 have lbp0 := Bb.lt
 rw [hbp0] at lbp0
 have lrp0 := Br.lt
 rw [hbp0] at lrp0
 have fp0 := hw.size
 rw [hbp0] at fp0
 have Bp0 : Box W3 bkp0 [.int .i64 T.A.x, .int .i64 T.A.y] 30 := by rw [hW]; exact Box.new hbp0.symm
 replace Bt : Box W3 (w.heap.size) [.int .i64 T.A.x, .int .i64 T.A.y, .int .i64 T.B.x, .int .i64 T.B.y, .int .i64 T.C.x, .int .i64 T.C.y] 38 := by rw [hW]; exact Bt.old _
 replace Ba : Box W3 (w.heap.size + 1) [.int .i64 a.x, .int .i64 a.y] 30 := by rw [hW]; exact Ba.old _
 replace Bb : Box W3 (w.heap.size + 1 + 1) [.int .i64 b.x, .int .i64 b.y] 30 := by rw [hW]; exact Bb.old _
 replace Br : Box W3 (w.heap.size + 1 + 1 + 1) [.int .i64 0, .int .i64 0] 30 := by rw [hW]; exact Br.old _
 replace hw : Below w.heap.size w W3 := by have hl := hw.size; rw [hW]; go_grown
 clear hW hbp0
 have Ft := Bt.f
 have Fa := Ba.f
 have Fb := Bb.f
 have Fr := Br.f
 have Fp0 := Bp0.f
 go_wp2_with fail
 clear Ft Fa Fb Fr Fp0
 try rw [rounds_succ]
 have Ft := Bt.f
 have Fa := Ba.f
 have Fb := Bb.f
 have Fr := Br.f
 have Fp0 := Bp0.f
 go_wp2_with fail
 refine (cc1 _).mono ?_
 rintro e w4 ⟨rfl, hb⟩
 clear Ft Fa Fb Fr Fp0
 replace Bt := Bt.ee hb
 replace Ba := Ba.ee hb
 replace Bb := Bb.ee hb
 replace Br := Br.ee hb
 replace Bp0 := Bp0.ee hb
 replace hw := upB hw hb
 clear hb
 have Ft := Bt.f
 have Fa := Ba.f
 have Fb := Bb.f
 have Fr := Br.f
 have Fp0 := Bp0.f
 go_wp2_with fail
 clear Ft Fa Fb Fr Fp0
 refine zA2 fun W5 hW => ?_
 obtain ⟨bkp1, hbp1⟩ : ∃ b, w4.heap.size = b := ⟨_, rfl⟩
 rw [hbp1]
 have ltp1 := Bt.lt
 rw [hbp1] at ltp1
 have lap1 := Ba.lt
 rw [hbp1] at lap1
 have lbp1 := Bb.lt
 rw [hbp1] at lbp1
 have lrp1 := Br.lt
 rw [hbp1] at lrp1
 have lp0p1 := Bp0.lt
 rw [hbp1] at lp0p1
 have fp1 := hw.size
 rw [hbp1] at fp1
 have Bp1 : Box W5 bkp1 [.int .i64 T.B.x, .int .i64 T.B.y] 30 := by rw [hW]; exact Box.new hbp1.symm
 replace Bt : Box W5 (w.heap.size) [.int .i64 T.A.x, .int .i64 T.A.y, .int .i64 T.B.x, .int .i64 T.B.y, .int .i64 T.C.x, .int .i64 T.C.y] 38 := by rw [hW]; exact Bt.old _
 replace Ba : Box W5 (w.heap.size + 1) [.int .i64 a.x, .int .i64 a.y] 30 := by rw [hW]; exact Ba.old _
 replace Bb : Box W5 (w.heap.size + 1 + 1) [.int .i64 b.x, .int .i64 b.y] 30 := by rw [hW]; exact Bb.old _
 replace Br : Box W5 (w.heap.size + 1 + 1 + 1) [.int .i64 0, .int .i64 0] 30 := by rw [hW]; exact Br.old _
 replace Bp0 : Box W5 (bkp0) [.int .i64 T.A.x, .int .i64 T.A.y] 30 := by rw [hW]; exact Bp0.old _
 replace hw : Below w.heap.size w W5 := by have hl := hw.size; rw [hW]; go_grown
 clear hW hbp1
 have Ft := Bt.f
 have Fa := Ba.f
 have Fb := Bb.f
 have Fr := Br.f
 have Fp0 := Bp0.f
 have Fp1 := Bp1.f
 go_wp2_with fail
 clear Ft Fa Fb Fr Fp0 Fp1
 try rw [rounds_succ]
 have Ft := Bt.f
 have Fa := Ba.f
 have Fb := Bb.f
 have Fr := Br.f
 have Fp0 := Bp0.f
 have Fp1 := Bp1.f
 go_wp2_with fail
 refine bodyPost_ret (v := .agg #[.int .i64 T.C.x, .int .i64 T.C.y]) (by simp [results, Tryz.results76, go_sem, Fr]) rfl ⟨rfl, by have hl := hw.size; go_grown⟩
theorem apex_22 (T : Tri3) (a b : Pt) (ha0 : peqI T.A.x T.A.y a.x a.y = false) (hb0 : peqI T.A.x T.A.y b.x b.y = true) (ha1 : peqI T.B.x T.B.y a.x a.y = false) (hb1 : peqI T.B.x T.B.y b.x b.y = true) (w : World) :
    Calls Tryz.prog 76 #[.agg #[.int .i64 T.A.x, .int .i64 T.A.y, .int .i64 T.B.x, .int .i64 T.B.y, .int .i64 T.C.x, .int .i64 T.C.y], .agg #[.int .i64 a.x, .int .i64 a.y], .agg #[.int .i64 b.x, .int .i64 b.y]] w fun e w' => e = .returned (.agg #[.int .i64 T.C.x, .int .i64 T.C.y]) ∧ Below w.heap.size w w' := by
 have cc0 := cor_0 T
 have cc1 := cor_1 T
 go_enter Tryz.func76, Tryz.ntmps76
 go_wp2_with fail
 refine zA2 fun W1 hW => ?_
 have Bt : Box W1 (w.heap.size) [.int .i64 T.A.x, .int .i64 T.A.y, .int .i64 T.B.x, .int .i64 T.B.y, .int .i64 T.C.x, .int .i64 T.C.y] 38 := by rw [hW]; exact (((Box.new rfl).old _).old _).old _
 have Ba : Box W1 (w.heap.size + 1) [.int .i64 a.x, .int .i64 a.y] 30 := by rw [hW]; exact ((Box.new (by simp)).old _).old _
 have Bb : Box W1 (w.heap.size + 1 + 1) [.int .i64 b.x, .int .i64 b.y] 30 := by rw [hW]; exact (Box.new (by simp)).old _
 have Br : Box W1 (w.heap.size + 1 + 1 + 1) [.int .i64 0, .int .i64 0] 30 := by rw [hW]; exact Box.new (by simp)
 have hw : Below w.heap.size w W1 := by rw [hW]; go_grown
 clear hW
 refine wp_loop_rounds 4 ?_
 try rw [rounds_succ]
 have Ft := Bt.f
 have Fa := Ba.f
 have Fb := Bb.f
 have Fr := Br.f
 go_wp2_with fail
 refine (cc0 _).mono ?_
 rintro e w2 ⟨rfl, hb⟩
 clear Ft Fa Fb Fr
 replace Bt := Bt.ee hb
 replace Ba := Ba.ee hb
 replace Bb := Bb.ee hb
 replace Br := Br.ee hb
 replace hw := upB hw hb
 clear hb
 have Ft := Bt.f
 have Fa := Ba.f
 have Fb := Bb.f
 have Fr := Br.f
 go_wp2_with fail
 clear Ft Fa Fb Fr
 refine zA2 fun W3 hW => ?_
 obtain ⟨bkp0, hbp0⟩ : ∃ b, w2.heap.size = b := ⟨_, rfl⟩
 rw [hbp0]
 have ltp0 := Bt.lt
 rw [hbp0] at ltp0
 have lap0 := Ba.lt
 rw [hbp0] at lap0
 have lbp0 := Bb.lt
 rw [hbp0] at lbp0
 have lrp0 := Br.lt
 rw [hbp0] at lrp0
 have fp0 := hw.size
 rw [hbp0] at fp0
 have Bp0 : Box W3 bkp0 [.int .i64 T.A.x, .int .i64 T.A.y] 30 := by rw [hW]; exact Box.new hbp0.symm
 replace Bt : Box W3 (w.heap.size) [.int .i64 T.A.x, .int .i64 T.A.y, .int .i64 T.B.x, .int .i64 T.B.y, .int .i64 T.C.x, .int .i64 T.C.y] 38 := by rw [hW]; exact Bt.old _
 replace Ba : Box W3 (w.heap.size + 1) [.int .i64 a.x, .int .i64 a.y] 30 := by rw [hW]; exact Ba.old _
 replace Bb : Box W3 (w.heap.size + 1 + 1) [.int .i64 b.x, .int .i64 b.y] 30 := by rw [hW]; exact Bb.old _
 replace Br : Box W3 (w.heap.size + 1 + 1 + 1) [.int .i64 0, .int .i64 0] 30 := by rw [hW]; exact Br.old _
 replace hw : Below w.heap.size w W3 := by have hl := hw.size; rw [hW]; go_grown
 clear hW hbp0
 have Ft := Bt.f
 have Fa := Ba.f
 have Fb := Bb.f
 have Fr := Br.f
 have Fp0 := Bp0.f
 go_wp2_with fail
 clear Ft Fa Fb Fr Fp0
 try rw [rounds_succ]
 have Ft := Bt.f
 have Fa := Ba.f
 have Fb := Bb.f
 have Fr := Br.f
 have Fp0 := Bp0.f
 go_wp2_with fail
 refine (cc1 _).mono ?_
 rintro e w4 ⟨rfl, hb⟩
 clear Ft Fa Fb Fr Fp0
 replace Bt := Bt.ee hb
 replace Ba := Ba.ee hb
 replace Bb := Bb.ee hb
 replace Br := Br.ee hb
 replace Bp0 := Bp0.ee hb
 replace hw := upB hw hb
 clear hb
 have Ft := Bt.f
 have Fa := Ba.f
 have Fb := Bb.f
 have Fr := Br.f
 have Fp0 := Bp0.f
 go_wp2_with fail
 clear Ft Fa Fb Fr Fp0
 refine zA2 fun W5 hW => ?_
 obtain ⟨bkp1, hbp1⟩ : ∃ b, w4.heap.size = b := ⟨_, rfl⟩
 rw [hbp1]
 have ltp1 := Bt.lt
 rw [hbp1] at ltp1
 have lap1 := Ba.lt
 rw [hbp1] at lap1
 have lbp1 := Bb.lt
 rw [hbp1] at lbp1
 have lrp1 := Br.lt
 rw [hbp1] at lrp1
 have lp0p1 := Bp0.lt
 rw [hbp1] at lp0p1
 have fp1 := hw.size
 rw [hbp1] at fp1
 have Bp1 : Box W5 bkp1 [.int .i64 T.B.x, .int .i64 T.B.y] 30 := by rw [hW]; exact Box.new hbp1.symm
 replace Bt : Box W5 (w.heap.size) [.int .i64 T.A.x, .int .i64 T.A.y, .int .i64 T.B.x, .int .i64 T.B.y, .int .i64 T.C.x, .int .i64 T.C.y] 38 := by rw [hW]; exact Bt.old _
 replace Ba : Box W5 (w.heap.size + 1) [.int .i64 a.x, .int .i64 a.y] 30 := by rw [hW]; exact Ba.old _
 replace Bb : Box W5 (w.heap.size + 1 + 1) [.int .i64 b.x, .int .i64 b.y] 30 := by rw [hW]; exact Bb.old _
 replace Br : Box W5 (w.heap.size + 1 + 1 + 1) [.int .i64 0, .int .i64 0] 30 := by rw [hW]; exact Br.old _
 replace Bp0 : Box W5 (bkp0) [.int .i64 T.A.x, .int .i64 T.A.y] 30 := by rw [hW]; exact Bp0.old _
 replace hw : Below w.heap.size w W5 := by have hl := hw.size; rw [hW]; go_grown
 clear hW hbp1
 have Ft := Bt.f
 have Fa := Ba.f
 have Fb := Bb.f
 have Fr := Br.f
 have Fp0 := Bp0.f
 have Fp1 := Bp1.f
 go_wp2_with fail
 clear Ft Fa Fb Fr Fp0 Fp1
 try rw [rounds_succ]
 have Ft := Bt.f
 have Fa := Ba.f
 have Fb := Bb.f
 have Fr := Br.f
 have Fp0 := Bp0.f
 have Fp1 := Bp1.f
 go_wp2_with fail
 refine bodyPost_ret (v := .agg #[.int .i64 T.C.x, .int .i64 T.C.y]) (by simp [results, Tryz.results76, go_sem, Fr]) rfl ⟨rfl, by have hl := hw.size; go_grown⟩
theorem zIl : Tryz.prog.underlying 91 = some (.array 3 30) := by kernel_rfl
theorem idx_0 (a b c d e f : Value) (w : World) : (Instr.index 91 (.agg #[a, b, c, d, e, f]) (.int .i64 0)).run Tryz.prog w = .ok (.agg #[a, b]) w := by
 simp [Instr.index, run_underlying zIl, asIntOf, part, go_sem]
theorem idx_1 (a b c d e f : Value) (w : World) : (Instr.index 91 (.agg #[a, b, c, d, e, f]) (.int .i64 1)).run Tryz.prog w = .ok (.agg #[c, d]) w := by
 simp [Instr.index, run_underlying zIl, asIntOf, part, go_sem]
theorem idx_2 (a b c d e f : Value) (w : World) : (Instr.index 91 (.agg #[a, b, c, d, e, f]) (.int .i64 2)).run Tryz.prog w = .ok (.agg #[e, f]) w := by
 simp [Instr.index, run_underlying zIl, asIntOf, part, go_sem]
attribute [local go_sem 10000] idx_0 idx_1 idx_2
theorem rcorner_0 (T : Tri3) (i : Int) (h : plc i = 0) (w : World) :
    Calls Tryz.prog 23 #[.agg #[.int .i64 T.A.x, .int .i64 T.A.y, .int .i64 T.B.x, .int .i64 T.B.y, .int .i64 T.C.x, .int .i64 T.C.y], .int .i64 i] w fun e w' => e = .returned (.agg #[.int .i64 T.A.x, .int .i64 T.A.y]) ∧ Below w.heap.size w w' := by
 have e := zG1 i
 rw [h] at e
 have e2 : (IntKind.i64.wrap (i.tmod 3 + 3)).tmod 3 = 0 := by rw [← e, IntKind.wrap_i64, w64]
 clear h
 go_enter Tryz.func23, Tryz.ntmps23
 go_wp2_with fail
 refine bodyPost_ret (v := .agg #[.int .i64 T.A.x, .int .i64 T.A.y]) (by simp [results, Tryz.results23, go_sem]) rfl ⟨rfl, by go_grown⟩
theorem rcorner_1 (T : Tri3) (i : Int) (h : plc i = 1) (w : World) :
    Calls Tryz.prog 23 #[.agg #[.int .i64 T.A.x, .int .i64 T.A.y, .int .i64 T.B.x, .int .i64 T.B.y, .int .i64 T.C.x, .int .i64 T.C.y], .int .i64 i] w fun e w' => e = .returned (.agg #[.int .i64 T.B.x, .int .i64 T.B.y]) ∧ Below w.heap.size w w' := by
 have e := zG1 i
 rw [h] at e
 have e2 : (IntKind.i64.wrap (i.tmod 3 + 3)).tmod 3 = 1 := by rw [← e, IntKind.wrap_i64, w64]
 clear h
 go_enter Tryz.func23, Tryz.ntmps23
 go_wp2_with fail
 refine bodyPost_ret (v := .agg #[.int .i64 T.B.x, .int .i64 T.B.y]) (by simp [results, Tryz.results23, go_sem]) rfl ⟨rfl, by go_grown⟩
theorem rcorner_2 (T : Tri3) (i : Int) (h : plc i = 2) (w : World) :
    Calls Tryz.prog 23 #[.agg #[.int .i64 T.A.x, .int .i64 T.A.y, .int .i64 T.B.x, .int .i64 T.B.y, .int .i64 T.C.x, .int .i64 T.C.y], .int .i64 i] w fun e w' => e = .returned (.agg #[.int .i64 T.C.x, .int .i64 T.C.y]) ∧ Below w.heap.size w w' := by
 have e := zG1 i
 rw [h] at e
 have e2 : (IntKind.i64.wrap (i.tmod 3 + 3)).tmod 3 = 2 := by rw [← e, IntKind.wrap_i64, w64]
 clear h
 go_enter Tryz.func23, Tryz.ntmps23
 go_wp2_with fail
 refine bodyPost_ret (v := .agg #[.int .i64 T.C.x, .int .i64 T.C.y]) (by simp [results, Tryz.results23, go_sem]) rfl ⟨rfl, by go_grown⟩
theorem zAj (T : Tri3) (i : Int) (w : World) :
    Calls Tryz.prog 23 #[.agg #[.int .i64 T.A.x, .int .i64 T.A.y, .int .i64 T.B.x, .int .i64 T.B.y, .int .i64 T.C.x, .int .i64 T.C.y], .int .i64 i] w fun e w' => e = .returned (.agg #[.int .i64 (crn T i).x, .int .i64 (crn T i).y]) ∧ Below w.heap.size w w' := by
 rcases zG0 i with h | h | h
 ·rw [show crn T i = T.A by unfold crn; simp [h]]; exact rcorner_0 T i h w
 ·rw [show crn T i = T.B by unfold crn; simp [h]]; exact rcorner_1 T i h w
 ·rw [show crn T i = T.C by unfold crn; simp [h]]; exact rcorner_2 T i h w
def cmpT (S T : Tri3) : Int := if cmpP S.A T.A ≠ 0 then cmpP S.A T.A else if cmpP S.B T.B ≠ 0 then cmpP S.B T.B else cmpP S.C T.C
theorem rcmpT_0 (S T : Tri3) (h0 : ¬ cmpP S.A T.A = 0) (w : World) :
    Calls Tryz.prog 51 #[.agg #[.int .i64 S.A.x, .int .i64 S.A.y, .int .i64 S.B.x, .int .i64 S.B.y, .int .i64 S.C.x, .int .i64 S.C.y], .agg #[.int .i64 T.A.x, .int .i64 T.A.y, .int .i64 T.B.x, .int .i64 T.B.y, .int .i64 T.C.x, .int .i64 T.C.y]] w fun e w' => e = .returned (.int .i64 (cmpP S.A T.A)) ∧ Below w.heap.size w w' := by
 have c1 := zAb S.A T.A
 have hd : (cmpP S.A T.A == 0) = false := by simpa using h0
 clear h0
 generalize cmpP S.A T.A = n at *
 go_enter Tryz.func51, Tryz.ntmps51
 go_wp2_with fail
 refine zA1 fun W1 hW => ?_
 have Bs : Box W1 (w.heap.size) [.int .i64 S.A.x, .int .i64 S.A.y, .int .i64 S.B.x, .int .i64 S.B.y, .int .i64 S.C.x, .int .i64 S.C.y] 38 := by rw [hW]; exact (Box.new rfl).old _
 have Bt : Box W1 (w.heap.size + 1) [.int .i64 T.A.x, .int .i64 T.A.y, .int .i64 T.B.x, .int .i64 T.B.y, .int .i64 T.C.x, .int .i64 T.C.y] 38 := by rw [hW]; exact Box.new (by simp)
 have hw : Below w.heap.size w W1 := by rw [hW]; go_grown
 clear hW
 refine (c1 _).mono ?_
 rintro e w2 ⟨rfl, hb⟩
 replace Bs := Bs.ee hb
 replace Bt := Bt.ee hb
 replace hw := upB hw hb
 clear hb
 have F_st := J2 Bs.f Bt.f
 go_wp2
 go_ret
 exact ⟨rfl, by have hl := hw.size; go_grown⟩
theorem rcmpT_1 (S T : Tri3) (h0 : cmpP S.A T.A = 0) (h1 : ¬ cmpP S.B T.B = 0) (w : World) :
    Calls Tryz.prog 51 #[.agg #[.int .i64 S.A.x, .int .i64 S.A.y, .int .i64 S.B.x, .int .i64 S.B.y, .int .i64 S.C.x, .int .i64 S.C.y], .agg #[.int .i64 T.A.x, .int .i64 T.A.y, .int .i64 T.B.x, .int .i64 T.B.y, .int .i64 T.C.x, .int .i64 T.C.y]] w fun e w' => e = .returned (.int .i64 (cmpP S.B T.B)) ∧ Below w.heap.size w w' := by
 have c1 := zAb S.A T.A
 have c2 := zAb S.B T.B
 rw [h0] at c1
 have hd : (cmpP S.B T.B == 0) = false := by simpa using h1
 clear h0 h1
 generalize cmpP S.B T.B = n at *
 go_enter Tryz.func51, Tryz.ntmps51
 go_wp2_with fail
 refine zA1 fun W1 hW => ?_
 have Bs : Box W1 (w.heap.size) [.int .i64 S.A.x, .int .i64 S.A.y, .int .i64 S.B.x, .int .i64 S.B.y, .int .i64 S.C.x, .int .i64 S.C.y] 38 := by rw [hW]; exact (Box.new rfl).old _
 have Bt : Box W1 (w.heap.size + 1) [.int .i64 T.A.x, .int .i64 T.A.y, .int .i64 T.B.x, .int .i64 T.B.y, .int .i64 T.C.x, .int .i64 T.C.y] 38 := by rw [hW]; exact Box.new (by simp)
 have hw : Below w.heap.size w W1 := by rw [hW]; go_grown
 clear hW
 refine (c1 _).mono ?_
 rintro e w2 ⟨rfl, hb⟩
 replace Bs := Bs.ee hb
 replace Bt := Bt.ee hb
 replace hw := upB hw hb
 clear hb
 have F_st := J2 Bs.f Bt.f
 go_wp2_with fail
 refine (c2 _).mono ?_
 rintro e w3 ⟨rfl, hb⟩
 clear F_st
 replace Bs := Bs.ee hb
 replace Bt := Bt.ee hb
 replace hw := upB hw hb
 clear hb
 have F_st := J2 Bs.f Bt.f
 go_wp2
 go_ret
 exact ⟨rfl, by have hl := hw.size; go_grown⟩
theorem rcmpT_2 (S T : Tri3) (h0 : cmpP S.A T.A = 0) (h1 : cmpP S.B T.B = 0) (w : World) :
    Calls Tryz.prog 51 #[.agg #[.int .i64 S.A.x, .int .i64 S.A.y, .int .i64 S.B.x, .int .i64 S.B.y, .int .i64 S.C.x, .int .i64 S.C.y], .agg #[.int .i64 T.A.x, .int .i64 T.A.y, .int .i64 T.B.x, .int .i64 T.B.y, .int .i64 T.C.x, .int .i64 T.C.y]] w fun e w' => e = .returned (.int .i64 (cmpP S.C T.C)) ∧ Below w.heap.size w w' := by
 have c1 := zAb S.A T.A
 have c2 := zAb S.B T.B
 have c3 := zAb S.C T.C
 rw [h0] at c1
 rw [h1] at c2
 clear h0 h1
 generalize cmpP S.C T.C = n at *
 go_enter Tryz.func51, Tryz.ntmps51
 go_wp2_with fail
 refine zA1 fun W1 hW => ?_
 have Bs : Box W1 (w.heap.size) [.int .i64 S.A.x, .int .i64 S.A.y, .int .i64 S.B.x, .int .i64 S.B.y, .int .i64 S.C.x, .int .i64 S.C.y] 38 := by rw [hW]; exact (Box.new rfl).old _
 have Bt : Box W1 (w.heap.size + 1) [.int .i64 T.A.x, .int .i64 T.A.y, .int .i64 T.B.x, .int .i64 T.B.y, .int .i64 T.C.x, .int .i64 T.C.y] 38 := by rw [hW]; exact Box.new (by simp)
 have hw : Below w.heap.size w W1 := by rw [hW]; go_grown
 clear hW
 refine (c1 _).mono ?_
 rintro e w2 ⟨rfl, hb⟩
 replace Bs := Bs.ee hb
 replace Bt := Bt.ee hb
 replace hw := upB hw hb
 clear hb
 have F_st := J2 Bs.f Bt.f
 go_wp2_with fail
 refine (c2 _).mono ?_
 rintro e w3 ⟨rfl, hb⟩
 clear F_st
 replace Bs := Bs.ee hb
 replace Bt := Bt.ee hb
 replace hw := upB hw hb
 clear hb
 have F_st := J2 Bs.f Bt.f
 go_wp2_with fail
 refine (c3 _).mono ?_
 rintro e w4 ⟨rfl, hb⟩
 clear F_st
 replace Bs := Bs.ee hb
 replace Bt := Bt.ee hb
 replace hw := upB hw hb
 clear hb
 have F_st := J2 Bs.f Bt.f
 go_wp2
 go_ret
 exact ⟨rfl, by have hl := hw.size; go_grown⟩
theorem rcmpT_any (S T : Tri3) (w : World) :
    Calls Tryz.prog 51 #[.agg #[.int .i64 S.A.x, .int .i64 S.A.y, .int .i64 S.B.x, .int .i64 S.B.y, .int .i64 S.C.x, .int .i64 S.C.y], .agg #[.int .i64 T.A.x, .int .i64 T.A.y, .int .i64 T.B.x, .int .i64 T.B.y, .int .i64 T.C.x, .int .i64 T.C.y]] w fun e w' => e = .returned (.int .i64 (cmpT S T)) ∧ Below w.heap.size w w' := by
 by_cases h0 : cmpP S.A T.A = 0
 ·by_cases h1 : cmpP S.B T.B = 0
  ·rw [show cmpT S T = cmpP S.C T.C by unfold cmpT; simp [h0, h1]]; exact rcmpT_2 S T h0 h1 w
  ·rw [show cmpT S T = cmpP S.B T.B by unfold cmpT; simp [h0, h1]]; exact rcmpT_1 S T h0 h1 w
 ·rw [show cmpT S T = cmpP S.A T.A by unfold cmpT; simp [h0]]; exact rcmpT_0 S T h0 w
def or3 (x y z : Int) : Int := if x ≠ 0 then x else if y ≠ 0 then y else z
theorem rtwi_1 (T : Tri3) (h0 : valT T = true) (ha : vld T.A = true) (hb : vld T.B = true) (hc : vld T.C = true) (w : World) :
    Calls Tryz.prog 40 #[.agg #[.int .i64 T.A.x, .int .i64 T.A.y, .int .i64 T.B.x, .int .i64 T.B.y, .int .i64 T.C.x, .int .i64 T.C.y]] w fun e w' => e = .returned (.int .i64 (det T.A T.B T.C)) ∧ Below w.heap.size w w' := by
 have c1 := zC5 T
 have c2 := zCf T.A T.B T.C ha hb hc
 rw [h0] at c1
 clear h0 ha hb hc
 generalize det T.A T.B T.C = n at *
 go_enter Tryz.func40, Tryz.ntmps40
 go_wp2_with fail
 refine zA1 fun W1 hW => ?_
 have Bt : Box W1 (w.heap.size) [.int .i64 T.A.x, .int .i64 T.A.y, .int .i64 T.B.x, .int .i64 T.B.y, .int .i64 T.C.x, .int .i64 T.C.y] 38 := by rw [hW]; exact Box.new rfl
 have hw : Below w.heap.size w W1 := by rw [hW]; go_grown
 clear hW
 refine (c1 _).mono ?_
 rintro e w2 ⟨rfl, hb⟩
 replace Bt := Bt.ee hb
 replace hw := upB hw hb
 clear hb
 have Ft := Bt.f
 go_wp2_with fail
 refine (c2 _).mono ?_
 rintro e w3 ⟨rfl, hb⟩
 clear Ft
 replace Bt := Bt.ee hb
 replace hw := upB hw hb
 clear hb
 have Ft := Bt.f
 go_wp2
 go_ret
 exact ⟨rfl, by have hl := hw.size; go_grown⟩
theorem valT_vld {T : Tri3} (h : valT T = true) : vld T.A = true ∧ vld T.B = true ∧ vld T.C = true := by
 rw [zHb] at h
 unfold valS at h
 simp only [Bool.and_eq_true, decide_eq_true_eq] at h
 exact zCc (by omega)
end Go.Proofs.YtmobnmjjmafibaaGreat
namespace Go.Proofs.YtmobnmjjmafibaaGreat
open Go.RowKit Go.Sort
attribute [local go_sem] rOper rAt rUpon cell_set sg_i64 sg_u64 alloc_cell alloc_frozen
attribute [local go_sem 10000] pt_eql pt_neq tri_eql
attribute [local irreducible] rWalk
theorem zHd (T : Tri3) (w : World) : Calls Tryz.prog 23 #[.agg #[.int .i64 T.A.x, .int .i64 T.A.y, .int .i64 T.B.x, .int .i64 T.B.y, .int .i64 T.C.x, .int .i64 T.C.y], .int .i64 0] w fun e w' => e = .returned (.agg #[.int .i64 T.A.x, .int .i64 T.A.y]) ∧ Below w.heap.size w w' := zAj T 0 w
theorem zIg (T : Tri3) (w : World) : Calls Tryz.prog 23 #[.agg #[.int .i64 T.A.x, .int .i64 T.A.y, .int .i64 T.B.x, .int .i64 T.B.y, .int .i64 T.C.x, .int .i64 T.C.y], .int .i64 1] w fun e w' => e = .returned (.agg #[.int .i64 T.B.x, .int .i64 T.B.y]) ∧ Below w.heap.size w w' := zAj T 1 w
theorem far_0 (T : Tri3) (a b : Pt) (ha0 : peqI T.A.x T.A.y a.x a.y = false) (hb0 : peqI T.A.x T.A.y b.x b.y = false) (w : World) :
    Calls Tryz.prog 84 #[.agg #[.int .i64 T.A.x, .int .i64 T.A.y, .int .i64 T.B.x, .int .i64 T.B.y, .int .i64 T.C.x, .int .i64 T.C.y], .agg #[.int .i64 a.x, .int .i64 a.y], .agg #[.int .i64 b.x, .int .i64 b.y]] w fun e w' => e = .returned (.agg #[.int .i64 T.A.x, .int .i64 T.A.y]) ∧ Below w.heap.size w w' := by
 have cc0 := zHd T
 go_enter Tryz.func84, Tryz.ntmps84
 go_wp2_with fail
 refine zA2 fun W1 hW => ?_
 have Bt : Box W1 (w.heap.size) [.int .i64 T.A.x, .int .i64 T.A.y, .int .i64 T.B.x, .int .i64 T.B.y, .int .i64 T.C.x, .int .i64 T.C.y] 38 := by rw [hW]; exact (((Box.new rfl).old _).old _).old _
 have Ba : Box W1 (w.heap.size + 1) [.int .i64 a.x, .int .i64 a.y] 30 := by rw [hW]; exact ((Box.new (by simp)).old _).old _
 have Bb : Box W1 (w.heap.size + 1 + 1) [.int .i64 b.x, .int .i64 b.y] 30 := by rw [hW]; exact (Box.new (by simp)).old _
 have Br : Box W1 (w.heap.size + 1 + 1 + 1) [.int .i64 0, .int .i64 0] 30 := by rw [hW]; exact Box.new (by simp)
 have hw : Below w.heap.size w W1 := by rw [hW]; go_grown
 clear hW
 refine wp_loop_rounds 4 ?_
 try rw [rounds_succ]
 have Ft := Bt.f
 have Fa := Ba.f
 have Fb := Bb.f
 have Fr := Br.f
 go_wp2_with fail
 have gt := Bt.cells
 have ga := Ba.cells
 have gb := Bb.cells
 have gr := Br.cells
 refine wp_region_tail 11 (by kernel_rfl) (by kernel_rfl) (C := fun w' => ∃ p : Regrown, w' = grow (redrawn W1 p.d) p.os) rgB ?_
 simp only [tK1, tK0, dP1, dP0]
 repeat (first | (refine zA0 (Eq.refl false) ?_; simp only [Act.put, sT2, sT1, sT0]) | (refine rWalk_step (fun K hK => ?_); go_simp; first | (refine hK _ ?_; clear hK K) | (apply Exists.intro; refine ⟨fun _ => ?_, hK _ ?_⟩; (first | with_reducible exact toExt cc0 _); clear hK K)))
 refine rWalk_nil ?_
 intro w2 hb
 clear gt ga gb gr
 clear Ft Fa Fb Fr
 replace Bt := Bt.ee hb
 replace Ba := Ba.ee hb
 replace Bb := Bb.ee hb
 replace Br := Br.ee hb
 replace hw := upB hw hb
 have Ft := Bt.f
 have Fa := Ba.f
 have Fb := Bb.f
 have Fr := Br.f
 go_wp2_with fail
 refine (cc0 _).mono ?_
 rintro e w3 ⟨rfl, hb⟩
 clear Ft Fa Fb Fr
 replace Bt := Bt.ee hb
 replace Ba := Ba.ee hb
 replace Bb := Bb.ee hb
 replace Br := Br.ee hb
 replace hw := upB hw hb
 clear hb
 have Ft := Bt.f
 have Fa := Ba.f
 have Fb := Bb.f
 have Fr := Br.f
 go_wp2_with fail
 refine bodyPost_ret (v := .agg #[.int .i64 T.A.x, .int .i64 T.A.y]) (by simp [results, Tryz.results84, go_sem, Fr]) rfl ⟨rfl, by have hl := hw.size; go_grown⟩
theorem far_10 (T : Tri3) (a b : Pt) (ha0 : peqI T.A.x T.A.y a.x a.y = true) (ha1 : peqI T.B.x T.B.y a.x a.y = false) (hb1 : peqI T.B.x T.B.y b.x b.y = false) (w : World) :
    Calls Tryz.prog 84 #[.agg #[.int .i64 T.A.x, .int .i64 T.A.y, .int .i64 T.B.x, .int .i64 T.B.y, .int .i64 T.C.x, .int .i64 T.C.y], .agg #[.int .i64 a.x, .int .i64 a.y], .agg #[.int .i64 b.x, .int .i64 b.y]] w fun e w' => e = .returned (.agg #[.int .i64 T.B.x, .int .i64 T.B.y]) ∧ Below w.heap.size w w' := by
 have cc0 := zHd T
 have cc1 := zIg T
 go_enter Tryz.func84, Tryz.ntmps84
 go_wp2_with fail
 refine zA2 fun W1 hW => ?_
 have Bt : Box W1 (w.heap.size) [.int .i64 T.A.x, .int .i64 T.A.y, .int .i64 T.B.x, .int .i64 T.B.y, .int .i64 T.C.x, .int .i64 T.C.y] 38 := by rw [hW]; exact (((Box.new rfl).old _).old _).old _
 have Ba : Box W1 (w.heap.size + 1) [.int .i64 a.x, .int .i64 a.y] 30 := by rw [hW]; exact ((Box.new (by simp)).old _).old _
 have Bb : Box W1 (w.heap.size + 1 + 1) [.int .i64 b.x, .int .i64 b.y] 30 := by rw [hW]; exact (Box.new (by simp)).old _
 have Br : Box W1 (w.heap.size + 1 + 1 + 1) [.int .i64 0, .int .i64 0] 30 := by rw [hW]; exact Box.new (by simp)
 have hw : Below w.heap.size w W1 := by rw [hW]; go_grown
 clear hW
 refine wp_loop_rounds 4 ?_
 try rw [rounds_succ]
 have Ft := Bt.f
 have Fa := Ba.f
 have Fb := Bb.f
 have Fr := Br.f
 go_wp2_with fail
 have gt := Bt.cells
 have ga := Ba.cells
 have gb := Bb.cells
 have gr := Br.cells
 refine wp_region_tail 11 (by kernel_rfl) (by kernel_rfl) (C := fun w' => ∃ p : Regrown, w' = grow (redrawn W1 p.d) p.os) rgB ?_
 simp only [tK1, tK0, dP1, dP0]
 repeat (first | (refine zA0 (Eq.refl false) ?_; simp only [Act.put, sT2, sT1, sT0]) | (refine rWalk_step (fun K hK => ?_); go_simp; first | (refine hK _ ?_; clear hK K) | (apply Exists.intro; refine ⟨fun _ => ?_, hK _ ?_⟩; (first | with_reducible exact toExt cc0 _); clear hK K)))
 refine rWalk_nil ?_
 intro w2 hb
 clear gt ga gb gr
 clear Ft Fa Fb Fr
 replace Bt := Bt.ee hb
 replace Ba := Ba.ee hb
 replace Bb := Bb.ee hb
 replace Br := Br.ee hb
 replace hw := upB hw hb
 have Ft := Bt.f
 have Fa := Ba.f
 have Fb := Bb.f
 have Fr := Br.f
 go_wp2_with fail
 clear Ft Fa Fb Fr
 try rw [rounds_succ]
 have Ft := Bt.f
 have Fa := Ba.f
 have Fb := Bb.f
 have Fr := Br.f
 go_wp2_with fail
 have gt := Bt.cells
 have ga := Ba.cells
 have gb := Bb.cells
 have gr := Br.cells
 refine wp_region_tail 11 (by kernel_rfl) (by kernel_rfl) (C := fun w' => ∃ p : Regrown, w' = grow (redrawn w2 p.d) p.os) rgB ?_
 simp only [tK1, tK0, dP1, dP0]
 repeat (first | (refine zA0 (Eq.refl false) ?_; simp only [Act.put, sT2, sT1, sT0]) | (refine rWalk_step (fun K hK => ?_); go_simp; first | (refine hK _ ?_; clear hK K) | (apply Exists.intro; refine ⟨fun _ => ?_, hK _ ?_⟩; (first | with_reducible exact toExt cc1 _); clear hK K)))
 refine rWalk_nil ?_
 intro w3 hb
 clear gt ga gb gr
 clear Ft Fa Fb Fr
 replace Bt := Bt.ee hb
 replace Ba := Ba.ee hb
 replace Bb := Bb.ee hb
 replace Br := Br.ee hb
 replace hw := upB hw hb
 have Ft := Bt.f
 have Fa := Ba.f
 have Fb := Bb.f
 have Fr := Br.f
 go_wp2_with fail
 refine (cc1 _).mono ?_
 rintro e w4 ⟨rfl, hb⟩
 clear Ft Fa Fb Fr
 replace Bt := Bt.ee hb
 replace Ba := Ba.ee hb
 replace Bb := Bb.ee hb
 replace Br := Br.ee hb
 replace hw := upB hw hb
 clear hb
 have Ft := Bt.f
 have Fa := Ba.f
 have Fb := Bb.f
 have Fr := Br.f
 go_wp2_with fail
 refine bodyPost_ret (v := .agg #[.int .i64 T.B.x, .int .i64 T.B.y]) (by simp [results, Tryz.results84, go_sem, Fr]) rfl ⟨rfl, by have hl := hw.size; go_grown⟩
theorem far_11 (T : Tri3) (a b : Pt) (ha0 : peqI T.A.x T.A.y a.x a.y = true) (ha1 : peqI T.B.x T.B.y a.x a.y = true) (w : World) :
    Calls Tryz.prog 84 #[.agg #[.int .i64 T.A.x, .int .i64 T.A.y, .int .i64 T.B.x, .int .i64 T.B.y, .int .i64 T.C.x, .int .i64 T.C.y], .agg #[.int .i64 a.x, .int .i64 a.y], .agg #[.int .i64 b.x, .int .i64 b.y]] w fun e w' => e = .returned (.agg #[.int .i64 T.C.x, .int .i64 T.C.y]) ∧ Below w.heap.size w w' := by
 have cc0 := zHd T
 have cc1 := zIg T
 go_enter Tryz.func84, Tryz.ntmps84
 go_wp2_with fail
 refine zA2 fun W1 hW => ?_
 have Bt : Box W1 (w.heap.size) [.int .i64 T.A.x, .int .i64 T.A.y, .int .i64 T.B.x, .int .i64 T.B.y, .int .i64 T.C.x, .int .i64 T.C.y] 38 := by rw [hW]; exact (((Box.new rfl).old _).old _).old _
 have Ba : Box W1 (w.heap.size + 1) [.int .i64 a.x, .int .i64 a.y] 30 := by rw [hW]; exact ((Box.new (by simp)).old _).old _
 have Bb : Box W1 (w.heap.size + 1 + 1) [.int .i64 b.x, .int .i64 b.y] 30 := by rw [hW]; exact (Box.new (by simp)).old _
 have Br : Box W1 (w.heap.size + 1 + 1 + 1) [.int .i64 0, .int .i64 0] 30 := by rw [hW]; exact Box.new (by simp)
 have hw : Below w.heap.size w W1 := by rw [hW]; go_grown
 clear hW
 refine wp_loop_rounds 4 ?_
 try rw [rounds_succ]
 have Ft := Bt.f
 have Fa := Ba.f
 have Fb := Bb.f
 have Fr := Br.f
 go_wp2_with fail
 have gt := Bt.cells
 have ga := Ba.cells
 have gb := Bb.cells
 have gr := Br.cells
 refine wp_region_tail 11 (by kernel_rfl) (by kernel_rfl) (C := fun w' => ∃ p : Regrown, w' = grow (redrawn W1 p.d) p.os) rgB ?_
 simp only [tK1, tK0, dP1, dP0]
 repeat (first | (refine zA0 (Eq.refl false) ?_; simp only [Act.put, sT2, sT1, sT0]) | (refine rWalk_step (fun K hK => ?_); go_simp; first | (refine hK _ ?_; clear hK K) | (apply Exists.intro; refine ⟨fun _ => ?_, hK _ ?_⟩; (first | with_reducible exact toExt cc0 _); clear hK K)))
 refine rWalk_nil ?_
 intro w2 hb
 clear gt ga gb gr
 clear Ft Fa Fb Fr
 replace Bt := Bt.ee hb
 replace Ba := Ba.ee hb
 replace Bb := Bb.ee hb
 replace Br := Br.ee hb
 replace hw := upB hw hb
 have Ft := Bt.f
 have Fa := Ba.f
 have Fb := Bb.f
 have Fr := Br.f
 go_wp2_with fail
 clear Ft Fa Fb Fr
 try rw [rounds_succ]
 have Ft := Bt.f
 have Fa := Ba.f
 have Fb := Bb.f
 have Fr := Br.f
 go_wp2_with fail
 have gt := Bt.cells
 have ga := Ba.cells
 have gb := Bb.cells
 have gr := Br.cells
 refine wp_region_tail 11 (by kernel_rfl) (by kernel_rfl) (C := fun w' => ∃ p : Regrown, w' = grow (redrawn w2 p.d) p.os) rgB ?_
 simp only [tK1, tK0, dP1, dP0]
 repeat (first | (refine zA0 (Eq.refl false) ?_; simp only [Act.put, sT2, sT1, sT0]) | (refine rWalk_step (fun K hK => ?_); go_simp; first | (refine hK _ ?_; clear hK K) | (apply Exists.intro; refine ⟨fun _ => ?_, hK _ ?_⟩; (first | with_reducible exact toExt cc1 _); clear hK K)))
 refine rWalk_nil ?_
 intro w3 hb
 clear gt ga gb gr
 clear Ft Fa Fb Fr
 replace Bt := Bt.ee hb
 replace Ba := Ba.ee hb
 replace Bb := Bb.ee hb
 replace Br := Br.ee hb
 replace hw := upB hw hb
 have Ft := Bt.f
 have Fa := Ba.f
 have Fb := Bb.f
 have Fr := Br.f
 go_wp2_with fail
 clear Ft Fa Fb Fr
 try rw [rounds_succ]
 have Ft := Bt.f
 have Fa := Ba.f
 have Fb := Bb.f
 have Fr := Br.f
 go_wp2_with fail
 refine bodyPost_ret (v := .agg #[.int .i64 T.C.x, .int .i64 T.C.y]) (by simp [results, Tryz.results84, go_sem, Fr]) rfl ⟨rfl, by have hl := hw.size; go_grown⟩
theorem far_12 (T : Tri3) (a b : Pt) (ha0 : peqI T.A.x T.A.y a.x a.y = true) (ha1 : peqI T.B.x T.B.y a.x a.y = false) (hb1 : peqI T.B.x T.B.y b.x b.y = true) (w : World) :
    Calls Tryz.prog 84 #[.agg #[.int .i64 T.A.x, .int .i64 T.A.y, .int .i64 T.B.x, .int .i64 T.B.y, .int .i64 T.C.x, .int .i64 T.C.y], .agg #[.int .i64 a.x, .int .i64 a.y], .agg #[.int .i64 b.x, .int .i64 b.y]] w fun e w' => e = .returned (.agg #[.int .i64 T.C.x, .int .i64 T.C.y]) ∧ Below w.heap.size w w' := by
 have cc0 := zHd T
 have cc1 := zIg T
 go_enter Tryz.func84, Tryz.ntmps84
 go_wp2_with fail
 refine zA2 fun W1 hW => ?_
 have Bt : Box W1 (w.heap.size) [.int .i64 T.A.x, .int .i64 T.A.y, .int .i64 T.B.x, .int .i64 T.B.y, .int .i64 T.C.x, .int .i64 T.C.y] 38 := by rw [hW]; exact (((Box.new rfl).old _).old _).old _
 have Ba : Box W1 (w.heap.size + 1) [.int .i64 a.x, .int .i64 a.y] 30 := by rw [hW]; exact ((Box.new (by simp)).old _).old _
 have Bb : Box W1 (w.heap.size + 1 + 1) [.int .i64 b.x, .int .i64 b.y] 30 := by rw [hW]; exact (Box.new (by simp)).old _
 have Br : Box W1 (w.heap.size + 1 + 1 + 1) [.int .i64 0, .int .i64 0] 30 := by rw [hW]; exact Box.new (by simp)
 have hw : Below w.heap.size w W1 := by rw [hW]; go_grown
 clear hW
 refine wp_loop_rounds 4 ?_
 try rw [rounds_succ]
 have Ft := Bt.f
 have Fa := Ba.f
 have Fb := Bb.f
 have Fr := Br.f
 go_wp2_with fail
 have gt := Bt.cells
 have ga := Ba.cells
 have gb := Bb.cells
 have gr := Br.cells
 refine wp_region_tail 11 (by kernel_rfl) (by kernel_rfl) (C := fun w' => ∃ p : Regrown, w' = grow (redrawn W1 p.d) p.os) rgB ?_
 simp only [tK1, tK0, dP1, dP0]
 repeat (first | (refine zA0 (Eq.refl false) ?_; simp only [Act.put, sT2, sT1, sT0]) | (refine rWalk_step (fun K hK => ?_); go_simp; first | (refine hK _ ?_; clear hK K) | (apply Exists.intro; refine ⟨fun _ => ?_, hK _ ?_⟩; (first | with_reducible exact toExt cc0 _); clear hK K)))
 refine rWalk_nil ?_
 intro w2 hb
 clear gt ga gb gr
 clear Ft Fa Fb Fr
 replace Bt := Bt.ee hb
 replace Ba := Ba.ee hb
 replace Bb := Bb.ee hb
 replace Br := Br.ee hb
 replace hw := upB hw hb
 have Ft := Bt.f
 have Fa := Ba.f
 have Fb := Bb.f
 have Fr := Br.f
 go_wp2_with fail
 clear Ft Fa Fb Fr
 try rw [rounds_succ]
 have Ft := Bt.f
 have Fa := Ba.f
 have Fb := Bb.f
 have Fr := Br.f
 go_wp2_with fail
 have gt := Bt.cells
 have ga := Ba.cells
 have gb := Bb.cells
 have gr := Br.cells
 refine wp_region_tail 11 (by kernel_rfl) (by kernel_rfl) (C := fun w' => ∃ p : Regrown, w' = grow (redrawn w2 p.d) p.os) rgB ?_
 simp only [tK1, tK0, dP1, dP0]
 repeat (first | (refine zA0 (Eq.refl false) ?_; simp only [Act.put, sT2, sT1, sT0]) | (refine rWalk_step (fun K hK => ?_); go_simp; first | (refine hK _ ?_; clear hK K) | (apply Exists.intro; refine ⟨fun _ => ?_, hK _ ?_⟩; (first | with_reducible exact toExt cc1 _); clear hK K)))
 refine rWalk_nil ?_
 intro w3 hb
 clear gt ga gb gr
 clear Ft Fa Fb Fr
 replace Bt := Bt.ee hb
 replace Ba := Ba.ee hb
 replace Bb := Bb.ee hb
 replace Br := Br.ee hb
 replace hw := upB hw hb
 have Ft := Bt.f
 have Fa := Ba.f
 have Fb := Bb.f
 have Fr := Br.f
 go_wp2_with fail
 clear Ft Fa Fb Fr
 try rw [rounds_succ]
 have Ft := Bt.f
 have Fa := Ba.f
 have Fb := Bb.f
 have Fr := Br.f
 go_wp2_with fail
 refine bodyPost_ret (v := .agg #[.int .i64 T.C.x, .int .i64 T.C.y]) (by simp [results, Tryz.results84, go_sem, Fr]) rfl ⟨rfl, by have hl := hw.size; go_grown⟩
theorem far_20 (T : Tri3) (a b : Pt) (ha0 : peqI T.A.x T.A.y a.x a.y = false) (hb0 : peqI T.A.x T.A.y b.x b.y = true) (ha1 : peqI T.B.x T.B.y a.x a.y = false) (hb1 : peqI T.B.x T.B.y b.x b.y = false) (w : World) :
    Calls Tryz.prog 84 #[.agg #[.int .i64 T.A.x, .int .i64 T.A.y, .int .i64 T.B.x, .int .i64 T.B.y, .int .i64 T.C.x, .int .i64 T.C.y], .agg #[.int .i64 a.x, .int .i64 a.y], .agg #[.int .i64 b.x, .int .i64 b.y]] w fun e w' => e = .returned (.agg #[.int .i64 T.B.x, .int .i64 T.B.y]) ∧ Below w.heap.size w w' := by
 have cc0 := zHd T
 have cc1 := zIg T
 go_enter Tryz.func84, Tryz.ntmps84
 go_wp2_with fail
 refine zA2 fun W1 hW => ?_
 have Bt : Box W1 (w.heap.size) [.int .i64 T.A.x, .int .i64 T.A.y, .int .i64 T.B.x, .int .i64 T.B.y, .int .i64 T.C.x, .int .i64 T.C.y] 38 := by rw [hW]; exact (((Box.new rfl).old _).old _).old _
 have Ba : Box W1 (w.heap.size + 1) [.int .i64 a.x, .int .i64 a.y] 30 := by rw [hW]; exact ((Box.new (by simp)).old _).old _
 have Bb : Box W1 (w.heap.size + 1 + 1) [.int .i64 b.x, .int .i64 b.y] 30 := by rw [hW]; exact (Box.new (by simp)).old _
 have Br : Box W1 (w.heap.size + 1 + 1 + 1) [.int .i64 0, .int .i64 0] 30 := by rw [hW]; exact Box.new (by simp)
 have hw : Below w.heap.size w W1 := by rw [hW]; go_grown
 clear hW
 refine wp_loop_rounds 4 ?_
 try rw [rounds_succ]
 have Ft := Bt.f
 have Fa := Ba.f
 have Fb := Bb.f
 have Fr := Br.f
 go_wp2_with fail
 have gt := Bt.cells
 have ga := Ba.cells
 have gb := Bb.cells
 have gr := Br.cells
 refine wp_region_tail 11 (by kernel_rfl) (by kernel_rfl) (C := fun w' => ∃ p : Regrown, w' = grow (redrawn W1 p.d) p.os) rgB ?_
 simp only [tK1, tK0, dP1, dP0]
 repeat (first | (refine zA0 (Eq.refl false) ?_; simp only [Act.put, sT2, sT1, sT0]) | (refine rWalk_step (fun K hK => ?_); go_simp; first | (refine hK _ ?_; clear hK K) | (apply Exists.intro; refine ⟨fun _ => ?_, hK _ ?_⟩; (first | with_reducible exact toExt cc0 _); clear hK K)))
 refine rWalk_nil ?_
 intro w2 hb
 clear gt ga gb gr
 clear Ft Fa Fb Fr
 replace Bt := Bt.ee hb
 replace Ba := Ba.ee hb
 replace Bb := Bb.ee hb
 replace Br := Br.ee hb
 replace hw := upB hw hb
 have Ft := Bt.f
 have Fa := Ba.f
 have Fb := Bb.f
 have Fr := Br.f
 go_wp2_with fail
 clear Ft Fa Fb Fr
 try rw [rounds_succ]
 have Ft := Bt.f
 have Fa := Ba.f
 have Fb := Bb.f
 have Fr := Br.f
 go_wp2_with fail
 have gt := Bt.cells
 have ga := Ba.cells
 have gb := Bb.cells
 have gr := Br.cells
 refine wp_region_tail 11 (by kernel_rfl) (by kernel_rfl) (C := fun w' => ∃ p : Regrown, w' = grow (redrawn w2 p.d) p.os) rgB ?_
 simp only [tK1, tK0, dP1, dP0]
 repeat (first | (refine zA0 (Eq.refl false) ?_; simp only [Act.put, sT2, sT1, sT0]) | (refine rWalk_step (fun K hK => ?_); go_simp; first | (refine hK _ ?_; clear hK K) | (apply Exists.intro; refine ⟨fun _ => ?_, hK _ ?_⟩; (first | with_reducible exact toExt cc1 _); clear hK K)))
 refine rWalk_nil ?_
 intro w3 hb
 clear gt ga gb gr
 clear Ft Fa Fb Fr
 replace Bt := Bt.ee hb
 replace Ba := Ba.ee hb
 replace Bb := Bb.ee hb
 replace Br := Br.ee hb
 replace hw := upB hw hb
 have Ft := Bt.f
 have Fa := Ba.f
 have Fb := Bb.f
 have Fr := Br.f
 go_wp2_with fail
 refine (cc1 _).mono ?_
 rintro e w4 ⟨rfl, hb⟩
 clear Ft Fa Fb Fr
 replace Bt := Bt.ee hb
 replace Ba := Ba.ee hb
 replace Bb := Bb.ee hb
 replace Br := Br.ee hb
 replace hw := upB hw hb
 clear hb
 have Ft := Bt.f
 have Fa := Ba.f
 have Fb := Bb.f
 have Fr := Br.f
 go_wp2_with fail
 refine bodyPost_ret (v := .agg #[.int .i64 T.B.x, .int .i64 T.B.y]) (by simp [results, Tryz.results84, go_sem, Fr]) rfl ⟨rfl, by have hl := hw.size; go_grown⟩
theorem far_21 (T : Tri3) (a b : Pt) (ha0 : peqI T.A.x T.A.y a.x a.y = false) (hb0 : peqI T.A.x T.A.y b.x b.y = true) (ha1 : peqI T.B.x T.B.y a.x a.y = true) (w : World) :
    Calls Tryz.prog 84 #[.agg #[.int .i64 T.A.x, .int .i64 T.A.y, .int .i64 T.B.x, .int .i64 T.B.y, .int .i64 T.C.x, .int .i64 T.C.y], .agg #[.int .i64 a.x, .int .i64 a.y], .agg #[.int .i64 b.x, .int .i64 b.y]] w fun e w' => e = .returned (.agg #[.int .i64 T.C.x, .int .i64 T.C.y]) ∧ Below w.heap.size w w' := by
 have cc0 := zHd T
 have cc1 := zIg T
 go_enter Tryz.func84, Tryz.ntmps84
 go_wp2_with fail
 refine zA2 fun W1 hW => ?_
 have Bt : Box W1 (w.heap.size) [.int .i64 T.A.x, .int .i64 T.A.y, .int .i64 T.B.x, .int .i64 T.B.y, .int .i64 T.C.x, .int .i64 T.C.y] 38 := by rw [hW]; exact (((Box.new rfl).old _).old _).old _
 have Ba : Box W1 (w.heap.size + 1) [.int .i64 a.x, .int .i64 a.y] 30 := by rw [hW]; exact ((Box.new (by simp)).old _).old _
 have Bb : Box W1 (w.heap.size + 1 + 1) [.int .i64 b.x, .int .i64 b.y] 30 := by rw [hW]; exact (Box.new (by simp)).old _
 have Br : Box W1 (w.heap.size + 1 + 1 + 1) [.int .i64 0, .int .i64 0] 30 := by rw [hW]; exact Box.new (by simp)
 have hw : Below w.heap.size w W1 := by rw [hW]; go_grown
 clear hW
 refine wp_loop_rounds 4 ?_
 try rw [rounds_succ]
 have Ft := Bt.f
 have Fa := Ba.f
 have Fb := Bb.f
 have Fr := Br.f
 go_wp2_with fail
 have gt := Bt.cells
 have ga := Ba.cells
 have gb := Bb.cells
 have gr := Br.cells
 refine wp_region_tail 11 (by kernel_rfl) (by kernel_rfl) (C := fun w' => ∃ p : Regrown, w' = grow (redrawn W1 p.d) p.os) rgB ?_
 simp only [tK1, tK0, dP1, dP0]
 repeat (first | (refine zA0 (Eq.refl false) ?_; simp only [Act.put, sT2, sT1, sT0]) | (refine rWalk_step (fun K hK => ?_); go_simp; first | (refine hK _ ?_; clear hK K) | (apply Exists.intro; refine ⟨fun _ => ?_, hK _ ?_⟩; (first | with_reducible exact toExt cc0 _); clear hK K)))
 refine rWalk_nil ?_
 intro w2 hb
 clear gt ga gb gr
 clear Ft Fa Fb Fr
 replace Bt := Bt.ee hb
 replace Ba := Ba.ee hb
 replace Bb := Bb.ee hb
 replace Br := Br.ee hb
 replace hw := upB hw hb
 have Ft := Bt.f
 have Fa := Ba.f
 have Fb := Bb.f
 have Fr := Br.f
 go_wp2_with fail
 clear Ft Fa Fb Fr
 try rw [rounds_succ]
 have Ft := Bt.f
 have Fa := Ba.f
 have Fb := Bb.f
 have Fr := Br.f
 go_wp2_with fail
 have gt := Bt.cells
 have ga := Ba.cells
 have gb := Bb.cells
 have gr := Br.cells
 refine wp_region_tail 11 (by kernel_rfl) (by kernel_rfl) (C := fun w' => ∃ p : Regrown, w' = grow (redrawn w2 p.d) p.os) rgB ?_
 simp only [tK1, tK0, dP1, dP0]
 repeat (first | (refine zA0 (Eq.refl false) ?_; simp only [Act.put, sT2, sT1, sT0]) | (refine rWalk_step (fun K hK => ?_); go_simp; first | (refine hK _ ?_; clear hK K) | (apply Exists.intro; refine ⟨fun _ => ?_, hK _ ?_⟩; (first | with_reducible exact toExt cc1 _); clear hK K)))
 refine rWalk_nil ?_
 intro w3 hb
 clear gt ga gb gr
 clear Ft Fa Fb Fr
 replace Bt := Bt.ee hb
 replace Ba := Ba.ee hb
 replace Bb := Bb.ee hb
 replace Br := Br.ee hb
 replace hw := upB hw hb
 have Ft := Bt.f
 have Fa := Ba.f
 have Fb := Bb.f
 have Fr := Br.f
 go_wp2_with fail
 clear Ft Fa Fb Fr
 try rw [rounds_succ]
 have Ft := Bt.f
 have Fa := Ba.f
 have Fb := Bb.f
 have Fr := Br.f
 go_wp2_with fail
 refine bodyPost_ret (v := .agg #[.int .i64 T.C.x, .int .i64 T.C.y]) (by simp [results, Tryz.results84, go_sem, Fr]) rfl ⟨rfl, by have hl := hw.size; go_grown⟩
theorem far_22 (T : Tri3) (a b : Pt) (ha0 : peqI T.A.x T.A.y a.x a.y = false) (hb0 : peqI T.A.x T.A.y b.x b.y = true) (ha1 : peqI T.B.x T.B.y a.x a.y = false) (hb1 : peqI T.B.x T.B.y b.x b.y = true) (w : World) :
    Calls Tryz.prog 84 #[.agg #[.int .i64 T.A.x, .int .i64 T.A.y, .int .i64 T.B.x, .int .i64 T.B.y, .int .i64 T.C.x, .int .i64 T.C.y], .agg #[.int .i64 a.x, .int .i64 a.y], .agg #[.int .i64 b.x, .int .i64 b.y]] w fun e w' => e = .returned (.agg #[.int .i64 T.C.x, .int .i64 T.C.y]) ∧ Below w.heap.size w w' := by
 have cc0 := zHd T
 have cc1 := zIg T
 go_enter Tryz.func84, Tryz.ntmps84
 go_wp2_with fail
 refine zA2 fun W1 hW => ?_
 have Bt : Box W1 (w.heap.size) [.int .i64 T.A.x, .int .i64 T.A.y, .int .i64 T.B.x, .int .i64 T.B.y, .int .i64 T.C.x, .int .i64 T.C.y] 38 := by rw [hW]; exact (((Box.new rfl).old _).old _).old _
 have Ba : Box W1 (w.heap.size + 1) [.int .i64 a.x, .int .i64 a.y] 30 := by rw [hW]; exact ((Box.new (by simp)).old _).old _
 have Bb : Box W1 (w.heap.size + 1 + 1) [.int .i64 b.x, .int .i64 b.y] 30 := by rw [hW]; exact (Box.new (by simp)).old _
 have Br : Box W1 (w.heap.size + 1 + 1 + 1) [.int .i64 0, .int .i64 0] 30 := by rw [hW]; exact Box.new (by simp)
 have hw : Below w.heap.size w W1 := by rw [hW]; go_grown
 clear hW
 refine wp_loop_rounds 4 ?_
 try rw [rounds_succ]
 have Ft := Bt.f
 have Fa := Ba.f
 have Fb := Bb.f
 have Fr := Br.f
 go_wp2_with fail
 have gt := Bt.cells
 have ga := Ba.cells
 have gb := Bb.cells
 have gr := Br.cells
 refine wp_region_tail 11 (by kernel_rfl) (by kernel_rfl) (C := fun w' => ∃ p : Regrown, w' = grow (redrawn W1 p.d) p.os) rgB ?_
 simp only [tK1, tK0, dP1, dP0]
 repeat (first | (refine zA0 (Eq.refl false) ?_; simp only [Act.put, sT2, sT1, sT0]) | (refine rWalk_step (fun K hK => ?_); go_simp; first | (refine hK _ ?_; clear hK K) | (apply Exists.intro; refine ⟨fun _ => ?_, hK _ ?_⟩; (first | with_reducible exact toExt cc0 _); clear hK K)))
 refine rWalk_nil ?_
 intro w2 hb
 clear gt ga gb gr
 clear Ft Fa Fb Fr
 replace Bt := Bt.ee hb
 replace Ba := Ba.ee hb
 replace Bb := Bb.ee hb
 replace Br := Br.ee hb
 replace hw := upB hw hb
 have Ft := Bt.f
 have Fa := Ba.f
 have Fb := Bb.f
 have Fr := Br.f
 go_wp2_with fail
 clear Ft Fa Fb Fr
 try rw [rounds_succ]
 have Ft := Bt.f
 have Fa := Ba.f
 have Fb := Bb.f
 have Fr := Br.f
 go_wp2_with fail
 have gt := Bt.cells
 have ga := Ba.cells
 have gb := Bb.cells
 have gr := Br.cells
 refine wp_region_tail 11 (by kernel_rfl) (by kernel_rfl) (C := fun w' => ∃ p : Regrown, w' = grow (redrawn w2 p.d) p.os) rgB ?_
 simp only [tK1, tK0, dP1, dP0]
 repeat (first | (refine zA0 (Eq.refl false) ?_; simp only [Act.put, sT2, sT1, sT0]) | (refine rWalk_step (fun K hK => ?_); go_simp; first | (refine hK _ ?_; clear hK K) | (apply Exists.intro; refine ⟨fun _ => ?_, hK _ ?_⟩; (first | with_reducible exact toExt cc1 _); clear hK K)))
 refine rWalk_nil ?_
 intro w3 hb
 clear gt ga gb gr
 clear Ft Fa Fb Fr
 replace Bt := Bt.ee hb
 replace Ba := Ba.ee hb
 replace Bb := Bb.ee hb
 replace Br := Br.ee hb
 replace hw := upB hw hb
 have Ft := Bt.f
 have Fa := Ba.f
 have Fb := Bb.f
 have Fr := Br.f
 go_wp2_with fail
 clear Ft Fa Fb Fr
 try rw [rounds_succ]
 have Ft := Bt.f
 have Fa := Ba.f
 have Fb := Bb.f
 have Fr := Br.f
 go_wp2_with fail
 refine bodyPost_ret (v := .agg #[.int .i64 T.C.x, .int .i64 T.C.y]) (by simp [results, Tryz.results84, go_sem, Fr]) rfl ⟨rfl, by have hl := hw.size; go_grown⟩
theorem zFq (T : Tri3) (a b : Pt) (w : World) : Calls Tryz.prog 84 #[.agg #[.int .i64 T.A.x, .int .i64 T.A.y, .int .i64 T.B.x, .int .i64 T.B.y, .int .i64 T.C.x, .int .i64 T.C.y], .agg #[.int .i64 a.x, .int .i64 a.y], .agg #[.int .i64 b.x, .int .i64 b.y]] w fun e w' => e = .returned (.agg #[.int .i64 (apx T a b).x, .int .i64 (apx T a b).y]) ∧ Below w.heap.size w w' := by
 unfold apx
 cases a0 : peqI T.A.x T.A.y a.x a.y with
 | false =>
  cases b0 : peqI T.A.x T.A.y b.x b.y with
  | false => simpa using far_0 T a b a0 b0 w
  | true =>
   cases a1 : peqI T.B.x T.B.y a.x a.y with
   | false =>
    cases b1 : peqI T.B.x T.B.y b.x b.y with
    | false => simpa using far_20 T a b a0 b0 a1 b1 w
    | true => simpa using far_22 T a b a0 b0 a1 b1 w
   | true => simpa using far_21 T a b a0 b0 a1 w
 | true =>
  cases a1 : peqI T.B.x T.B.y a.x a.y with
  | false =>
   cases b1 : peqI T.B.x T.B.y b.x b.y with
   | false => simpa using far_10 T a b a0 a1 b1 w
   | true => simpa using far_12 T a b a0 a1 b1 w
  | true => simpa using far_11 T a b a0 a1 w
attribute [local go_sem] rmap_nil
theorem zCi (T : Tri3) (w : World) :
    Calls Tryz.prog 64 #[.agg #[.int .i64 T.A.x, .int .i64 T.A.y, .int .i64 T.B.x, .int .i64 T.B.y, .int .i64 T.C.x, .int .i64 T.C.y]] w fun e w' => e = .returned (.agg #[.int .i64 T.A.x, .int .i64 T.A.y, .int .i64 T.B.x, .int .i64 T.B.y, .int .i64 T.B.x, .int .i64 T.B.y, .int .i64 T.C.x, .int .i64 T.C.y, .int .i64 T.C.x, .int .i64 T.C.y, .int .i64 T.A.x, .int .i64 T.A.y]) ∧ Below w.heap.size w w' := by
 go_enter Tryz.func64, Tryz.ntmps64
 go_wp2_with fail
 refine bodyPost_ret (v := .agg #[.int .i64 T.A.x, .int .i64 T.A.y, .int .i64 T.B.x, .int .i64 T.B.y, .int .i64 T.B.x, .int .i64 T.B.y, .int .i64 T.C.x, .int .i64 T.C.y, .int .i64 T.C.x, .int .i64 T.C.y, .int .i64 T.A.x, .int .i64 T.A.y]) (by simp [results, Tryz.results64, go_sem]) rfl ⟨rfl, by go_grown⟩
theorem rleft_1 (mb b : Nat) (E : Es) (p q : Pt) (T : Tri3) (hg : getE E (p, q) = some T) (hk : okW (p, q)) (w : World) (Bm : Box w mb [.map (some b)] 41) (Hm : HoldsMap eW eT okW w b E) :
    Calls Tryz.prog 65 #[.pointer (some ⟨mb, 0, none⟩), .agg #[.int .i64 p.x, .int .i64 p.y], .agg #[.int .i64 q.x, .int .i64 q.y]] w fun e w' => e = .returned (.tuple #[.agg #[.int .i64 T.A.x, .int .i64 T.A.y, .int .i64 T.B.x, .int .i64 T.B.y, .int .i64 T.C.x, .int .i64 T.C.y], .bool true]) ∧ Below w.heap.size w w' := by
 go_enter Tryz.func65, Tryz.ntmps65
 go_wp2_with fail
 refine zA2 fun W1 hW => ?_
 have Bp : Box W1 (w.heap.size) [.int .i64 p.x, .int .i64 p.y] 30 := by rw [hW]; exact ((Box.new rfl).old _).old _
 have Bq : Box W1 (w.heap.size + 1) [.int .i64 q.x, .int .i64 q.y] 30 := by rw [hW]; exact (Box.new (by simp)).old _
 have Br : Box W1 (w.heap.size + 1 + 1) [.int .i64 0, .int .i64 0, .int .i64 0, .int .i64 0, .int .i64 0, .int .i64 0] 38 := by rw [hW]; exact Box.new (by simp)
 have hw : Below w.heap.size w W1 := by rw [hW]; go_grown
 clear hW
 have BM : Box W1 (mb) [.map (some b)] 41 := Bm.ee hw
 have hl : ∀ d os, (Instr.lookup 39 (.map (some b)) (.agg #[.int .i64 p.x, .int .i64 p.y, .int .i64 q.x, .int .i64 q.y]) true).run Tryz.prog (grow (redrawn W1 d) os) = .ok (.tuple #[.agg #[.int .i64 T.A.x, .int .i64 T.A.y, .int .i64 T.B.x, .int .i64 T.B.y, .int .i64 T.C.x, .int .i64 T.C.y], .bool true]) (grow (redrawn W1 d) os) := fun d os => ((Hm.ee hw).ext (below_regrown W1 d os) rfl).look_some kvR zAo hk hg
 clear hg
 have gp := Bp.cells
 have gq := Bq.cells
 have gr := Br.cells
 have gM := BM.cells
 refine zA3 11 8 19 [.int .i64 T.A.x, .int .i64 T.A.y, .int .i64 T.B.x, .int .i64 T.B.y, .int .i64 T.C.x, .int .i64 T.C.y] (zs := [.int .i64 0, .int .i64 0, .int .i64 0, .int .i64 0, .int .i64 0, .int .i64 0]) (eff := eff6 (.int .i64 T.A.x) (.int .i64 T.A.y) (.int .i64 T.B.x) (.int .i64 T.B.y) (.int .i64 T.C.x) (.int .i64 T.C.y)) zAe rfl rfl rfl rfl rfl rfl rfl (by simp) (fun ρ W => by simp [execOp, go_sem]; rfl) (by kernel_rfl) (by as_aux_lemma => kernel_rfl) (C := fun w' => ∃ p : Regrown, w' = grow (redrawn W1 p.d) p.os) rgB ?_ (fun ρ W b e1 e2 hB => by obtain ⟨x, y, _, _⟩ := hB.f; simp [execOp, go_sem, e1, e2, x, y, eff6])
 simp only [tK1, tK0, dP1, dP0]
 repeat (first | (refine zA0 (Eq.refl false) ?_; simp only [Act.put, sT2, sT1, sT0]) | (refine rWalk_step (fun K hK => ?_); go_simp; first | (refine hK _ ?_; clear hK K) | (apply Exists.intro; refine ⟨fun _ => ?_, hK _ ?_⟩; (first | fail); clear hK K)))
 refine rWalk_nil ⟨rfl, ?_⟩
 intro w2 bks hb h1b h2b Bs
 have lps := Bp.lt
 have lqs := Bq.lt
 have lrs := Br.lt
 have lMs := BM.lt
 have hw0z := hw.size
 clear gp gq gr gM
 replace Bp := Bp.ee hb
 replace Bq := Bq.ee hb
 replace Br := Br.ee hb
 replace BM := BM.ee hb
 replace hw := upB hw hb
 have fs := h1b
 have hwz : w.heap.size ≤ W1.heap.size := hw0z
 clear hb h1b h2b hw0z
 simp only [Act.put]
 clear hl
 obtain ⟨xp, yp, zp, vp⟩ := Bp.f
 obtain ⟨xq, yq, zq, vq⟩ := Bq.f
 obtain ⟨xr, yr, zr, vr⟩ := Br.f
 obtain ⟨xM, yM, zM, vM⟩ := BM.f
 obtain ⟨xs, ys, zs, vs⟩ := Bs.f
 go_wp2_with fail
 refine bodyPost_ret (v := .tuple #[.agg #[.int .i64 T.A.x, .int .i64 T.A.y, .int .i64 T.B.x, .int .i64 T.B.y, .int .i64 T.C.x, .int .i64 T.C.y], .bool true]) (by simp [results, Tryz.results65, go_sem, xr]) rfl ⟨rfl, by have hl := hw.size; go_grown⟩
theorem rleft_0 (mb b : Nat) (E : Es) (p q : Pt) (hg : getE E (p, q) = none) (hk : okW (p, q)) (w : World) (Bm : Box w mb [.map (some b)] 41) (Hm : HoldsMap eW eT okW w b E) :
    Calls Tryz.prog 65 #[.pointer (some ⟨mb, 0, none⟩), .agg #[.int .i64 p.x, .int .i64 p.y], .agg #[.int .i64 q.x, .int .i64 q.y]] w fun e w' => e = .returned (.tuple #[.agg #[.int .i64 0, .int .i64 0, .int .i64 0, .int .i64 0, .int .i64 0, .int .i64 0], .bool false]) ∧ Below w.heap.size w w' := by
 go_enter Tryz.func65, Tryz.ntmps65
 go_wp2_with fail
 refine zA2 fun W1 hW => ?_
 have Bp : Box W1 (w.heap.size) [.int .i64 p.x, .int .i64 p.y] 30 := by rw [hW]; exact ((Box.new rfl).old _).old _
 have Bq : Box W1 (w.heap.size + 1) [.int .i64 q.x, .int .i64 q.y] 30 := by rw [hW]; exact (Box.new (by simp)).old _
 have Br : Box W1 (w.heap.size + 1 + 1) [.int .i64 0, .int .i64 0, .int .i64 0, .int .i64 0, .int .i64 0, .int .i64 0] 38 := by rw [hW]; exact Box.new (by simp)
 have hw : Below w.heap.size w W1 := by rw [hW]; go_grown
 clear hW
 have BM : Box W1 (mb) [.map (some b)] 41 := Bm.ee hw
 have hl : ∀ d os, (Instr.lookup 39 (.map (some b)) (.agg #[.int .i64 p.x, .int .i64 p.y, .int .i64 q.x, .int .i64 q.y]) true).run Tryz.prog (grow (redrawn W1 d) os) = .ok (.tuple #[.agg #[.int .i64 0, .int .i64 0, .int .i64 0, .int .i64 0, .int .i64 0, .int .i64 0], .bool false]) (grow (redrawn W1 d) os) := fun d os => ((Hm.ee hw).ext (below_regrown W1 d os) rfl).look_none kvR zAo hk hg
 clear hg
 have gp := Bp.cells
 have gq := Bq.cells
 have gr := Br.cells
 have gM := BM.cells
 refine zA3 11 8 19 [.int .i64 0, .int .i64 0, .int .i64 0, .int .i64 0, .int .i64 0, .int .i64 0] (zs := [.int .i64 0, .int .i64 0, .int .i64 0, .int .i64 0, .int .i64 0, .int .i64 0]) (eff := eff6 (.int .i64 0) (.int .i64 0) (.int .i64 0) (.int .i64 0) (.int .i64 0) (.int .i64 0)) zAe rfl rfl rfl rfl rfl rfl rfl (by simp) (fun ρ W => by simp [execOp, go_sem]; rfl) (by kernel_rfl) (by as_aux_lemma => kernel_rfl) (C := fun w' => ∃ p : Regrown, w' = grow (redrawn W1 p.d) p.os) rgB ?_ (fun ρ W b e1 e2 hB => by obtain ⟨x, y, _, _⟩ := hB.f; simp [execOp, go_sem, e1, e2, x, y, eff6])
 simp only [tK1, tK0, dP1, dP0]
 repeat (first | (refine zA0 (Eq.refl false) ?_; simp only [Act.put, sT2, sT1, sT0]) | (refine rWalk_step (fun K hK => ?_); go_simp; first | (refine hK _ ?_; clear hK K) | (apply Exists.intro; refine ⟨fun _ => ?_, hK _ ?_⟩; (first | fail); clear hK K)))
 refine rWalk_nil ⟨rfl, ?_⟩
 intro w2 bks hb h1b h2b Bs
 have lps := Bp.lt
 have lqs := Bq.lt
 have lrs := Br.lt
 have lMs := BM.lt
 have hw0z := hw.size
 clear gp gq gr gM
 replace Bp := Bp.ee hb
 replace Bq := Bq.ee hb
 replace Br := Br.ee hb
 replace BM := BM.ee hb
 replace hw := upB hw hb
 have fs := h1b
 have hwz : w.heap.size ≤ W1.heap.size := hw0z
 clear hb h1b h2b hw0z
 simp only [Act.put]
 clear hl
 obtain ⟨xp, yp, zp, vp⟩ := Bp.f
 obtain ⟨xq, yq, zq, vq⟩ := Bq.f
 obtain ⟨xr, yr, zr, vr⟩ := Br.f
 obtain ⟨xM, yM, zM, vM⟩ := BM.f
 obtain ⟨xs, ys, zs, vs⟩ := Bs.f
 go_wp2_with fail
 refine bodyPost_ret (v := .tuple #[.agg #[.int .i64 0, .int .i64 0, .int .i64 0, .int .i64 0, .int .i64 0, .int .i64 0], .bool false]) (by simp [results, Tryz.results65, go_sem, xr]) rfl ⟨rfl, by have hl := hw.size; go_grown⟩
theorem zB4 (mb b : Nat) (E : Es) (p q : Pt) (hk : okW (p, q)) (w : World) (Bm : Box w mb [.map (some b)] 41) (Hm : HoldsMap eW eT okW w b E) :
    Calls Tryz.prog 65 #[.pointer (some ⟨mb, 0, none⟩), .agg #[.int .i64 p.x, .int .i64 p.y], .agg #[.int .i64 q.x, .int .i64 q.y]] w fun e w' => e = .returned (.tuple #[eT (lftE E p q).1, .bool (lftE E p q).2]) ∧ Below w.heap.size w w' := by
 cases h : getE E (p, q) with
 | none => rw [zC8 h]; exact rleft_0 mb b E p q h hk w Bm Hm
 | some t => rw [zBe h]; exact rleft_1 mb b E p q t h hk w Bm Hm
theorem toExtD {P : Program} {f : FuncId} {args : Array Value} {v : Value} {W : World} (c : ∀ d os, Calls P f args (grow (redrawn W d) os) fun e w' => e = .returned v ∧ Below (grow (redrawn W d) os).heap.size (grow (redrawn W d) os) w') :
    ∀ d os, Calls P f args (grow (redrawn W d) os) fun e w' => e = .returned v ∧ Ext (grow (redrawn W d) os) w' := c
end Go.Proofs.YtmobnmjjmafibaaGreat
namespace Go.Proofs.YtmobnmjjmafibaaGreat.Dr
open Go.RowKit Go.Sort
section
variable {P : Program} {ops : Array Oper} {md : Region.Mode} {C : World → Prop}
def Ext (w w' : World) : Prop := Below w.heap.size w w' ∧ w.drawn ≤ w'.drawn
def rUpon (P : Program) (w : World) (v : Value) : Result Next → Prop
 | .ok (.value u) w' => w' = w ∧ u = v
 | .ok .skip w' => w' = w ∧ v = undef
 | .ok (.enter f args) w' => w' = w ∧ Calls P f args w (fun e w'' => e = .returned v ∧ Ext w w'')
 | _ => False
def rAt (P : Program) (o : Oper) (a : Act) (w : World) (v : Value) : Prop := rUpon P w v ((execOp a.eval o).run P w)
def rOper (P : Program) (o : Oper) (a : Act) (C : World → Prop) (next : Act → Prop) : Prop := ∃ v, (∀ w, C w → rAt P o a w v) ∧ next (a.put o.dst v)
def rWalk (P : Program) (ops : Array Oper) (C : World → Prop) (Q : Act → Prop) : List Oper → Act → Prop
 | [], a => Q a
 | o :: rest, a => if Region.wanted o (yielded ops a.tmps) then rOper P o a C (rWalk P ops C Q rest) else rWalk P ops C Q rest (a.put o.dst undef)
theorem rWalk_nil {Q : Act → Prop} {a : Act} (h : Q a) : rWalk P ops C Q [] a := h
theorem rWalk_step {Q : Act → Prop} {a : Act} {o : Oper} {rest : List Oper}
    (h : ∀ K : Act → Prop, (∀ a, rWalk P ops C Q rest a → K a) → if Region.wanted o (yielded ops a.tmps) then rOper P o a C K else K (a.put o.dst undef)) : rWalk P ops C Q (o :: rest) a :=
 h _ (fun _ h => h)
def rYields (P : Program) (ops : Array Oper) (C : World → Prop) (o : Oper) (v : Value) (a : Act) : Prop :=
 (Region.wanted o (yielded ops a.tmps) = true ∧ ∀ w, C w → rAt P o a w v) ∨ (Region.wanted o (yielded ops a.tmps) = false ∧ v = undef)
theorem rYields.same {o : Oper} {v : Value} {a a' : Act} (hy : rYields P ops C o v a) (he : execOp a'.eval o = execOp a.eval o)
    (hw : Region.wanted o (yielded ops a'.tmps) = Region.wanted o (yielded ops a.tmps)) : rYields P ops C o v a' := by
 unfold rYields rAt at *
 rw [he, hw]
 exact hy
theorem rYields.of_walk {o : Oper} {rest : List Oper} {Q : Act → Prop} {a : Act} (h : rWalk P ops C Q (o :: rest) a) : ∃ v, rYields P ops C o v a ∧ rWalk P ops C Q rest (a.put o.dst v) := by
 simp only [rWalk] at h
 cases hw : Region.wanted o (yielded ops a.tmps) with
 | true =>
  rw [hw, if_pos rfl] at h
  obtain ⟨v, h1, h2⟩ := h
  exact ⟨v, .inl ⟨hw, h1⟩, h2⟩
 | false =>
  rw [hw, if_neg (by simp)] at h
  exact ⟨undef, .inr ⟨hw, rfl⟩, h⟩
def rAny (P : Program) (md : Region.Mode) (ops : Array Oper) (C : World → Prop) (n : Nat) (L : Array Bool → Act → Prop) : Nat → Array Bool → Act → Prop
 | 0, listed, a => L listed a
 | f + 1, listed, a => Region.ready md ops listed ≠ [] ∧
  ∀ i ∈ Region.ready md ops listed, i < n ∧ ∃ o v, ops[i]? = some o ∧ rYields P ops C o v a ∧ rAny P md ops C n L f (listed.setIfInBounds i true) (a.put o.dst v)
def TailWaits (md : Region.Mode) (ops : Array Oper) (n : Nat) (listed : Array Bool) : Prop :=
 ∀ i, i < n → listed.getD i true = false → ∀ t, n ≤ t → t ∉ Region.ready md ops listed
theorem zDh {n i : Nat} {oi : Oper} {v : Value} {L : Array Bool → Act → Prop} (hi : ops[i]? = some oi) (hsel : ∀ (j : Nat) (o : Oper) cs b, ops[j]? = some o → o.op ≠ .select cs b)
    (hin : i < n) (Inv : Array Bool → Prop) (hinv : ∀ listed j, Inv listed → j ∈ Region.ready md ops listed → j < n → Inv (listed.setIfInBounds j true))
    (htail : ∀ listed, Inv listed → TailWaits md ops n listed)
    (hdone : ∀ listed a, L listed a → ∀ j ∈ Region.ready md ops listed, n ≤ j) :
    ∀ (f : Nat) (listed : Array Bool) (a : Act), Inv listed →
     (∀ j oj, ops[j]? = some oj → j ≠ i → listed.getD j true = false → (∀ e ∈ oj.after, Region.binds md e = true → e.on ≠ i) → oi.apart ops oj = true) →
     i ∈ Region.ready md ops listed → rYields P ops C oi v a →
     rAny P md ops C n L f (listed.setIfInBounds i true) (a.put oi.dst v) → rAny P md ops C n L (f + 1) listed a := by
 intro f
 induction f with
 | zero =>
  intro listed a inv _ hr hy H
  have hun := (mem_ready.1 hr).1
  refine ⟨fun h => (by rw [h] at hr; cases hr), fun j hj => ?_⟩
  have hjn : j < n := by
   rcases Nat.lt_or_ge j n with h | h
   ·exact h
   ·exact absurd hj (htail _ inv i hin hun j h)
  by_cases hji : j = i
  ·subst hji; exact ⟨hjn, oi, v, hi, hy, H⟩
  ·have := hdone _ _ H j (ready_mono hj hji)
   omega
 | succ f ih =>
  intro listed a inv hfree hr hy H
  have hun := (mem_ready.1 hr).1
  refine ⟨fun h => (by rw [h] at hr; cases hr), fun j hj => ?_⟩
  have hjn : j < n := by
   rcases Nat.lt_or_ge j n with h | h
   ·exact h
   ·exact absurd hj (htail _ inv i hin hun j h)
  by_cases hji : j = i
  ·subst hji; exact ⟨hjn, oi, v, hi, hy, H⟩
  ·obtain ⟨_, oj, u, hoj, hyj, hK⟩ := H.2 j (ready_mono hj hji)
   obtain ⟨hjun, oj', hoj', hall⟩ := mem_ready.1 hj
   have hoo : oj' = oj := Option.some.inj (hoj'.symm.trans hoj)
   subst hoo
   have hnot : ∀ e ∈ oj'.after, Region.binds md e = true → e.on ≠ i := fun e he hb heq => by
    have h1 := hall e he hb
    rw [heq, getD_both hun] at h1
    cases h1
   obtain ⟨h1, h2, h3⟩ := Oper.apart_spec (hfree j oj' hoj hji hjun hnot)
   have hyj' : rYields P ops C oj' u a := hyj.same (execOp_put oj' (fun cs b => hsel j oj' cs b hoj) a oi.dst v h1).symm (wanted_put oj' a oi.dst v h1).symm
   have hyi' : rYields P ops C oi v (a.put oj'.dst u) := hy.same (execOp_put oi (fun cs b => hsel i oi cs b hi) a oj'.dst u h3) (wanted_put oi a oj'.dst u h3)
   refine ⟨hjn, oj', u, hoj, hyj', ?_⟩
   refine ih (listed.setIfInBounds j true) _ (hinv _ _ inv hj hjn) (fun k ok hk hki hun' hno => ?_) (ready_mono hr (Ne.symm hji)) hyi' ?_
   ·refine hfree k ok hk hki ?_ hno
    by_cases hjk : j = k
    ·subst hjk; exact hjun
    ·rw [getD_set_ne true hjk] at hun'; exact hun'
   ·rw [Array.setIfInBounds_comm _ _ hji, ← Act.put_comm a v u h2]
    exact hK
def orderB (md : Region.Mode) (ops : Array Oper) (n g : Nat) : List Nat → Array Bool → Bool
 | [], listed => Region.seqB md ops g n listed
 | k :: is, listed => decide (k < n) && (Region.ready md ops listed).contains k && Region.free md ops listed k && orderB md ops n g is (listed.setIfInBounds k true)
theorem zBt {n g : Nat} {Lq : Act → Prop} (hsel : Region.noSelect ops = true) (Inv : Array Bool → Prop)
    (hinv : ∀ listed j, Inv listed → j ∈ Region.ready md ops listed → j < n → Inv (listed.setIfInBounds j true)) (htail : ∀ listed, Inv listed → TailWaits md ops n listed) :
    ∀ (is : List Nat) (l : List Oper) (listed : Array Bool) (a : Act), is.map (fun i => ops[i]?) = l.map some → Inv listed → orderB md ops n g is listed = true → rWalk P ops C Lq l a →
     rAny P md ops C n (fun listed' a' => Region.seqB md ops g n listed' = true ∧ Lq a') is.length listed a
 | [], [], listed, a, _, _, hB, h => ⟨hB, h⟩
 | [], _ :: _, _, _, hl, _, _, _ => by cases hl
 | _ :: _, [], _, _, hl, _, _, _ => by cases hl
 | k :: is, o :: l, listed, a, hl, inv, hB, h => by
  simp only [List.map_cons, List.cons.injEq] at hl
  obtain ⟨h0, hl⟩ := hl
  simp only [orderB, Bool.and_eq_true, decide_eq_true_eq] at hB
  obtain ⟨⟨⟨hkn, hr⟩, hf⟩, hB'⟩ := hB
  have hr' : k ∈ Region.ready md ops listed := by simpa using hr
  obtain ⟨v, hy, hK⟩ := rYields.of_walk h
  exact zDh h0 (Region.noSelect_spec hsel) hkn Inv hinv htail (fun listed' a' hL => seqB_ready hL.1) is.length listed a inv (Region.free_spec h0 hf) hr' hy
   (zBt hsel Inv hinv htail is l _ _ hl (hinv _ _ inv hr' hkn) hB' hK)
theorem Ext.trans {a b c : World} (h : Ext a b) (k : Ext b c) : Ext a c := ⟨Below.trans h.1 (Below.mono k.1 h.1.size), Nat.le_trans h.2 k.2⟩
theorem zAq {i : Nat} {o : Oper} {v : Value} {a : Act} {K : Act → World → Prop} {Q : Exit → Act → World → Prop} {w : World} (hi : ops[i]? = some o) (hC : C w) (hy : rYields P ops C o v a)
    (h : ∀ w', Ext w w' → K (a.put o.dst v) w') : wpOp P ops Q i K a w := by
 have hrefl : Ext w w := ⟨Below.refl _ _, Nat.le_refl _⟩
 unfold wpOp
 simp only [hi]
 rcases hy with ⟨hw, hv⟩ | ⟨hw, rfl⟩
 ·rw [if_pos hw]
  refine .inl ?_
  have h3 := hv w hC
  unfold rAt at h3
  unfold Oper.wp
  generalize (execOp a.eval o).run P w = r at *
  cases r with
  | ok n w' =>
   cases n <;> simp only [rUpon] at h3 <;> simp only [Oper.upon]
   case value u => obtain ⟨e1, e2⟩ := h3; rw [e1, e2]; exact h _ hrefl
   case skip => obtain ⟨e1, e2⟩ := h3; rw [e1, ← e2]; exact h _ hrefl
   case enter f args =>
    obtain ⟨e1, hc⟩ := h3
    rw [e1]
    exact hc.mono fun e w'' ⟨he, hw''⟩ => by subst he; exact h _ hw''
  | halt x w' => simp only [rUpon] at h3
 ·rw [hw, if_neg (by simp)]
  exact h _ hrefl
theorem zB0 {n g : Nat} {Q : Exit → Act → World → Prop} {Lq : Act → Prop} {l : List Oper} {dst : Option Tmp} {u : Value} {D : World → Prop} (hsel : Region.noSelect ops = true)
    (hg : l.length = g) (hl : ∀ j, l[j]? = ops[n + j]?) (hD : ∀ w, D w → C w) (hDe : ∀ w w', D w → Ext w w' → D w')
    (J : Nat → Prop) (hap : ∀ i o, i < n → ¬ J i → ops[i]? = some o → (∀ d, dst = some d → d ∉ o.looksAt ops) ∧ (∀ d, dst = some d → o.dst ≠ some d))
    (hQ : ∀ a w, D w → Lq a → wpList P ops Q l (a.put dst u) w) :
    ∀ (f : Nat) (listed : Array Bool) (a : Act) (w : World), D w → (∀ i, J i → listed.getD i true = true) →
     rAny P md ops C n (fun listed' a' => Region.seqB md ops g n listed' = true ∧ Lq a') f listed a → wpAny P md ops Q (f + g) listed (a.put dst u) w
 | 0, listed, a, w, hw, _, h => by
  rw [Nat.zero_add]
  subst hg
  exact wpAny_of_seq l n listed _ w hl h.1 (hQ a w hw h.2)
 | f + 1, listed, a, w, hw, hJ, h => by
  rw [show f + 1 + g = (f + g) + 1 by omega]
  refine ⟨fun h0 => absurd h0 h.1, fun i hi => ?_⟩
  obtain ⟨hin, o, v, ho, hy, hK⟩ := h.2 i hi
  have hiun := (mem_ready.1 hi).1
  have hnJ : ¬ J i := fun hj => by rw [hJ i hj] at hiun; cases hiun
  obtain ⟨h1, h2⟩ := hap i o hin hnJ ho
  have hy' : rYields P ops C o v (a.put dst u) := hy.same (execOp_put o (fun cs b => Region.noSelect_spec hsel i o cs b ho) a dst u h1) (wanted_put o a dst u h1)
  refine zAq ho (hD w hw) hy' fun w' hw' => ?_
  rw [Act.put_comm a u v h2]
  refine zB0 hsel hg hl hD hDe J hap hQ f _ _ w' (hDe _ _ hw hw') (fun k hk => ?_) hK
  by_cases hik : i = k
  ·subst hik; exact absurd hk hnJ
  ·rw [getD_set_ne true hik]; exact hJ k hk
def plainB (md : Region.Mode) (ops : Array Oper) (n : Nat) : Bool :=
 Region.noSelect ops && decide (n < ops.size) && Region.sinkB md ops n && Region.chainB md ops n && orderB md ops n (ops.size - n) (List.range n) (Array.replicate ops.size false)
theorem headInv0 {n : Nat} : HeadInv md ops n (Array.replicate ops.size false) :=
 ⟨by simp, fun j oj _ hl => (by rw [getD_replicate_false] at hl; cases hl), fun t _ ht => getD_in (by simpa using ht) (getD_replicate_false _ _)⟩
theorem wp_region_tail {id : Nat} {Q : Exit → Act → World → Prop} {a : Act} {w : World} {l : List Oper} (n : Nat) (hm : P.follows .mixedOrders = true) (hB : plainB .any l.toArray n = true)
    (hC : ∀ w', Below w.heap.size w w' → C w')
    (h : rWalk P l.toArray C (fun a' => ∀ w', Ext w w' → wpList P l.toArray Q (l.drop n) a' w') (l.take n) a) : (Code.region id l.toArray true).wp P Q a w := by
 simp only [plainB, Bool.and_eq_true, decide_eq_true_eq] at hB
 obtain ⟨⟨⟨⟨hsel, hn⟩, hs⟩, hc⟩, ho⟩ := hB
 have hn' : n < l.length := by simpa using hn
 have hmap : (List.range n).map (fun i => l.toArray[i]?) = (l.take n).map some := by
  apply List.ext_getElem?
  intro j
  simp only [List.getElem?_map, List.getElem?_take]
  by_cases hj : j < n
  ·simp [hj, show j < l.length by omega]
  ·simp [hj]
 have H := zBt (md := .any) (g := l.toArray.size - n) hsel (HeadInv .any l.toArray n) (fun listed j inv hj hjn => inv.set hj hjn) (fun listed inv i hi hun => tail_waits hs hc hn inv _ i rfl hi hun)
  (List.range n) (l.take n) _ a hmap headInv0 ho h
 refine wp_region_any hm ?_
 have := zB0 (md := .any) (Q := Q) (l := l.drop n) (dst := none) (u := undef) (D := fun w' => Ext w w') hsel (by simp) (fun j => by simp [List.getElem?_drop])
  (fun w' h => hC w' h.1) (fun a b ha hb => Ext.trans (a := w) ha hb) (fun _ => False) (fun i o _ _ _ => ⟨fun d hd => (by cases hd), fun d hd => (by cases hd)⟩)
  (fun a' w' hw' hl => hl w' hw') _ _ _ { w with drawn := w.drawn + 1 } ⟨⟨rfl, rfl, rfl, Nat.le_refl _, fun _ _ => rfl⟩, by simp⟩ (fun i hi => hi.elim) H
 rw [List.length_range, show n + (l.toArray.size - n) = l.toArray.size by omega] at this
 exact this
end
theorem toExt {P : Program} {f : FuncId} {args : Array Value} {v : Value} (c : ∀ w : World, Calls P f args w fun e w' => e = .returned v ∧ Ext w w') : ∀ w : World, Calls P f args w fun e w' => e = .returned v ∧ Ext w w' := c
theorem Ext.grown {w w' : World} (h : Ext w w') : ∃ q os, w' = grow (w.drewN q) os := by
 obtain ⟨p, hp⟩ := regrown_of_below h.1
 refine ⟨p.d - w.drawn, p.os, ?_⟩
 have h2 := h.2
 have e : w'.drawn = p.d := by rw [hp]; rfl
 rw [e] at h2
 rw [hp]
 have : redrawn w p.d = w.drewN (p.d - w.drawn) := by unfold redrawn World.drewN; congr 1; omega
 rw [this]
end Go.Proofs.YtmobnmjjmafibaaGreat.Dr
namespace Go.Proofs.YtmobnmjjmafibaaGreat
open Go.RowKit Go.Sort
attribute [local go_sem] Dr.rOper Dr.rAt Dr.rUpon cell_set sg_i64 sg_u64 alloc_cell alloc_frozen
attribute [local go_sem 10000] pt_eql pt_neq tri_eql
attribute [local irreducible] Dr.rWalk
theorem zIa (p q : Pt) (w : World) :
    Calls Tryz.prog 81 #[.agg #[.int .i64 p.x, .int .i64 p.y], .agg #[.int .i64 q.x, .int .i64 q.y]] w fun e w' => e = .returned (.int .i64 (cmpP p q)) ∧ Dr.Ext w w' := by
 by_cases h : p.x = q.x
 ·have e1 : (p.x != q.x) = false := by simp [h]
  have e2 : cmpP p q = cmpN p.y q.y := by unfold cmpP; rw [if_pos h]
  rw [e2]
  clear e2 h
  go_enter Tryz.func81, Tryz.ntmps81
  go_wp2_with (go_at_call 124; refine (zH7 _ _ _).mono ?_; rintro e w' ⟨rfl, rfl⟩)
  go_returns
  exact ⟨rfl, by go_grown, Nat.le_refl _⟩
 ·have e1 : (p.x != q.x) = true := by simp [h]
  have e2 : cmpP p q = cmpN p.x q.x := by unfold cmpP; rw [if_neg h]
  rw [e2]
  clear e2 h
  go_enter Tryz.func81, Tryz.ntmps81
  go_wp2_with (go_at_call 124; refine (zH7 _ _ _).mono ?_; rintro e w' ⟨rfl, rfl⟩)
  go_returns
  exact ⟨rfl, by go_grown, Nat.le_refl _⟩
theorem dor_0 (x y z : Int) (h0 : (x == 0) = false) (w : World) (bk : Nat) (hB : Box w bk [.int .i64 x, .int .i64 y, .int .i64 z] 3) :
    Calls Tryz.prog 127 #[.slice (some ⟨bk, 0, none⟩) 3 3] w fun e w' => e = .returned (.int .i64 x) ∧ Dr.Ext w w' := by
 have Fs := hB.f
 go_enter Tryz.func127, Tryz.ntmps127
 go_wp2_with fail
 refine wp_loop_rounds 5 ?_
 try rw [rounds_succ]
 go_wp2_with fail
 go_ret
 exact ⟨rfl, by go_grown, Nat.le_refl _⟩
theorem dor_1 (x y z : Int) (h0 : (x == 0) = true) (h1 : (y == 0) = false) (w : World) (bk : Nat) (hB : Box w bk [.int .i64 x, .int .i64 y, .int .i64 z] 3) :
    Calls Tryz.prog 127 #[.slice (some ⟨bk, 0, none⟩) 3 3] w fun e w' => e = .returned (.int .i64 y) ∧ Dr.Ext w w' := by
 have Fs := hB.f
 go_enter Tryz.func127, Tryz.ntmps127
 go_wp2_with fail
 refine wp_loop_rounds 5 ?_
 try rw [rounds_succ]
 go_wp2_with fail
 try rw [rounds_succ]
 go_wp2_with fail
 go_ret
 exact ⟨rfl, by go_grown, Nat.le_refl _⟩
theorem dor_2 (x y z : Int) (h0 : (x == 0) = true) (h1 : (y == 0) = true) (h2 : (z == 0) = false) (w : World) (bk : Nat) (hB : Box w bk [.int .i64 x, .int .i64 y, .int .i64 z] 3) :
    Calls Tryz.prog 127 #[.slice (some ⟨bk, 0, none⟩) 3 3] w fun e w' => e = .returned (.int .i64 z) ∧ Dr.Ext w w' := by
 have Fs := hB.f
 go_enter Tryz.func127, Tryz.ntmps127
 go_wp2_with fail
 refine wp_loop_rounds 5 ?_
 try rw [rounds_succ]
 go_wp2_with fail
 try rw [rounds_succ]
 go_wp2_with fail
 try rw [rounds_succ]
 go_wp2_with fail
 go_ret
 exact ⟨rfl, by go_grown, Nat.le_refl _⟩
theorem dor_3 (x y z : Int) (h0 : (x == 0) = true) (h1 : (y == 0) = true) (h2 : (z == 0) = true) (w : World) (bk : Nat) (hB : Box w bk [.int .i64 x, .int .i64 y, .int .i64 z] 3) :
    Calls Tryz.prog 127 #[.slice (some ⟨bk, 0, none⟩) 3 3] w fun e w' => e = .returned (.int .i64 0) ∧ Dr.Ext w w' := by
 have Fs := hB.f
 go_enter Tryz.func127, Tryz.ntmps127
 go_wp2_with fail
 refine wp_loop_rounds 5 ?_
 try rw [rounds_succ]
 go_wp2_with fail
 try rw [rounds_succ]
 go_wp2_with fail
 try rw [rounds_succ]
 go_wp2_with fail
 try rw [rounds_succ]
 go_wp2_with fail
 go_ret
 exact ⟨rfl, by go_grown, Nat.le_refl _⟩
theorem dor_any (x y z : Int) (w : World) (bk : Nat) (hB : Box w bk [.int .i64 x, .int .i64 y, .int .i64 z] 3) :
    Calls Tryz.prog 127 #[.slice (some ⟨bk, 0, none⟩) 3 3] w fun e w' => e = .returned (.int .i64 (or3 x y z)) ∧ Dr.Ext w w' := by
 cases h0 : (x == 0) with
 | false => rw [show or3 x y z = x by simp at h0; simp [or3, h0]]; exact dor_0 x y z h0 w bk hB
 | true => cases h1 : (y == 0) with
  | false => rw [show or3 x y z = y by simp at h0 h1; simp [or3, h0, h1]]; exact dor_1 x y z h0 h1 w bk hB
  | true => cases h2 : (z == 0) with
   | false => rw [show or3 x y z = z by simp at h0 h1; simp [or3, h0, h1]]; exact dor_2 x y z h0 h1 h2 w bk hB
   | true => rw [show or3 x y z = 0 by simp at h0 h1 h2; simp [or3, h0, h1, h2]]; exact dor_3 x y z h0 h1 h2 w bk hB
theorem Dr_skip {P : Program} {ops : Array Oper} {C : World → Prop} {Q : Act → Prop} {a : Act} {o : Oper} {rest : List Oper} (hg : Region.wanted o (yielded ops a.tmps) = false) (h : Dr.rWalk P ops C Q rest (a.put o.dst undef)) : Dr.rWalk P ops C Q (o :: rest) a := by
 simp only [Dr.rWalk]; rw [hg, if_neg (by simp)]; exact h
theorem dcmpT_any (S T : Tri3) (w : World) :
    Calls Tryz.prog 93 #[.agg #[.int .i64 S.A.x, .int .i64 S.A.y, .int .i64 S.B.x, .int .i64 S.B.y, .int .i64 S.C.x, .int .i64 S.C.y], .agg #[.int .i64 T.A.x, .int .i64 T.A.y, .int .i64 T.B.x, .int .i64 T.B.y, .int .i64 T.C.x, .int .i64 T.C.y]] w fun e w' => e = .returned (.int .i64 (cmpT S T)) ∧ Dr.Ext w w' := by
 have d1 := zIa S.A T.A
 have d2 := zIa S.B T.B
 have d3 := zIa S.C T.C
 rw [show cmpT S T = or3 (cmpP S.A T.A) (cmpP S.B T.B) (cmpP S.C T.C) by rfl]
 generalize cmpP S.A T.A = m at *
 generalize cmpP S.B T.B = n at *
 generalize cmpP S.C T.C = o at *
 go_enter Tryz.func93, Tryz.ntmps93
 go_wp2_with fail
 refine zA2 fun W1 hW => ?_
 have Bs : Box W1 (w.heap.size) [.int .i64 S.A.x, .int .i64 S.A.y, .int .i64 S.B.x, .int .i64 S.B.y, .int .i64 S.C.x, .int .i64 S.C.y] 38 := by rw [hW]; exact (Box.new rfl).old _
 have Bt : Box W1 (w.heap.size + 1) [.int .i64 T.A.x, .int .i64 T.A.y, .int .i64 T.B.x, .int .i64 T.B.y, .int .i64 T.C.x, .int .i64 T.C.y] 38 := by rw [hW]; exact Box.new (by simp)
 have hw : Below w.heap.size w W1 := by rw [hW]; go_grown
 have hdr : w.drawn ≤ W1.drawn := by rw [hW]; exact Nat.le_refl _
 clear hW
 have gs := Bs.cells
 have gt := Bt.cells
 refine Dr.wp_region_tail 15 (by kernel_rfl) (by kernel_rfl) (C := fun w' => ∃ p : Regrown, w' = grow (redrawn W1 p.d) p.os) rgB ?_
 simp only [tK1, tK0, dP1, dP0]
 repeat (first | (refine Dr_skip (Eq.refl false) ?_; simp only [Act.put, sT2, sT1, sT0]) | (refine Dr.rWalk_step (fun K hK => ?_); go_simp; first | (refine hK _ ?_; clear hK K) | (apply Exists.intro; refine ⟨fun _ => ?_, hK _ ?_⟩; (first | with_reducible exact Dr.toExt d1 _ | with_reducible exact Dr.toExt d2 _ | with_reducible exact Dr.toExt d3 _); clear hK K)))
 refine Dr.rWalk_nil ?_
 intro w2 hb0
 have hb := hb0.1
 replace hdr := Nat.le_trans hdr hb0.2
 clear hb0
 clear gs gt
 replace Bs := Bs.ee hb
 replace Bt := Bt.ee hb
 replace hw := upB hw hb
 have Fs := Bs.f
 have Ft := Bt.f
 go_wp2_with fail
 refine zA1 fun W3 hW => ?_
 obtain ⟨bkv, hbv⟩ : ∃ b, w2.heap.size = b := ⟨_, rfl⟩
 rw [hbv]
 have lsv := Bs.lt
 rw [hbv] at lsv
 have ltv := Bt.lt
 rw [hbv] at ltv
 have fv := hw.size
 rw [hbv] at fv
 have Bv : Box W3 bkv [.int .i64 m, .int .i64 n, .int .i64 o] 3 := by rw [hW]; exact Box.new hbv.symm
 replace Bs : Box W3 (w.heap.size) [.int .i64 S.A.x, .int .i64 S.A.y, .int .i64 S.B.x, .int .i64 S.B.y, .int .i64 S.C.x, .int .i64 S.C.y] 38 := by rw [hW]; exact Bs.old _
 replace Bt : Box W3 (w.heap.size + 1) [.int .i64 T.A.x, .int .i64 T.A.y, .int .i64 T.B.x, .int .i64 T.B.y, .int .i64 T.C.x, .int .i64 T.C.y] 38 := by rw [hW]; exact Bt.old _
 replace hw : Below w.heap.size w W3 := by have hl := hw.size; rw [hW]; go_grown
 replace hdr : w.drawn ≤ W3.drawn := by rw [hW]; exact hdr
 clear hW hbv
 refine (dor_any m n o _ bkv Bv).mono ?_
 rintro e w4 ⟨rfl, hb0⟩
 have hb := hb0.1
 replace hdr := Nat.le_trans hdr hb0.2
 clear hb0
 clear Fs Ft
 replace Bs := Bs.ee hb
 replace Bt := Bt.ee hb
 replace Bv := Bv.ee hb
 replace hw := upB hw hb
 clear hb
 have Fs := Bs.f
 have Ft := Bt.f
 have Fv := Bv.f
 go_wp2
 go_ret
 exact ⟨rfl, by have hl := hw.size; go_grown, hdr⟩
end Go.Proofs.YtmobnmjjmafibaaGreat
namespace Go.Proofs.YtmobnmjjmafibaaGreat
open Go.RowKit Go.Sort
attribute [local go_sem] rOper rAt rUpon cell_set sg_i64 sg_u64 alloc_cell alloc_frozen
attribute [local go_sem 10000] pt_eql pt_neq tri_eql
attribute [local irreducible] rWalk
theorem tmake_n0 (a b c : Pt) (l0 : lds ⟨a, b, c⟩ = true) (ho : decide (ori a b c < 0) = true) (hv : valT ⟨a, c, b⟩ = true) (w : World) :
    Calls Tryz.prog 78 #[.agg #[.int .i64 a.x, .int .i64 a.y], .agg #[.int .i64 b.x, .int .i64 b.y], .agg #[.int .i64 c.x, .int .i64 c.y]] w fun e w' => e = .returned (.tuple #[.agg #[.int .i64 a.x, .int .i64 a.y, .int .i64 c.x, .int .i64 c.y, .int .i64 b.x, .int .i64 b.y], .bool true]) ∧ Below w.heap.size w w' := by
 have k0 := zAk ⟨a, b, c⟩
 rw [l0] at k0
 dsimp only at k0
 have co := zA8 a b c
 have cv := zB3 ⟨a, c, b⟩
 rw [hv] at cv
 dsimp only at cv
 generalize ori a b c = n at *
 clear hv l0
 go_enter Tryz.func78, Tryz.ntmps78
 go_wp2_with fail
 refine zA2 fun W1 hW => ?_
 have Ba : Box W1 (w.heap.size) [.int .i64 a.x, .int .i64 a.y] 30 := by rw [hW]; exact ((((Box.new rfl).old _).old _).old _).old _
 have Bb : Box W1 (w.heap.size + 1) [.int .i64 b.x, .int .i64 b.y] 30 := by rw [hW]; exact (((Box.new (by simp)).old _).old _).old _
 have Bc : Box W1 (w.heap.size + 1 + 1) [.int .i64 c.x, .int .i64 c.y] 30 := by rw [hW]; exact ((Box.new (by simp)).old _).old _
 have Br : Box W1 (w.heap.size + 1 + 1 + 1) [.int .i64 0, .int .i64 0, .int .i64 0, .int .i64 0, .int .i64 0, .int .i64 0] 38 := by rw [hW]; exact (Box.new (by simp)).old _
 have Bt : Box W1 (w.heap.size + 1 + 1 + 1 + 1) [.int .i64 a.x, .int .i64 a.y, .int .i64 b.x, .int .i64 b.y, .int .i64 c.x, .int .i64 c.y] 38 := by rw [hW]; exact Box.new (by simp)
 have hw : Below w.heap.size w W1 := by rw [hW]; go_grown
 clear hW
 refine wp_loop_rounds 4 ?_
 try rw [rounds_succ]
 have Fa := Ba.f
 have Fb := Bb.f
 have Fc := Bc.f
 have Fr := Br.f
 have Ft := Bt.f
 go_wp2_with fail
 refine (k0 _).mono ?_
 rintro e w2 ⟨rfl, hb⟩
 clear Fa Fb Fc Fr Ft
 replace Ba := Ba.ee hb
 replace Bb := Bb.ee hb
 replace Bc := Bc.ee hb
 replace Br := Br.ee hb
 replace Bt := Bt.ee hb
 replace hw := upB hw hb
 clear hb
 have Fa := Ba.f
 have Fb := Bb.f
 have Fc := Bc.f
 have Fr := Br.f
 have Ft := Bt.f
 go_wp2_with fail
 refine (co _).mono ?_
 rintro e w3 ⟨rfl, hb⟩
 clear Fa Fb Fc Fr Ft
 replace Ba := Ba.ee hb
 replace Bb := Bb.ee hb
 replace Bc := Bc.ee hb
 replace Br := Br.ee hb
 replace Bt := Bt.ee hb
 replace hw := upB hw hb
 clear hb
 have Fa := Ba.f
 have Fb := Bb.f
 have Fc := Bc.f
 have Fr := Br.f
 have Ft := Bt.f
 go_wp2_with fail
 refine zA1 fun W4 hW => ?_
 have Ca : Box W4 (w.heap.size) [.int .i64 a.x, .int .i64 a.y] 30 := by rw [hW]; exact ((((Ba.set_ne ⟨w.heap.size + 1 + 1 + 1 + 1, 2, none⟩ ((.int .i64 c.x)) (by first | assumption | (show (w.heap.size + 1 + 1 + 1 + 1 : Nat) ≠ _; omega))).set_ne ⟨w.heap.size + 1 + 1 + 1 + 1, 3, none⟩ ((.int .i64 c.y)) (by first | assumption | (show (w.heap.size + 1 + 1 + 1 + 1 : Nat) ≠ _; omega))).set_ne ⟨w.heap.size + 1 + 1 + 1 + 1, 4, none⟩ ((.int .i64 b.x)) (by first | assumption | (show (w.heap.size + 1 + 1 + 1 + 1 : Nat) ≠ _; omega))).set_ne ⟨w.heap.size + 1 + 1 + 1 + 1, 5, none⟩ ((.int .i64 b.y)) (by first | assumption | (show (w.heap.size + 1 + 1 + 1 + 1 : Nat) ≠ _; omega)))
 have Cb : Box W4 (w.heap.size + 1) [.int .i64 b.x, .int .i64 b.y] 30 := by rw [hW]; exact ((((Bb.set_ne ⟨w.heap.size + 1 + 1 + 1 + 1, 2, none⟩ ((.int .i64 c.x)) (by first | assumption | (show (w.heap.size + 1 + 1 + 1 + 1 : Nat) ≠ _; omega))).set_ne ⟨w.heap.size + 1 + 1 + 1 + 1, 3, none⟩ ((.int .i64 c.y)) (by first | assumption | (show (w.heap.size + 1 + 1 + 1 + 1 : Nat) ≠ _; omega))).set_ne ⟨w.heap.size + 1 + 1 + 1 + 1, 4, none⟩ ((.int .i64 b.x)) (by first | assumption | (show (w.heap.size + 1 + 1 + 1 + 1 : Nat) ≠ _; omega))).set_ne ⟨w.heap.size + 1 + 1 + 1 + 1, 5, none⟩ ((.int .i64 b.y)) (by first | assumption | (show (w.heap.size + 1 + 1 + 1 + 1 : Nat) ≠ _; omega)))
 have Cc : Box W4 (w.heap.size + 1 + 1) [.int .i64 c.x, .int .i64 c.y] 30 := by rw [hW]; exact ((((Bc.set_ne ⟨w.heap.size + 1 + 1 + 1 + 1, 2, none⟩ ((.int .i64 c.x)) (by first | assumption | (show (w.heap.size + 1 + 1 + 1 + 1 : Nat) ≠ _; omega))).set_ne ⟨w.heap.size + 1 + 1 + 1 + 1, 3, none⟩ ((.int .i64 c.y)) (by first | assumption | (show (w.heap.size + 1 + 1 + 1 + 1 : Nat) ≠ _; omega))).set_ne ⟨w.heap.size + 1 + 1 + 1 + 1, 4, none⟩ ((.int .i64 b.x)) (by first | assumption | (show (w.heap.size + 1 + 1 + 1 + 1 : Nat) ≠ _; omega))).set_ne ⟨w.heap.size + 1 + 1 + 1 + 1, 5, none⟩ ((.int .i64 b.y)) (by first | assumption | (show (w.heap.size + 1 + 1 + 1 + 1 : Nat) ≠ _; omega)))
 have Cr : Box W4 (w.heap.size + 1 + 1 + 1) [.int .i64 0, .int .i64 0, .int .i64 0, .int .i64 0, .int .i64 0, .int .i64 0] 38 := by rw [hW]; exact ((((Br.set_ne ⟨w.heap.size + 1 + 1 + 1 + 1, 2, none⟩ ((.int .i64 c.x)) (by first | assumption | (show (w.heap.size + 1 + 1 + 1 + 1 : Nat) ≠ _; omega))).set_ne ⟨w.heap.size + 1 + 1 + 1 + 1, 3, none⟩ ((.int .i64 c.y)) (by first | assumption | (show (w.heap.size + 1 + 1 + 1 + 1 : Nat) ≠ _; omega))).set_ne ⟨w.heap.size + 1 + 1 + 1 + 1, 4, none⟩ ((.int .i64 b.x)) (by first | assumption | (show (w.heap.size + 1 + 1 + 1 + 1 : Nat) ≠ _; omega))).set_ne ⟨w.heap.size + 1 + 1 + 1 + 1, 5, none⟩ ((.int .i64 b.y)) (by first | assumption | (show (w.heap.size + 1 + 1 + 1 + 1 : Nat) ≠ _; omega)))
 have Ct : Box W4 (w.heap.size + 1 + 1 + 1 + 1) [.int .i64 a.x, .int .i64 a.y, .int .i64 c.x, .int .i64 c.y, .int .i64 b.x, .int .i64 b.y] 38 := by rw [hW]; exact ((((Bt.set 2 ((.int .i64 c.x))).set 3 ((.int .i64 c.y))).set 4 ((.int .i64 b.x))).set 5 ((.int .i64 b.y)))
 replace hw : Below w.heap.size w W4 := by have hl := hw.size; rw [hW]; go_grown
 clear Fa Fb Fc Fr Ft
 clear hW Ba Bb Bc Br Bt
 have Ba := Ca
 have Bb := Cb
 have Bc := Cc
 have Br := Cr
 have Bt := Ct
 clear Ca Cb Cc Cr Ct
 refine (cv _).mono ?_
 rintro e w5 ⟨rfl, hb⟩
 replace Ba := Ba.ee hb
 replace Bb := Bb.ee hb
 replace Bc := Bc.ee hb
 replace Br := Br.ee hb
 replace Bt := Bt.ee hb
 replace hw := upB hw hb
 clear hb
 have Fa := Ba.f
 have Fb := Bb.f
 have Fc := Bc.f
 have Fr := Br.f
 have Ft := Bt.f
 go_wp2_with fail
 refine bodyPost_ret (v := .tuple #[.agg #[.int .i64 a.x, .int .i64 a.y, .int .i64 c.x, .int .i64 c.y, .int .i64 b.x, .int .i64 b.y], .bool true]) (by simp [results, Tryz.results78, go_sem, Fr]) rfl ⟨rfl, by have hl := hw.size; go_grown⟩
theorem tmake_p0 (a b c : Pt) (l0 : lds ⟨a, b, c⟩ = true) (ho : decide (ori a b c < 0) = false) (hv : valT ⟨a, b, c⟩ = true) (w : World) :
    Calls Tryz.prog 78 #[.agg #[.int .i64 a.x, .int .i64 a.y], .agg #[.int .i64 b.x, .int .i64 b.y], .agg #[.int .i64 c.x, .int .i64 c.y]] w fun e w' => e = .returned (.tuple #[.agg #[.int .i64 a.x, .int .i64 a.y, .int .i64 b.x, .int .i64 b.y, .int .i64 c.x, .int .i64 c.y], .bool true]) ∧ Below w.heap.size w w' := by
 have k0 := zAk ⟨a, b, c⟩
 rw [l0] at k0
 dsimp only at k0
 have co := zA8 a b c
 have cv := zB3 ⟨a, b, c⟩
 rw [hv] at cv
 dsimp only at cv
 generalize ori a b c = n at *
 clear hv l0
 go_enter Tryz.func78, Tryz.ntmps78
 go_wp2_with fail
 refine zA2 fun W1 hW => ?_
 have Ba : Box W1 (w.heap.size) [.int .i64 a.x, .int .i64 a.y] 30 := by rw [hW]; exact ((((Box.new rfl).old _).old _).old _).old _
 have Bb : Box W1 (w.heap.size + 1) [.int .i64 b.x, .int .i64 b.y] 30 := by rw [hW]; exact (((Box.new (by simp)).old _).old _).old _
 have Bc : Box W1 (w.heap.size + 1 + 1) [.int .i64 c.x, .int .i64 c.y] 30 := by rw [hW]; exact ((Box.new (by simp)).old _).old _
 have Br : Box W1 (w.heap.size + 1 + 1 + 1) [.int .i64 0, .int .i64 0, .int .i64 0, .int .i64 0, .int .i64 0, .int .i64 0] 38 := by rw [hW]; exact (Box.new (by simp)).old _
 have Bt : Box W1 (w.heap.size + 1 + 1 + 1 + 1) [.int .i64 a.x, .int .i64 a.y, .int .i64 b.x, .int .i64 b.y, .int .i64 c.x, .int .i64 c.y] 38 := by rw [hW]; exact Box.new (by simp)
 have hw : Below w.heap.size w W1 := by rw [hW]; go_grown
 clear hW
 refine wp_loop_rounds 4 ?_
 try rw [rounds_succ]
 have Fa := Ba.f
 have Fb := Bb.f
 have Fc := Bc.f
 have Fr := Br.f
 have Ft := Bt.f
 go_wp2_with fail
 refine (k0 _).mono ?_
 rintro e w2 ⟨rfl, hb⟩
 clear Fa Fb Fc Fr Ft
 replace Ba := Ba.ee hb
 replace Bb := Bb.ee hb
 replace Bc := Bc.ee hb
 replace Br := Br.ee hb
 replace Bt := Bt.ee hb
 replace hw := upB hw hb
 clear hb
 have Fa := Ba.f
 have Fb := Bb.f
 have Fc := Bc.f
 have Fr := Br.f
 have Ft := Bt.f
 go_wp2_with fail
 refine (co _).mono ?_
 rintro e w3 ⟨rfl, hb⟩
 clear Fa Fb Fc Fr Ft
 replace Ba := Ba.ee hb
 replace Bb := Bb.ee hb
 replace Bc := Bc.ee hb
 replace Br := Br.ee hb
 replace Bt := Bt.ee hb
 replace hw := upB hw hb
 clear hb
 have Fa := Ba.f
 have Fb := Bb.f
 have Fc := Bc.f
 have Fr := Br.f
 have Ft := Bt.f
 go_wp2_with fail
 refine (cv _).mono ?_
 rintro e w4 ⟨rfl, hb⟩
 clear Fa Fb Fc Fr Ft
 replace Ba := Ba.ee hb
 replace Bb := Bb.ee hb
 replace Bc := Bc.ee hb
 replace Br := Br.ee hb
 replace Bt := Bt.ee hb
 replace hw := upB hw hb
 clear hb
 have Fa := Ba.f
 have Fb := Bb.f
 have Fc := Bc.f
 have Fr := Br.f
 have Ft := Bt.f
 go_wp2_with fail
 refine bodyPost_ret (v := .tuple #[.agg #[.int .i64 a.x, .int .i64 a.y, .int .i64 b.x, .int .i64 b.y, .int .i64 c.x, .int .i64 c.y], .bool true]) (by simp [results, Tryz.results78, go_sem, Fr]) rfl ⟨rfl, by have hl := hw.size; go_grown⟩
theorem tmake_z0 (a b c : Pt) (l0 : lds ⟨a, b, c⟩ = true) (ho : decide (ori a b c < 0) = false) (hv : valT ⟨a, b, c⟩ = false) (w : World) :
    Calls Tryz.prog 78 #[.agg #[.int .i64 a.x, .int .i64 a.y], .agg #[.int .i64 b.x, .int .i64 b.y], .agg #[.int .i64 c.x, .int .i64 c.y]] w fun e w' => e = .returned (.tuple #[.agg #[.int .i64 0, .int .i64 0, .int .i64 0, .int .i64 0, .int .i64 0, .int .i64 0], .bool false]) ∧ Below w.heap.size w w' := by
 have k0 := zAk ⟨a, b, c⟩
 rw [l0] at k0
 dsimp only at k0
 have co := zA8 a b c
 have cv := zB3 ⟨a, b, c⟩
 rw [hv] at cv
 dsimp only at cv
 generalize ori a b c = n at *
 clear hv l0
 go_enter Tryz.func78, Tryz.ntmps78
 go_wp2_with fail
 refine zA2 fun W1 hW => ?_
 have Ba : Box W1 (w.heap.size) [.int .i64 a.x, .int .i64 a.y] 30 := by rw [hW]; exact ((((Box.new rfl).old _).old _).old _).old _
 have Bb : Box W1 (w.heap.size + 1) [.int .i64 b.x, .int .i64 b.y] 30 := by rw [hW]; exact (((Box.new (by simp)).old _).old _).old _
 have Bc : Box W1 (w.heap.size + 1 + 1) [.int .i64 c.x, .int .i64 c.y] 30 := by rw [hW]; exact ((Box.new (by simp)).old _).old _
 have Br : Box W1 (w.heap.size + 1 + 1 + 1) [.int .i64 0, .int .i64 0, .int .i64 0, .int .i64 0, .int .i64 0, .int .i64 0] 38 := by rw [hW]; exact (Box.new (by simp)).old _
 have Bt : Box W1 (w.heap.size + 1 + 1 + 1 + 1) [.int .i64 a.x, .int .i64 a.y, .int .i64 b.x, .int .i64 b.y, .int .i64 c.x, .int .i64 c.y] 38 := by rw [hW]; exact Box.new (by simp)
 have hw : Below w.heap.size w W1 := by rw [hW]; go_grown
 clear hW
 refine wp_loop_rounds 4 ?_
 try rw [rounds_succ]
 have Fa := Ba.f
 have Fb := Bb.f
 have Fc := Bc.f
 have Fr := Br.f
 have Ft := Bt.f
 go_wp2_with fail
 refine (k0 _).mono ?_
 rintro e w2 ⟨rfl, hb⟩
 clear Fa Fb Fc Fr Ft
 replace Ba := Ba.ee hb
 replace Bb := Bb.ee hb
 replace Bc := Bc.ee hb
 replace Br := Br.ee hb
 replace Bt := Bt.ee hb
 replace hw := upB hw hb
 clear hb
 have Fa := Ba.f
 have Fb := Bb.f
 have Fc := Bc.f
 have Fr := Br.f
 have Ft := Bt.f
 go_wp2_with fail
 refine (co _).mono ?_
 rintro e w3 ⟨rfl, hb⟩
 clear Fa Fb Fc Fr Ft
 replace Ba := Ba.ee hb
 replace Bb := Bb.ee hb
 replace Bc := Bc.ee hb
 replace Br := Br.ee hb
 replace Bt := Bt.ee hb
 replace hw := upB hw hb
 clear hb
 have Fa := Ba.f
 have Fb := Bb.f
 have Fc := Bc.f
 have Fr := Br.f
 have Ft := Bt.f
 go_wp2_with fail
 refine (cv _).mono ?_
 rintro e w4 ⟨rfl, hb⟩
 clear Fa Fb Fc Fr Ft
 replace Ba := Ba.ee hb
 replace Bb := Bb.ee hb
 replace Bc := Bc.ee hb
 replace Br := Br.ee hb
 replace Bt := Bt.ee hb
 replace hw := upB hw hb
 clear hb
 have Fa := Ba.f
 have Fb := Bb.f
 have Fc := Bc.f
 have Fr := Br.f
 have Ft := Bt.f
 go_wp2_with fail
 refine bodyPost_ret (v := .tuple #[.agg #[.int .i64 0, .int .i64 0, .int .i64 0, .int .i64 0, .int .i64 0, .int .i64 0], .bool false]) (by simp [results, Tryz.results78, go_sem, Fr]) rfl ⟨rfl, by have hl := hw.size; go_grown⟩
theorem tmake_n1 (a b c : Pt) (l0 : lds ⟨a, b, c⟩ = false) (l1 : lds ⟨b, c, a⟩ = true) (ho : decide (ori b c a < 0) = true) (hv : valT ⟨b, a, c⟩ = true) (w : World) :
    Calls Tryz.prog 78 #[.agg #[.int .i64 a.x, .int .i64 a.y], .agg #[.int .i64 b.x, .int .i64 b.y], .agg #[.int .i64 c.x, .int .i64 c.y]] w fun e w' => e = .returned (.tuple #[.agg #[.int .i64 b.x, .int .i64 b.y, .int .i64 a.x, .int .i64 a.y, .int .i64 c.x, .int .i64 c.y], .bool true]) ∧ Below w.heap.size w w' := by
 have k0 := zAk ⟨a, b, c⟩
 rw [l0] at k0
 dsimp only at k0
 have r0 := zBc ⟨a, b, c⟩
 dsimp only at r0
 have k1 := zAk ⟨b, c, a⟩
 rw [l1] at k1
 dsimp only at k1
 have co := zA8 b c a
 have cv := zB3 ⟨b, a, c⟩
 rw [hv] at cv
 dsimp only at cv
 generalize ori b c a = n at *
 clear hv l0 l1
 go_enter Tryz.func78, Tryz.ntmps78
 go_wp2_with fail
 refine zA2 fun W1 hW => ?_
 have Ba : Box W1 (w.heap.size) [.int .i64 a.x, .int .i64 a.y] 30 := by rw [hW]; exact ((((Box.new rfl).old _).old _).old _).old _
 have Bb : Box W1 (w.heap.size + 1) [.int .i64 b.x, .int .i64 b.y] 30 := by rw [hW]; exact (((Box.new (by simp)).old _).old _).old _
 have Bc : Box W1 (w.heap.size + 1 + 1) [.int .i64 c.x, .int .i64 c.y] 30 := by rw [hW]; exact ((Box.new (by simp)).old _).old _
 have Br : Box W1 (w.heap.size + 1 + 1 + 1) [.int .i64 0, .int .i64 0, .int .i64 0, .int .i64 0, .int .i64 0, .int .i64 0] 38 := by rw [hW]; exact (Box.new (by simp)).old _
 have Bt : Box W1 (w.heap.size + 1 + 1 + 1 + 1) [.int .i64 a.x, .int .i64 a.y, .int .i64 b.x, .int .i64 b.y, .int .i64 c.x, .int .i64 c.y] 38 := by rw [hW]; exact Box.new (by simp)
 have hw : Below w.heap.size w W1 := by rw [hW]; go_grown
 clear hW
 refine wp_loop_rounds 4 ?_
 try rw [rounds_succ]
 have Fa := Ba.f
 have Fb := Bb.f
 have Fc := Bc.f
 have Fr := Br.f
 have Ft := Bt.f
 go_wp2_with fail
 refine (k0 _).mono ?_
 rintro e w2 ⟨rfl, hb⟩
 clear Fa Fb Fc Fr Ft
 replace Ba := Ba.ee hb
 replace Bb := Bb.ee hb
 replace Bc := Bc.ee hb
 replace Br := Br.ee hb
 replace Bt := Bt.ee hb
 replace hw := upB hw hb
 clear hb
 have Fa := Ba.f
 have Fb := Bb.f
 have Fc := Bc.f
 have Fr := Br.f
 have Ft := Bt.f
 go_wp2_with fail
 refine (r0 _).mono ?_
 rintro e w3 ⟨rfl, hb⟩
 clear Fa Fb Fc Fr Ft
 replace Ba := Ba.ee hb
 replace Bb := Bb.ee hb
 replace Bc := Bc.ee hb
 replace Br := Br.ee hb
 replace Bt := Bt.ee hb
 replace hw := upB hw hb
 clear hb
 have Fa := Ba.f
 have Fb := Bb.f
 have Fc := Bc.f
 have Fr := Br.f
 have Ft := Bt.f
 go_wp2_with fail
 refine zA2 fun W4 hW => ?_
 have Ca : Box W4 (w.heap.size) [.int .i64 a.x, .int .i64 a.y] 30 := by rw [hW]; exact ((((((Ba.sn (w.heap.size + 1 + 1 + 1 + 1) 0 ((.int .i64 b.x)) (by first | assumption | omega)).sn (w.heap.size + 1 + 1 + 1 + 1) 1 ((.int .i64 b.y)) (by first | assumption | omega)).sn (w.heap.size + 1 + 1 + 1 + 1) 2 ((.int .i64 c.x)) (by first | assumption | omega)).sn (w.heap.size + 1 + 1 + 1 + 1) 3 ((.int .i64 c.y)) (by first | assumption | omega)).sn (w.heap.size + 1 + 1 + 1 + 1) 4 ((.int .i64 a.x)) (by first | assumption | omega)).sn (w.heap.size + 1 + 1 + 1 + 1) 5 ((.int .i64 a.y)) (by first | assumption | omega))
 have Cb : Box W4 (w.heap.size + 1) [.int .i64 b.x, .int .i64 b.y] 30 := by rw [hW]; exact ((((((Bb.sn (w.heap.size + 1 + 1 + 1 + 1) 0 ((.int .i64 b.x)) (by first | assumption | omega)).sn (w.heap.size + 1 + 1 + 1 + 1) 1 ((.int .i64 b.y)) (by first | assumption | omega)).sn (w.heap.size + 1 + 1 + 1 + 1) 2 ((.int .i64 c.x)) (by first | assumption | omega)).sn (w.heap.size + 1 + 1 + 1 + 1) 3 ((.int .i64 c.y)) (by first | assumption | omega)).sn (w.heap.size + 1 + 1 + 1 + 1) 4 ((.int .i64 a.x)) (by first | assumption | omega)).sn (w.heap.size + 1 + 1 + 1 + 1) 5 ((.int .i64 a.y)) (by first | assumption | omega))
 have Cc : Box W4 (w.heap.size + 1 + 1) [.int .i64 c.x, .int .i64 c.y] 30 := by rw [hW]; exact ((((((Bc.sn (w.heap.size + 1 + 1 + 1 + 1) 0 ((.int .i64 b.x)) (by first | assumption | omega)).sn (w.heap.size + 1 + 1 + 1 + 1) 1 ((.int .i64 b.y)) (by first | assumption | omega)).sn (w.heap.size + 1 + 1 + 1 + 1) 2 ((.int .i64 c.x)) (by first | assumption | omega)).sn (w.heap.size + 1 + 1 + 1 + 1) 3 ((.int .i64 c.y)) (by first | assumption | omega)).sn (w.heap.size + 1 + 1 + 1 + 1) 4 ((.int .i64 a.x)) (by first | assumption | omega)).sn (w.heap.size + 1 + 1 + 1 + 1) 5 ((.int .i64 a.y)) (by first | assumption | omega))
 have Cr : Box W4 (w.heap.size + 1 + 1 + 1) [.int .i64 0, .int .i64 0, .int .i64 0, .int .i64 0, .int .i64 0, .int .i64 0] 38 := by rw [hW]; exact ((((((Br.sn (w.heap.size + 1 + 1 + 1 + 1) 0 ((.int .i64 b.x)) (by first | assumption | omega)).sn (w.heap.size + 1 + 1 + 1 + 1) 1 ((.int .i64 b.y)) (by first | assumption | omega)).sn (w.heap.size + 1 + 1 + 1 + 1) 2 ((.int .i64 c.x)) (by first | assumption | omega)).sn (w.heap.size + 1 + 1 + 1 + 1) 3 ((.int .i64 c.y)) (by first | assumption | omega)).sn (w.heap.size + 1 + 1 + 1 + 1) 4 ((.int .i64 a.x)) (by first | assumption | omega)).sn (w.heap.size + 1 + 1 + 1 + 1) 5 ((.int .i64 a.y)) (by first | assumption | omega))
 have Ct : Box W4 (w.heap.size + 1 + 1 + 1 + 1) [(.int .i64 b.x), (.int .i64 b.y), (.int .i64 c.x), (.int .i64 c.y), (.int .i64 a.x), (.int .i64 a.y)] 38 := by rw [hW]; exact ((((((Bt.set 0 ((.int .i64 b.x))).set 1 ((.int .i64 b.y))).set 2 ((.int .i64 c.x))).set 3 ((.int .i64 c.y))).set 4 ((.int .i64 a.x))).set 5 ((.int .i64 a.y)))
 replace hw : Below w.heap.size w W4 := by have hl := hw.size; rw [hW]; go_grown
 clear Fa Fb Fc Fr Ft
 clear hW Ba Bb Bc Br Bt
 have Ba := Ca
 have Bb := Cb
 have Bc := Cc
 have Br := Cr
 have Bt := Ct
 clear Ca Cb Cc Cr Ct
 try rw [rounds_succ]
 have Fa := Ba.f
 have Fb := Bb.f
 have Fc := Bc.f
 have Fr := Br.f
 have Ft := Bt.f
 go_wp2_with fail
 refine (k1 _).mono ?_
 rintro e w5 ⟨rfl, hb⟩
 clear Fa Fb Fc Fr Ft
 replace Ba := Ba.ee hb
 replace Bb := Bb.ee hb
 replace Bc := Bc.ee hb
 replace Br := Br.ee hb
 replace Bt := Bt.ee hb
 replace hw := upB hw hb
 clear hb
 have Fa := Ba.f
 have Fb := Bb.f
 have Fc := Bc.f
 have Fr := Br.f
 have Ft := Bt.f
 go_wp2_with fail
 refine (co _).mono ?_
 rintro e w6 ⟨rfl, hb⟩
 clear Fa Fb Fc Fr Ft
 replace Ba := Ba.ee hb
 replace Bb := Bb.ee hb
 replace Bc := Bc.ee hb
 replace Br := Br.ee hb
 replace Bt := Bt.ee hb
 replace hw := upB hw hb
 clear hb
 have Fa := Ba.f
 have Fb := Bb.f
 have Fc := Bc.f
 have Fr := Br.f
 have Ft := Bt.f
 go_wp2_with fail
 refine zA1 fun W7 hW => ?_
 have Ca : Box W7 (w.heap.size) [.int .i64 a.x, .int .i64 a.y] 30 := by rw [hW]; exact ((((Ba.set_ne ⟨w.heap.size + 1 + 1 + 1 + 1, 2, none⟩ ((.int .i64 a.x)) (by first | assumption | (show (w.heap.size + 1 + 1 + 1 + 1 : Nat) ≠ _; omega))).set_ne ⟨w.heap.size + 1 + 1 + 1 + 1, 3, none⟩ ((.int .i64 a.y)) (by first | assumption | (show (w.heap.size + 1 + 1 + 1 + 1 : Nat) ≠ _; omega))).set_ne ⟨w.heap.size + 1 + 1 + 1 + 1, 4, none⟩ ((.int .i64 c.x)) (by first | assumption | (show (w.heap.size + 1 + 1 + 1 + 1 : Nat) ≠ _; omega))).set_ne ⟨w.heap.size + 1 + 1 + 1 + 1, 5, none⟩ ((.int .i64 c.y)) (by first | assumption | (show (w.heap.size + 1 + 1 + 1 + 1 : Nat) ≠ _; omega)))
 have Cb : Box W7 (w.heap.size + 1) [.int .i64 b.x, .int .i64 b.y] 30 := by rw [hW]; exact ((((Bb.set_ne ⟨w.heap.size + 1 + 1 + 1 + 1, 2, none⟩ ((.int .i64 a.x)) (by first | assumption | (show (w.heap.size + 1 + 1 + 1 + 1 : Nat) ≠ _; omega))).set_ne ⟨w.heap.size + 1 + 1 + 1 + 1, 3, none⟩ ((.int .i64 a.y)) (by first | assumption | (show (w.heap.size + 1 + 1 + 1 + 1 : Nat) ≠ _; omega))).set_ne ⟨w.heap.size + 1 + 1 + 1 + 1, 4, none⟩ ((.int .i64 c.x)) (by first | assumption | (show (w.heap.size + 1 + 1 + 1 + 1 : Nat) ≠ _; omega))).set_ne ⟨w.heap.size + 1 + 1 + 1 + 1, 5, none⟩ ((.int .i64 c.y)) (by first | assumption | (show (w.heap.size + 1 + 1 + 1 + 1 : Nat) ≠ _; omega)))
 have Cc : Box W7 (w.heap.size + 1 + 1) [.int .i64 c.x, .int .i64 c.y] 30 := by rw [hW]; exact ((((Bc.set_ne ⟨w.heap.size + 1 + 1 + 1 + 1, 2, none⟩ ((.int .i64 a.x)) (by first | assumption | (show (w.heap.size + 1 + 1 + 1 + 1 : Nat) ≠ _; omega))).set_ne ⟨w.heap.size + 1 + 1 + 1 + 1, 3, none⟩ ((.int .i64 a.y)) (by first | assumption | (show (w.heap.size + 1 + 1 + 1 + 1 : Nat) ≠ _; omega))).set_ne ⟨w.heap.size + 1 + 1 + 1 + 1, 4, none⟩ ((.int .i64 c.x)) (by first | assumption | (show (w.heap.size + 1 + 1 + 1 + 1 : Nat) ≠ _; omega))).set_ne ⟨w.heap.size + 1 + 1 + 1 + 1, 5, none⟩ ((.int .i64 c.y)) (by first | assumption | (show (w.heap.size + 1 + 1 + 1 + 1 : Nat) ≠ _; omega)))
 have Cr : Box W7 (w.heap.size + 1 + 1 + 1) [.int .i64 0, .int .i64 0, .int .i64 0, .int .i64 0, .int .i64 0, .int .i64 0] 38 := by rw [hW]; exact ((((Br.set_ne ⟨w.heap.size + 1 + 1 + 1 + 1, 2, none⟩ ((.int .i64 a.x)) (by first | assumption | (show (w.heap.size + 1 + 1 + 1 + 1 : Nat) ≠ _; omega))).set_ne ⟨w.heap.size + 1 + 1 + 1 + 1, 3, none⟩ ((.int .i64 a.y)) (by first | assumption | (show (w.heap.size + 1 + 1 + 1 + 1 : Nat) ≠ _; omega))).set_ne ⟨w.heap.size + 1 + 1 + 1 + 1, 4, none⟩ ((.int .i64 c.x)) (by first | assumption | (show (w.heap.size + 1 + 1 + 1 + 1 : Nat) ≠ _; omega))).set_ne ⟨w.heap.size + 1 + 1 + 1 + 1, 5, none⟩ ((.int .i64 c.y)) (by first | assumption | (show (w.heap.size + 1 + 1 + 1 + 1 : Nat) ≠ _; omega)))
 have Ct : Box W7 (w.heap.size + 1 + 1 + 1 + 1) [.int .i64 b.x, .int .i64 b.y, .int .i64 a.x, .int .i64 a.y, .int .i64 c.x, .int .i64 c.y] 38 := by rw [hW]; exact ((((Bt.set 2 ((.int .i64 a.x))).set 3 ((.int .i64 a.y))).set 4 ((.int .i64 c.x))).set 5 ((.int .i64 c.y)))
 replace hw : Below w.heap.size w W7 := by have hl := hw.size; rw [hW]; go_grown
 clear Fa Fb Fc Fr Ft
 clear hW Ba Bb Bc Br Bt
 have Ba := Ca
 have Bb := Cb
 have Bc := Cc
 have Br := Cr
 have Bt := Ct
 clear Ca Cb Cc Cr Ct
 refine (cv _).mono ?_
 rintro e w8 ⟨rfl, hb⟩
 replace Ba := Ba.ee hb
 replace Bb := Bb.ee hb
 replace Bc := Bc.ee hb
 replace Br := Br.ee hb
 replace Bt := Bt.ee hb
 replace hw := upB hw hb
 clear hb
 have Fa := Ba.f
 have Fb := Bb.f
 have Fc := Bc.f
 have Fr := Br.f
 have Ft := Bt.f
 go_wp2_with fail
 refine bodyPost_ret (v := .tuple #[.agg #[.int .i64 b.x, .int .i64 b.y, .int .i64 a.x, .int .i64 a.y, .int .i64 c.x, .int .i64 c.y], .bool true]) (by simp [results, Tryz.results78, go_sem, Fr]) rfl ⟨rfl, by have hl := hw.size; go_grown⟩
theorem tmake_p1 (a b c : Pt) (l0 : lds ⟨a, b, c⟩ = false) (l1 : lds ⟨b, c, a⟩ = true) (ho : decide (ori b c a < 0) = false) (hv : valT ⟨b, c, a⟩ = true) (w : World) :
    Calls Tryz.prog 78 #[.agg #[.int .i64 a.x, .int .i64 a.y], .agg #[.int .i64 b.x, .int .i64 b.y], .agg #[.int .i64 c.x, .int .i64 c.y]] w fun e w' => e = .returned (.tuple #[.agg #[.int .i64 b.x, .int .i64 b.y, .int .i64 c.x, .int .i64 c.y, .int .i64 a.x, .int .i64 a.y], .bool true]) ∧ Below w.heap.size w w' := by
 have k0 := zAk ⟨a, b, c⟩
 rw [l0] at k0
 dsimp only at k0
 have r0 := zBc ⟨a, b, c⟩
 dsimp only at r0
 have k1 := zAk ⟨b, c, a⟩
 rw [l1] at k1
 dsimp only at k1
 have co := zA8 b c a
 have cv := zB3 ⟨b, c, a⟩
 rw [hv] at cv
 dsimp only at cv
 generalize ori b c a = n at *
 clear hv l0 l1
 go_enter Tryz.func78, Tryz.ntmps78
 go_wp2_with fail
 refine zA2 fun W1 hW => ?_
 have Ba : Box W1 (w.heap.size) [.int .i64 a.x, .int .i64 a.y] 30 := by rw [hW]; exact ((((Box.new rfl).old _).old _).old _).old _
 have Bb : Box W1 (w.heap.size + 1) [.int .i64 b.x, .int .i64 b.y] 30 := by rw [hW]; exact (((Box.new (by simp)).old _).old _).old _
 have Bc : Box W1 (w.heap.size + 1 + 1) [.int .i64 c.x, .int .i64 c.y] 30 := by rw [hW]; exact ((Box.new (by simp)).old _).old _
 have Br : Box W1 (w.heap.size + 1 + 1 + 1) [.int .i64 0, .int .i64 0, .int .i64 0, .int .i64 0, .int .i64 0, .int .i64 0] 38 := by rw [hW]; exact (Box.new (by simp)).old _
 have Bt : Box W1 (w.heap.size + 1 + 1 + 1 + 1) [.int .i64 a.x, .int .i64 a.y, .int .i64 b.x, .int .i64 b.y, .int .i64 c.x, .int .i64 c.y] 38 := by rw [hW]; exact Box.new (by simp)
 have hw : Below w.heap.size w W1 := by rw [hW]; go_grown
 clear hW
 refine wp_loop_rounds 4 ?_
 try rw [rounds_succ]
 have Fa := Ba.f
 have Fb := Bb.f
 have Fc := Bc.f
 have Fr := Br.f
 have Ft := Bt.f
 go_wp2_with fail
 refine (k0 _).mono ?_
 rintro e w2 ⟨rfl, hb⟩
 clear Fa Fb Fc Fr Ft
 replace Ba := Ba.ee hb
 replace Bb := Bb.ee hb
 replace Bc := Bc.ee hb
 replace Br := Br.ee hb
 replace Bt := Bt.ee hb
 replace hw := upB hw hb
 clear hb
 have Fa := Ba.f
 have Fb := Bb.f
 have Fc := Bc.f
 have Fr := Br.f
 have Ft := Bt.f
 go_wp2_with fail
 refine (r0 _).mono ?_
 rintro e w3 ⟨rfl, hb⟩
 clear Fa Fb Fc Fr Ft
 replace Ba := Ba.ee hb
 replace Bb := Bb.ee hb
 replace Bc := Bc.ee hb
 replace Br := Br.ee hb
 replace Bt := Bt.ee hb
 replace hw := upB hw hb
 clear hb
 have Fa := Ba.f
 have Fb := Bb.f
 have Fc := Bc.f
 have Fr := Br.f
 have Ft := Bt.f
 go_wp2_with fail
 refine zA2 fun W4 hW => ?_
 have Ca : Box W4 (w.heap.size) [.int .i64 a.x, .int .i64 a.y] 30 := by rw [hW]; exact ((((((Ba.sn (w.heap.size + 1 + 1 + 1 + 1) 0 ((.int .i64 b.x)) (by first | assumption | omega)).sn (w.heap.size + 1 + 1 + 1 + 1) 1 ((.int .i64 b.y)) (by first | assumption | omega)).sn (w.heap.size + 1 + 1 + 1 + 1) 2 ((.int .i64 c.x)) (by first | assumption | omega)).sn (w.heap.size + 1 + 1 + 1 + 1) 3 ((.int .i64 c.y)) (by first | assumption | omega)).sn (w.heap.size + 1 + 1 + 1 + 1) 4 ((.int .i64 a.x)) (by first | assumption | omega)).sn (w.heap.size + 1 + 1 + 1 + 1) 5 ((.int .i64 a.y)) (by first | assumption | omega))
 have Cb : Box W4 (w.heap.size + 1) [.int .i64 b.x, .int .i64 b.y] 30 := by rw [hW]; exact ((((((Bb.sn (w.heap.size + 1 + 1 + 1 + 1) 0 ((.int .i64 b.x)) (by first | assumption | omega)).sn (w.heap.size + 1 + 1 + 1 + 1) 1 ((.int .i64 b.y)) (by first | assumption | omega)).sn (w.heap.size + 1 + 1 + 1 + 1) 2 ((.int .i64 c.x)) (by first | assumption | omega)).sn (w.heap.size + 1 + 1 + 1 + 1) 3 ((.int .i64 c.y)) (by first | assumption | omega)).sn (w.heap.size + 1 + 1 + 1 + 1) 4 ((.int .i64 a.x)) (by first | assumption | omega)).sn (w.heap.size + 1 + 1 + 1 + 1) 5 ((.int .i64 a.y)) (by first | assumption | omega))
 have Cc : Box W4 (w.heap.size + 1 + 1) [.int .i64 c.x, .int .i64 c.y] 30 := by rw [hW]; exact ((((((Bc.sn (w.heap.size + 1 + 1 + 1 + 1) 0 ((.int .i64 b.x)) (by first | assumption | omega)).sn (w.heap.size + 1 + 1 + 1 + 1) 1 ((.int .i64 b.y)) (by first | assumption | omega)).sn (w.heap.size + 1 + 1 + 1 + 1) 2 ((.int .i64 c.x)) (by first | assumption | omega)).sn (w.heap.size + 1 + 1 + 1 + 1) 3 ((.int .i64 c.y)) (by first | assumption | omega)).sn (w.heap.size + 1 + 1 + 1 + 1) 4 ((.int .i64 a.x)) (by first | assumption | omega)).sn (w.heap.size + 1 + 1 + 1 + 1) 5 ((.int .i64 a.y)) (by first | assumption | omega))
 have Cr : Box W4 (w.heap.size + 1 + 1 + 1) [.int .i64 0, .int .i64 0, .int .i64 0, .int .i64 0, .int .i64 0, .int .i64 0] 38 := by rw [hW]; exact ((((((Br.sn (w.heap.size + 1 + 1 + 1 + 1) 0 ((.int .i64 b.x)) (by first | assumption | omega)).sn (w.heap.size + 1 + 1 + 1 + 1) 1 ((.int .i64 b.y)) (by first | assumption | omega)).sn (w.heap.size + 1 + 1 + 1 + 1) 2 ((.int .i64 c.x)) (by first | assumption | omega)).sn (w.heap.size + 1 + 1 + 1 + 1) 3 ((.int .i64 c.y)) (by first | assumption | omega)).sn (w.heap.size + 1 + 1 + 1 + 1) 4 ((.int .i64 a.x)) (by first | assumption | omega)).sn (w.heap.size + 1 + 1 + 1 + 1) 5 ((.int .i64 a.y)) (by first | assumption | omega))
 have Ct : Box W4 (w.heap.size + 1 + 1 + 1 + 1) [(.int .i64 b.x), (.int .i64 b.y), (.int .i64 c.x), (.int .i64 c.y), (.int .i64 a.x), (.int .i64 a.y)] 38 := by rw [hW]; exact ((((((Bt.set 0 ((.int .i64 b.x))).set 1 ((.int .i64 b.y))).set 2 ((.int .i64 c.x))).set 3 ((.int .i64 c.y))).set 4 ((.int .i64 a.x))).set 5 ((.int .i64 a.y)))
 replace hw : Below w.heap.size w W4 := by have hl := hw.size; rw [hW]; go_grown
 clear Fa Fb Fc Fr Ft
 clear hW Ba Bb Bc Br Bt
 have Ba := Ca
 have Bb := Cb
 have Bc := Cc
 have Br := Cr
 have Bt := Ct
 clear Ca Cb Cc Cr Ct
 try rw [rounds_succ]
 have Fa := Ba.f
 have Fb := Bb.f
 have Fc := Bc.f
 have Fr := Br.f
 have Ft := Bt.f
 go_wp2_with fail
 refine (k1 _).mono ?_
 rintro e w5 ⟨rfl, hb⟩
 clear Fa Fb Fc Fr Ft
 replace Ba := Ba.ee hb
 replace Bb := Bb.ee hb
 replace Bc := Bc.ee hb
 replace Br := Br.ee hb
 replace Bt := Bt.ee hb
 replace hw := upB hw hb
 clear hb
 have Fa := Ba.f
 have Fb := Bb.f
 have Fc := Bc.f
 have Fr := Br.f
 have Ft := Bt.f
 go_wp2_with fail
 refine (co _).mono ?_
 rintro e w6 ⟨rfl, hb⟩
 clear Fa Fb Fc Fr Ft
 replace Ba := Ba.ee hb
 replace Bb := Bb.ee hb
 replace Bc := Bc.ee hb
 replace Br := Br.ee hb
 replace Bt := Bt.ee hb
 replace hw := upB hw hb
 clear hb
 have Fa := Ba.f
 have Fb := Bb.f
 have Fc := Bc.f
 have Fr := Br.f
 have Ft := Bt.f
 go_wp2_with fail
 refine (cv _).mono ?_
 rintro e w7 ⟨rfl, hb⟩
 clear Fa Fb Fc Fr Ft
 replace Ba := Ba.ee hb
 replace Bb := Bb.ee hb
 replace Bc := Bc.ee hb
 replace Br := Br.ee hb
 replace Bt := Bt.ee hb
 replace hw := upB hw hb
 clear hb
 have Fa := Ba.f
 have Fb := Bb.f
 have Fc := Bc.f
 have Fr := Br.f
 have Ft := Bt.f
 go_wp2_with fail
 refine bodyPost_ret (v := .tuple #[.agg #[.int .i64 b.x, .int .i64 b.y, .int .i64 c.x, .int .i64 c.y, .int .i64 a.x, .int .i64 a.y], .bool true]) (by simp [results, Tryz.results78, go_sem, Fr]) rfl ⟨rfl, by have hl := hw.size; go_grown⟩
theorem tmake_z1 (a b c : Pt) (l0 : lds ⟨a, b, c⟩ = false) (l1 : lds ⟨b, c, a⟩ = true) (ho : decide (ori b c a < 0) = false) (hv : valT ⟨b, c, a⟩ = false) (w : World) :
    Calls Tryz.prog 78 #[.agg #[.int .i64 a.x, .int .i64 a.y], .agg #[.int .i64 b.x, .int .i64 b.y], .agg #[.int .i64 c.x, .int .i64 c.y]] w fun e w' => e = .returned (.tuple #[.agg #[.int .i64 0, .int .i64 0, .int .i64 0, .int .i64 0, .int .i64 0, .int .i64 0], .bool false]) ∧ Below w.heap.size w w' := by
 have k0 := zAk ⟨a, b, c⟩
 rw [l0] at k0
 dsimp only at k0
 have r0 := zBc ⟨a, b, c⟩
 dsimp only at r0
 have k1 := zAk ⟨b, c, a⟩
 rw [l1] at k1
 dsimp only at k1
 have co := zA8 b c a
 have cv := zB3 ⟨b, c, a⟩
 rw [hv] at cv
 dsimp only at cv
 generalize ori b c a = n at *
 clear hv l0 l1
 go_enter Tryz.func78, Tryz.ntmps78
 go_wp2_with fail
 refine zA2 fun W1 hW => ?_
 have Ba : Box W1 (w.heap.size) [.int .i64 a.x, .int .i64 a.y] 30 := by rw [hW]; exact ((((Box.new rfl).old _).old _).old _).old _
 have Bb : Box W1 (w.heap.size + 1) [.int .i64 b.x, .int .i64 b.y] 30 := by rw [hW]; exact (((Box.new (by simp)).old _).old _).old _
 have Bc : Box W1 (w.heap.size + 1 + 1) [.int .i64 c.x, .int .i64 c.y] 30 := by rw [hW]; exact ((Box.new (by simp)).old _).old _
 have Br : Box W1 (w.heap.size + 1 + 1 + 1) [.int .i64 0, .int .i64 0, .int .i64 0, .int .i64 0, .int .i64 0, .int .i64 0] 38 := by rw [hW]; exact (Box.new (by simp)).old _
 have Bt : Box W1 (w.heap.size + 1 + 1 + 1 + 1) [.int .i64 a.x, .int .i64 a.y, .int .i64 b.x, .int .i64 b.y, .int .i64 c.x, .int .i64 c.y] 38 := by rw [hW]; exact Box.new (by simp)
 have hw : Below w.heap.size w W1 := by rw [hW]; go_grown
 clear hW
 refine wp_loop_rounds 4 ?_
 try rw [rounds_succ]
 have Fa := Ba.f
 have Fb := Bb.f
 have Fc := Bc.f
 have Fr := Br.f
 have Ft := Bt.f
 go_wp2_with fail
 refine (k0 _).mono ?_
 rintro e w2 ⟨rfl, hb⟩
 clear Fa Fb Fc Fr Ft
 replace Ba := Ba.ee hb
 replace Bb := Bb.ee hb
 replace Bc := Bc.ee hb
 replace Br := Br.ee hb
 replace Bt := Bt.ee hb
 replace hw := upB hw hb
 clear hb
 have Fa := Ba.f
 have Fb := Bb.f
 have Fc := Bc.f
 have Fr := Br.f
 have Ft := Bt.f
 go_wp2_with fail
 refine (r0 _).mono ?_
 rintro e w3 ⟨rfl, hb⟩
 clear Fa Fb Fc Fr Ft
 replace Ba := Ba.ee hb
 replace Bb := Bb.ee hb
 replace Bc := Bc.ee hb
 replace Br := Br.ee hb
 replace Bt := Bt.ee hb
 replace hw := upB hw hb
 clear hb
 have Fa := Ba.f
 have Fb := Bb.f
 have Fc := Bc.f
 have Fr := Br.f
 have Ft := Bt.f
 go_wp2_with fail
 refine zA2 fun W4 hW => ?_
 have Ca : Box W4 (w.heap.size) [.int .i64 a.x, .int .i64 a.y] 30 := by rw [hW]; exact ((((((Ba.sn (w.heap.size + 1 + 1 + 1 + 1) 0 ((.int .i64 b.x)) (by first | assumption | omega)).sn (w.heap.size + 1 + 1 + 1 + 1) 1 ((.int .i64 b.y)) (by first | assumption | omega)).sn (w.heap.size + 1 + 1 + 1 + 1) 2 ((.int .i64 c.x)) (by first | assumption | omega)).sn (w.heap.size + 1 + 1 + 1 + 1) 3 ((.int .i64 c.y)) (by first | assumption | omega)).sn (w.heap.size + 1 + 1 + 1 + 1) 4 ((.int .i64 a.x)) (by first | assumption | omega)).sn (w.heap.size + 1 + 1 + 1 + 1) 5 ((.int .i64 a.y)) (by first | assumption | omega))
 have Cb : Box W4 (w.heap.size + 1) [.int .i64 b.x, .int .i64 b.y] 30 := by rw [hW]; exact ((((((Bb.sn (w.heap.size + 1 + 1 + 1 + 1) 0 ((.int .i64 b.x)) (by first | assumption | omega)).sn (w.heap.size + 1 + 1 + 1 + 1) 1 ((.int .i64 b.y)) (by first | assumption | omega)).sn (w.heap.size + 1 + 1 + 1 + 1) 2 ((.int .i64 c.x)) (by first | assumption | omega)).sn (w.heap.size + 1 + 1 + 1 + 1) 3 ((.int .i64 c.y)) (by first | assumption | omega)).sn (w.heap.size + 1 + 1 + 1 + 1) 4 ((.int .i64 a.x)) (by first | assumption | omega)).sn (w.heap.size + 1 + 1 + 1 + 1) 5 ((.int .i64 a.y)) (by first | assumption | omega))
 have Cc : Box W4 (w.heap.size + 1 + 1) [.int .i64 c.x, .int .i64 c.y] 30 := by rw [hW]; exact ((((((Bc.sn (w.heap.size + 1 + 1 + 1 + 1) 0 ((.int .i64 b.x)) (by first | assumption | omega)).sn (w.heap.size + 1 + 1 + 1 + 1) 1 ((.int .i64 b.y)) (by first | assumption | omega)).sn (w.heap.size + 1 + 1 + 1 + 1) 2 ((.int .i64 c.x)) (by first | assumption | omega)).sn (w.heap.size + 1 + 1 + 1 + 1) 3 ((.int .i64 c.y)) (by first | assumption | omega)).sn (w.heap.size + 1 + 1 + 1 + 1) 4 ((.int .i64 a.x)) (by first | assumption | omega)).sn (w.heap.size + 1 + 1 + 1 + 1) 5 ((.int .i64 a.y)) (by first | assumption | omega))
 have Cr : Box W4 (w.heap.size + 1 + 1 + 1) [.int .i64 0, .int .i64 0, .int .i64 0, .int .i64 0, .int .i64 0, .int .i64 0] 38 := by rw [hW]; exact ((((((Br.sn (w.heap.size + 1 + 1 + 1 + 1) 0 ((.int .i64 b.x)) (by first | assumption | omega)).sn (w.heap.size + 1 + 1 + 1 + 1) 1 ((.int .i64 b.y)) (by first | assumption | omega)).sn (w.heap.size + 1 + 1 + 1 + 1) 2 ((.int .i64 c.x)) (by first | assumption | omega)).sn (w.heap.size + 1 + 1 + 1 + 1) 3 ((.int .i64 c.y)) (by first | assumption | omega)).sn (w.heap.size + 1 + 1 + 1 + 1) 4 ((.int .i64 a.x)) (by first | assumption | omega)).sn (w.heap.size + 1 + 1 + 1 + 1) 5 ((.int .i64 a.y)) (by first | assumption | omega))
 have Ct : Box W4 (w.heap.size + 1 + 1 + 1 + 1) [(.int .i64 b.x), (.int .i64 b.y), (.int .i64 c.x), (.int .i64 c.y), (.int .i64 a.x), (.int .i64 a.y)] 38 := by rw [hW]; exact ((((((Bt.set 0 ((.int .i64 b.x))).set 1 ((.int .i64 b.y))).set 2 ((.int .i64 c.x))).set 3 ((.int .i64 c.y))).set 4 ((.int .i64 a.x))).set 5 ((.int .i64 a.y)))
 replace hw : Below w.heap.size w W4 := by have hl := hw.size; rw [hW]; go_grown
 clear Fa Fb Fc Fr Ft
 clear hW Ba Bb Bc Br Bt
 have Ba := Ca
 have Bb := Cb
 have Bc := Cc
 have Br := Cr
 have Bt := Ct
 clear Ca Cb Cc Cr Ct
 try rw [rounds_succ]
 have Fa := Ba.f
 have Fb := Bb.f
 have Fc := Bc.f
 have Fr := Br.f
 have Ft := Bt.f
 go_wp2_with fail
 refine (k1 _).mono ?_
 rintro e w5 ⟨rfl, hb⟩
 clear Fa Fb Fc Fr Ft
 replace Ba := Ba.ee hb
 replace Bb := Bb.ee hb
 replace Bc := Bc.ee hb
 replace Br := Br.ee hb
 replace Bt := Bt.ee hb
 replace hw := upB hw hb
 clear hb
 have Fa := Ba.f
 have Fb := Bb.f
 have Fc := Bc.f
 have Fr := Br.f
 have Ft := Bt.f
 go_wp2_with fail
 refine (co _).mono ?_
 rintro e w6 ⟨rfl, hb⟩
 clear Fa Fb Fc Fr Ft
 replace Ba := Ba.ee hb
 replace Bb := Bb.ee hb
 replace Bc := Bc.ee hb
 replace Br := Br.ee hb
 replace Bt := Bt.ee hb
 replace hw := upB hw hb
 clear hb
 have Fa := Ba.f
 have Fb := Bb.f
 have Fc := Bc.f
 have Fr := Br.f
 have Ft := Bt.f
 go_wp2_with fail
 refine (cv _).mono ?_
 rintro e w7 ⟨rfl, hb⟩
 clear Fa Fb Fc Fr Ft
 replace Ba := Ba.ee hb
 replace Bb := Bb.ee hb
 replace Bc := Bc.ee hb
 replace Br := Br.ee hb
 replace Bt := Bt.ee hb
 replace hw := upB hw hb
 clear hb
 have Fa := Ba.f
 have Fb := Bb.f
 have Fc := Bc.f
 have Fr := Br.f
 have Ft := Bt.f
 go_wp2_with fail
 refine bodyPost_ret (v := .tuple #[.agg #[.int .i64 0, .int .i64 0, .int .i64 0, .int .i64 0, .int .i64 0, .int .i64 0], .bool false]) (by simp [results, Tryz.results78, go_sem, Fr]) rfl ⟨rfl, by have hl := hw.size; go_grown⟩
theorem tmake_n2 (a b c : Pt) (l0 : lds ⟨a, b, c⟩ = false) (l1 : lds ⟨b, c, a⟩ = false) (l2 : lds ⟨c, a, b⟩ = true) (ho : decide (ori c a b < 0) = true) (hv : valT ⟨c, b, a⟩ = true) (w : World) :
    Calls Tryz.prog 78 #[.agg #[.int .i64 a.x, .int .i64 a.y], .agg #[.int .i64 b.x, .int .i64 b.y], .agg #[.int .i64 c.x, .int .i64 c.y]] w fun e w' => e = .returned (.tuple #[.agg #[.int .i64 c.x, .int .i64 c.y, .int .i64 b.x, .int .i64 b.y, .int .i64 a.x, .int .i64 a.y], .bool true]) ∧ Below w.heap.size w w' := by
 have k0 := zAk ⟨a, b, c⟩
 rw [l0] at k0
 dsimp only at k0
 have r0 := zBc ⟨a, b, c⟩
 dsimp only at r0
 have k1 := zAk ⟨b, c, a⟩
 rw [l1] at k1
 dsimp only at k1
 have r1 := zBc ⟨b, c, a⟩
 dsimp only at r1
 have k2 := zAk ⟨c, a, b⟩
 rw [l2] at k2
 dsimp only at k2
 have co := zA8 c a b
 have cv := zB3 ⟨c, b, a⟩
 rw [hv] at cv
 dsimp only at cv
 generalize ori c a b = n at *
 clear hv l0 l1 l2
 go_enter Tryz.func78, Tryz.ntmps78
 go_wp2_with fail
 refine zA2 fun W1 hW => ?_
 have Ba : Box W1 (w.heap.size) [.int .i64 a.x, .int .i64 a.y] 30 := by rw [hW]; exact ((((Box.new rfl).old _).old _).old _).old _
 have Bb : Box W1 (w.heap.size + 1) [.int .i64 b.x, .int .i64 b.y] 30 := by rw [hW]; exact (((Box.new (by simp)).old _).old _).old _
 have Bc : Box W1 (w.heap.size + 1 + 1) [.int .i64 c.x, .int .i64 c.y] 30 := by rw [hW]; exact ((Box.new (by simp)).old _).old _
 have Br : Box W1 (w.heap.size + 1 + 1 + 1) [.int .i64 0, .int .i64 0, .int .i64 0, .int .i64 0, .int .i64 0, .int .i64 0] 38 := by rw [hW]; exact (Box.new (by simp)).old _
 have Bt : Box W1 (w.heap.size + 1 + 1 + 1 + 1) [.int .i64 a.x, .int .i64 a.y, .int .i64 b.x, .int .i64 b.y, .int .i64 c.x, .int .i64 c.y] 38 := by rw [hW]; exact Box.new (by simp)
 have hw : Below w.heap.size w W1 := by rw [hW]; go_grown
 clear hW
 refine wp_loop_rounds 4 ?_
 try rw [rounds_succ]
 have Fa := Ba.f
 have Fb := Bb.f
 have Fc := Bc.f
 have Fr := Br.f
 have Ft := Bt.f
 go_wp2_with fail
 refine (k0 _).mono ?_
 rintro e w2 ⟨rfl, hb⟩
 clear Fa Fb Fc Fr Ft
 replace Ba := Ba.ee hb
 replace Bb := Bb.ee hb
 replace Bc := Bc.ee hb
 replace Br := Br.ee hb
 replace Bt := Bt.ee hb
 replace hw := upB hw hb
 clear hb
 have Fa := Ba.f
 have Fb := Bb.f
 have Fc := Bc.f
 have Fr := Br.f
 have Ft := Bt.f
 go_wp2_with fail
 refine (r0 _).mono ?_
 rintro e w3 ⟨rfl, hb⟩
 clear Fa Fb Fc Fr Ft
 replace Ba := Ba.ee hb
 replace Bb := Bb.ee hb
 replace Bc := Bc.ee hb
 replace Br := Br.ee hb
 replace Bt := Bt.ee hb
 replace hw := upB hw hb
 clear hb
 have Fa := Ba.f
 have Fb := Bb.f
 have Fc := Bc.f
 have Fr := Br.f
 have Ft := Bt.f
 go_wp2_with fail
 refine zA2 fun W4 hW => ?_
 have Ca : Box W4 (w.heap.size) [.int .i64 a.x, .int .i64 a.y] 30 := by rw [hW]; exact ((((((Ba.sn (w.heap.size + 1 + 1 + 1 + 1) 0 ((.int .i64 b.x)) (by first | assumption | omega)).sn (w.heap.size + 1 + 1 + 1 + 1) 1 ((.int .i64 b.y)) (by first | assumption | omega)).sn (w.heap.size + 1 + 1 + 1 + 1) 2 ((.int .i64 c.x)) (by first | assumption | omega)).sn (w.heap.size + 1 + 1 + 1 + 1) 3 ((.int .i64 c.y)) (by first | assumption | omega)).sn (w.heap.size + 1 + 1 + 1 + 1) 4 ((.int .i64 a.x)) (by first | assumption | omega)).sn (w.heap.size + 1 + 1 + 1 + 1) 5 ((.int .i64 a.y)) (by first | assumption | omega))
 have Cb : Box W4 (w.heap.size + 1) [.int .i64 b.x, .int .i64 b.y] 30 := by rw [hW]; exact ((((((Bb.sn (w.heap.size + 1 + 1 + 1 + 1) 0 ((.int .i64 b.x)) (by first | assumption | omega)).sn (w.heap.size + 1 + 1 + 1 + 1) 1 ((.int .i64 b.y)) (by first | assumption | omega)).sn (w.heap.size + 1 + 1 + 1 + 1) 2 ((.int .i64 c.x)) (by first | assumption | omega)).sn (w.heap.size + 1 + 1 + 1 + 1) 3 ((.int .i64 c.y)) (by first | assumption | omega)).sn (w.heap.size + 1 + 1 + 1 + 1) 4 ((.int .i64 a.x)) (by first | assumption | omega)).sn (w.heap.size + 1 + 1 + 1 + 1) 5 ((.int .i64 a.y)) (by first | assumption | omega))
 have Cc : Box W4 (w.heap.size + 1 + 1) [.int .i64 c.x, .int .i64 c.y] 30 := by rw [hW]; exact ((((((Bc.sn (w.heap.size + 1 + 1 + 1 + 1) 0 ((.int .i64 b.x)) (by first | assumption | omega)).sn (w.heap.size + 1 + 1 + 1 + 1) 1 ((.int .i64 b.y)) (by first | assumption | omega)).sn (w.heap.size + 1 + 1 + 1 + 1) 2 ((.int .i64 c.x)) (by first | assumption | omega)).sn (w.heap.size + 1 + 1 + 1 + 1) 3 ((.int .i64 c.y)) (by first | assumption | omega)).sn (w.heap.size + 1 + 1 + 1 + 1) 4 ((.int .i64 a.x)) (by first | assumption | omega)).sn (w.heap.size + 1 + 1 + 1 + 1) 5 ((.int .i64 a.y)) (by first | assumption | omega))
 have Cr : Box W4 (w.heap.size + 1 + 1 + 1) [.int .i64 0, .int .i64 0, .int .i64 0, .int .i64 0, .int .i64 0, .int .i64 0] 38 := by rw [hW]; exact ((((((Br.sn (w.heap.size + 1 + 1 + 1 + 1) 0 ((.int .i64 b.x)) (by first | assumption | omega)).sn (w.heap.size + 1 + 1 + 1 + 1) 1 ((.int .i64 b.y)) (by first | assumption | omega)).sn (w.heap.size + 1 + 1 + 1 + 1) 2 ((.int .i64 c.x)) (by first | assumption | omega)).sn (w.heap.size + 1 + 1 + 1 + 1) 3 ((.int .i64 c.y)) (by first | assumption | omega)).sn (w.heap.size + 1 + 1 + 1 + 1) 4 ((.int .i64 a.x)) (by first | assumption | omega)).sn (w.heap.size + 1 + 1 + 1 + 1) 5 ((.int .i64 a.y)) (by first | assumption | omega))
 have Ct : Box W4 (w.heap.size + 1 + 1 + 1 + 1) [(.int .i64 b.x), (.int .i64 b.y), (.int .i64 c.x), (.int .i64 c.y), (.int .i64 a.x), (.int .i64 a.y)] 38 := by rw [hW]; exact ((((((Bt.set 0 ((.int .i64 b.x))).set 1 ((.int .i64 b.y))).set 2 ((.int .i64 c.x))).set 3 ((.int .i64 c.y))).set 4 ((.int .i64 a.x))).set 5 ((.int .i64 a.y)))
 replace hw : Below w.heap.size w W4 := by have hl := hw.size; rw [hW]; go_grown
 clear Fa Fb Fc Fr Ft
 clear hW Ba Bb Bc Br Bt
 have Ba := Ca
 have Bb := Cb
 have Bc := Cc
 have Br := Cr
 have Bt := Ct
 clear Ca Cb Cc Cr Ct
 try rw [rounds_succ]
 have Fa := Ba.f
 have Fb := Bb.f
 have Fc := Bc.f
 have Fr := Br.f
 have Ft := Bt.f
 go_wp2_with fail
 refine (k1 _).mono ?_
 rintro e w5 ⟨rfl, hb⟩
 clear Fa Fb Fc Fr Ft
 replace Ba := Ba.ee hb
 replace Bb := Bb.ee hb
 replace Bc := Bc.ee hb
 replace Br := Br.ee hb
 replace Bt := Bt.ee hb
 replace hw := upB hw hb
 clear hb
 have Fa := Ba.f
 have Fb := Bb.f
 have Fc := Bc.f
 have Fr := Br.f
 have Ft := Bt.f
 go_wp2_with fail
 refine (r1 _).mono ?_
 rintro e w6 ⟨rfl, hb⟩
 clear Fa Fb Fc Fr Ft
 replace Ba := Ba.ee hb
 replace Bb := Bb.ee hb
 replace Bc := Bc.ee hb
 replace Br := Br.ee hb
 replace Bt := Bt.ee hb
 replace hw := upB hw hb
 clear hb
 have Fa := Ba.f
 have Fb := Bb.f
 have Fc := Bc.f
 have Fr := Br.f
 have Ft := Bt.f
 go_wp2_with fail
 refine zA2 fun W7 hW => ?_
 have Ca : Box W7 (w.heap.size) [.int .i64 a.x, .int .i64 a.y] 30 := by rw [hW]; exact ((((((Ba.sn (w.heap.size + 1 + 1 + 1 + 1) 0 ((.int .i64 c.x)) (by first | assumption | omega)).sn (w.heap.size + 1 + 1 + 1 + 1) 1 ((.int .i64 c.y)) (by first | assumption | omega)).sn (w.heap.size + 1 + 1 + 1 + 1) 2 ((.int .i64 a.x)) (by first | assumption | omega)).sn (w.heap.size + 1 + 1 + 1 + 1) 3 ((.int .i64 a.y)) (by first | assumption | omega)).sn (w.heap.size + 1 + 1 + 1 + 1) 4 ((.int .i64 b.x)) (by first | assumption | omega)).sn (w.heap.size + 1 + 1 + 1 + 1) 5 ((.int .i64 b.y)) (by first | assumption | omega))
 have Cb : Box W7 (w.heap.size + 1) [.int .i64 b.x, .int .i64 b.y] 30 := by rw [hW]; exact ((((((Bb.sn (w.heap.size + 1 + 1 + 1 + 1) 0 ((.int .i64 c.x)) (by first | assumption | omega)).sn (w.heap.size + 1 + 1 + 1 + 1) 1 ((.int .i64 c.y)) (by first | assumption | omega)).sn (w.heap.size + 1 + 1 + 1 + 1) 2 ((.int .i64 a.x)) (by first | assumption | omega)).sn (w.heap.size + 1 + 1 + 1 + 1) 3 ((.int .i64 a.y)) (by first | assumption | omega)).sn (w.heap.size + 1 + 1 + 1 + 1) 4 ((.int .i64 b.x)) (by first | assumption | omega)).sn (w.heap.size + 1 + 1 + 1 + 1) 5 ((.int .i64 b.y)) (by first | assumption | omega))
 have Cc : Box W7 (w.heap.size + 1 + 1) [.int .i64 c.x, .int .i64 c.y] 30 := by rw [hW]; exact ((((((Bc.sn (w.heap.size + 1 + 1 + 1 + 1) 0 ((.int .i64 c.x)) (by first | assumption | omega)).sn (w.heap.size + 1 + 1 + 1 + 1) 1 ((.int .i64 c.y)) (by first | assumption | omega)).sn (w.heap.size + 1 + 1 + 1 + 1) 2 ((.int .i64 a.x)) (by first | assumption | omega)).sn (w.heap.size + 1 + 1 + 1 + 1) 3 ((.int .i64 a.y)) (by first | assumption | omega)).sn (w.heap.size + 1 + 1 + 1 + 1) 4 ((.int .i64 b.x)) (by first | assumption | omega)).sn (w.heap.size + 1 + 1 + 1 + 1) 5 ((.int .i64 b.y)) (by first | assumption | omega))
 have Cr : Box W7 (w.heap.size + 1 + 1 + 1) [.int .i64 0, .int .i64 0, .int .i64 0, .int .i64 0, .int .i64 0, .int .i64 0] 38 := by rw [hW]; exact ((((((Br.sn (w.heap.size + 1 + 1 + 1 + 1) 0 ((.int .i64 c.x)) (by first | assumption | omega)).sn (w.heap.size + 1 + 1 + 1 + 1) 1 ((.int .i64 c.y)) (by first | assumption | omega)).sn (w.heap.size + 1 + 1 + 1 + 1) 2 ((.int .i64 a.x)) (by first | assumption | omega)).sn (w.heap.size + 1 + 1 + 1 + 1) 3 ((.int .i64 a.y)) (by first | assumption | omega)).sn (w.heap.size + 1 + 1 + 1 + 1) 4 ((.int .i64 b.x)) (by first | assumption | omega)).sn (w.heap.size + 1 + 1 + 1 + 1) 5 ((.int .i64 b.y)) (by first | assumption | omega))
 have Ct : Box W7 (w.heap.size + 1 + 1 + 1 + 1) [(.int .i64 c.x), (.int .i64 c.y), (.int .i64 a.x), (.int .i64 a.y), (.int .i64 b.x), (.int .i64 b.y)] 38 := by rw [hW]; exact ((((((Bt.set 0 ((.int .i64 c.x))).set 1 ((.int .i64 c.y))).set 2 ((.int .i64 a.x))).set 3 ((.int .i64 a.y))).set 4 ((.int .i64 b.x))).set 5 ((.int .i64 b.y)))
 replace hw : Below w.heap.size w W7 := by have hl := hw.size; rw [hW]; go_grown
 clear Fa Fb Fc Fr Ft
 clear hW Ba Bb Bc Br Bt
 have Ba := Ca
 have Bb := Cb
 have Bc := Cc
 have Br := Cr
 have Bt := Ct
 clear Ca Cb Cc Cr Ct
 try rw [rounds_succ]
 have Fa := Ba.f
 have Fb := Bb.f
 have Fc := Bc.f
 have Fr := Br.f
 have Ft := Bt.f
 go_wp2_with fail
 refine (k2 _).mono ?_
 rintro e w8 ⟨rfl, hb⟩
 clear Fa Fb Fc Fr Ft
 replace Ba := Ba.ee hb
 replace Bb := Bb.ee hb
 replace Bc := Bc.ee hb
 replace Br := Br.ee hb
 replace Bt := Bt.ee hb
 replace hw := upB hw hb
 clear hb
 have Fa := Ba.f
 have Fb := Bb.f
 have Fc := Bc.f
 have Fr := Br.f
 have Ft := Bt.f
 go_wp2_with fail
 refine (co _).mono ?_
 rintro e w9 ⟨rfl, hb⟩
 clear Fa Fb Fc Fr Ft
 replace Ba := Ba.ee hb
 replace Bb := Bb.ee hb
 replace Bc := Bc.ee hb
 replace Br := Br.ee hb
 replace Bt := Bt.ee hb
 replace hw := upB hw hb
 clear hb
 have Fa := Ba.f
 have Fb := Bb.f
 have Fc := Bc.f
 have Fr := Br.f
 have Ft := Bt.f
 go_wp2_with fail
 refine zA1 fun W10 hW => ?_
 have Ca : Box W10 (w.heap.size) [.int .i64 a.x, .int .i64 a.y] 30 := by rw [hW]; exact ((((Ba.set_ne ⟨w.heap.size + 1 + 1 + 1 + 1, 2, none⟩ ((.int .i64 b.x)) (by first | assumption | (show (w.heap.size + 1 + 1 + 1 + 1 : Nat) ≠ _; omega))).set_ne ⟨w.heap.size + 1 + 1 + 1 + 1, 3, none⟩ ((.int .i64 b.y)) (by first | assumption | (show (w.heap.size + 1 + 1 + 1 + 1 : Nat) ≠ _; omega))).set_ne ⟨w.heap.size + 1 + 1 + 1 + 1, 4, none⟩ ((.int .i64 a.x)) (by first | assumption | (show (w.heap.size + 1 + 1 + 1 + 1 : Nat) ≠ _; omega))).set_ne ⟨w.heap.size + 1 + 1 + 1 + 1, 5, none⟩ ((.int .i64 a.y)) (by first | assumption | (show (w.heap.size + 1 + 1 + 1 + 1 : Nat) ≠ _; omega)))
 have Cb : Box W10 (w.heap.size + 1) [.int .i64 b.x, .int .i64 b.y] 30 := by rw [hW]; exact ((((Bb.set_ne ⟨w.heap.size + 1 + 1 + 1 + 1, 2, none⟩ ((.int .i64 b.x)) (by first | assumption | (show (w.heap.size + 1 + 1 + 1 + 1 : Nat) ≠ _; omega))).set_ne ⟨w.heap.size + 1 + 1 + 1 + 1, 3, none⟩ ((.int .i64 b.y)) (by first | assumption | (show (w.heap.size + 1 + 1 + 1 + 1 : Nat) ≠ _; omega))).set_ne ⟨w.heap.size + 1 + 1 + 1 + 1, 4, none⟩ ((.int .i64 a.x)) (by first | assumption | (show (w.heap.size + 1 + 1 + 1 + 1 : Nat) ≠ _; omega))).set_ne ⟨w.heap.size + 1 + 1 + 1 + 1, 5, none⟩ ((.int .i64 a.y)) (by first | assumption | (show (w.heap.size + 1 + 1 + 1 + 1 : Nat) ≠ _; omega)))
 have Cc : Box W10 (w.heap.size + 1 + 1) [.int .i64 c.x, .int .i64 c.y] 30 := by rw [hW]; exact ((((Bc.set_ne ⟨w.heap.size + 1 + 1 + 1 + 1, 2, none⟩ ((.int .i64 b.x)) (by first | assumption | (show (w.heap.size + 1 + 1 + 1 + 1 : Nat) ≠ _; omega))).set_ne ⟨w.heap.size + 1 + 1 + 1 + 1, 3, none⟩ ((.int .i64 b.y)) (by first | assumption | (show (w.heap.size + 1 + 1 + 1 + 1 : Nat) ≠ _; omega))).set_ne ⟨w.heap.size + 1 + 1 + 1 + 1, 4, none⟩ ((.int .i64 a.x)) (by first | assumption | (show (w.heap.size + 1 + 1 + 1 + 1 : Nat) ≠ _; omega))).set_ne ⟨w.heap.size + 1 + 1 + 1 + 1, 5, none⟩ ((.int .i64 a.y)) (by first | assumption | (show (w.heap.size + 1 + 1 + 1 + 1 : Nat) ≠ _; omega)))
 have Cr : Box W10 (w.heap.size + 1 + 1 + 1) [.int .i64 0, .int .i64 0, .int .i64 0, .int .i64 0, .int .i64 0, .int .i64 0] 38 := by rw [hW]; exact ((((Br.set_ne ⟨w.heap.size + 1 + 1 + 1 + 1, 2, none⟩ ((.int .i64 b.x)) (by first | assumption | (show (w.heap.size + 1 + 1 + 1 + 1 : Nat) ≠ _; omega))).set_ne ⟨w.heap.size + 1 + 1 + 1 + 1, 3, none⟩ ((.int .i64 b.y)) (by first | assumption | (show (w.heap.size + 1 + 1 + 1 + 1 : Nat) ≠ _; omega))).set_ne ⟨w.heap.size + 1 + 1 + 1 + 1, 4, none⟩ ((.int .i64 a.x)) (by first | assumption | (show (w.heap.size + 1 + 1 + 1 + 1 : Nat) ≠ _; omega))).set_ne ⟨w.heap.size + 1 + 1 + 1 + 1, 5, none⟩ ((.int .i64 a.y)) (by first | assumption | (show (w.heap.size + 1 + 1 + 1 + 1 : Nat) ≠ _; omega)))
 have Ct : Box W10 (w.heap.size + 1 + 1 + 1 + 1) [.int .i64 c.x, .int .i64 c.y, .int .i64 b.x, .int .i64 b.y, .int .i64 a.x, .int .i64 a.y] 38 := by rw [hW]; exact ((((Bt.set 2 ((.int .i64 b.x))).set 3 ((.int .i64 b.y))).set 4 ((.int .i64 a.x))).set 5 ((.int .i64 a.y)))
 replace hw : Below w.heap.size w W10 := by have hl := hw.size; rw [hW]; go_grown
 clear Fa Fb Fc Fr Ft
 clear hW Ba Bb Bc Br Bt
 have Ba := Ca
 have Bb := Cb
 have Bc := Cc
 have Br := Cr
 have Bt := Ct
 clear Ca Cb Cc Cr Ct
 refine (cv _).mono ?_
 rintro e w11 ⟨rfl, hb⟩
 replace Ba := Ba.ee hb
 replace Bb := Bb.ee hb
 replace Bc := Bc.ee hb
 replace Br := Br.ee hb
 replace Bt := Bt.ee hb
 replace hw := upB hw hb
 clear hb
 have Fa := Ba.f
 have Fb := Bb.f
 have Fc := Bc.f
 have Fr := Br.f
 have Ft := Bt.f
 go_wp2_with fail
 refine bodyPost_ret (v := .tuple #[.agg #[.int .i64 c.x, .int .i64 c.y, .int .i64 b.x, .int .i64 b.y, .int .i64 a.x, .int .i64 a.y], .bool true]) (by simp [results, Tryz.results78, go_sem, Fr]) rfl ⟨rfl, by have hl := hw.size; go_grown⟩
theorem tmake_p2 (a b c : Pt) (l0 : lds ⟨a, b, c⟩ = false) (l1 : lds ⟨b, c, a⟩ = false) (l2 : lds ⟨c, a, b⟩ = true) (ho : decide (ori c a b < 0) = false) (hv : valT ⟨c, a, b⟩ = true) (w : World) :
    Calls Tryz.prog 78 #[.agg #[.int .i64 a.x, .int .i64 a.y], .agg #[.int .i64 b.x, .int .i64 b.y], .agg #[.int .i64 c.x, .int .i64 c.y]] w fun e w' => e = .returned (.tuple #[.agg #[.int .i64 c.x, .int .i64 c.y, .int .i64 a.x, .int .i64 a.y, .int .i64 b.x, .int .i64 b.y], .bool true]) ∧ Below w.heap.size w w' := by
 have k0 := zAk ⟨a, b, c⟩
 rw [l0] at k0
 dsimp only at k0
 have r0 := zBc ⟨a, b, c⟩
 dsimp only at r0
 have k1 := zAk ⟨b, c, a⟩
 rw [l1] at k1
 dsimp only at k1
 have r1 := zBc ⟨b, c, a⟩
 dsimp only at r1
 have k2 := zAk ⟨c, a, b⟩
 rw [l2] at k2
 dsimp only at k2
 have co := zA8 c a b
 have cv := zB3 ⟨c, a, b⟩
 rw [hv] at cv
 dsimp only at cv
 generalize ori c a b = n at *
 clear hv l0 l1 l2
 go_enter Tryz.func78, Tryz.ntmps78
 go_wp2_with fail
 refine zA2 fun W1 hW => ?_
 have Ba : Box W1 (w.heap.size) [.int .i64 a.x, .int .i64 a.y] 30 := by rw [hW]; exact ((((Box.new rfl).old _).old _).old _).old _
 have Bb : Box W1 (w.heap.size + 1) [.int .i64 b.x, .int .i64 b.y] 30 := by rw [hW]; exact (((Box.new (by simp)).old _).old _).old _
 have Bc : Box W1 (w.heap.size + 1 + 1) [.int .i64 c.x, .int .i64 c.y] 30 := by rw [hW]; exact ((Box.new (by simp)).old _).old _
 have Br : Box W1 (w.heap.size + 1 + 1 + 1) [.int .i64 0, .int .i64 0, .int .i64 0, .int .i64 0, .int .i64 0, .int .i64 0] 38 := by rw [hW]; exact (Box.new (by simp)).old _
 have Bt : Box W1 (w.heap.size + 1 + 1 + 1 + 1) [.int .i64 a.x, .int .i64 a.y, .int .i64 b.x, .int .i64 b.y, .int .i64 c.x, .int .i64 c.y] 38 := by rw [hW]; exact Box.new (by simp)
 have hw : Below w.heap.size w W1 := by rw [hW]; go_grown
 clear hW
 refine wp_loop_rounds 4 ?_
 try rw [rounds_succ]
 have Fa := Ba.f
 have Fb := Bb.f
 have Fc := Bc.f
 have Fr := Br.f
 have Ft := Bt.f
 go_wp2_with fail
 refine (k0 _).mono ?_
 rintro e w2 ⟨rfl, hb⟩
 clear Fa Fb Fc Fr Ft
 replace Ba := Ba.ee hb
 replace Bb := Bb.ee hb
 replace Bc := Bc.ee hb
 replace Br := Br.ee hb
 replace Bt := Bt.ee hb
 replace hw := upB hw hb
 clear hb
 have Fa := Ba.f
 have Fb := Bb.f
 have Fc := Bc.f
 have Fr := Br.f
 have Ft := Bt.f
 go_wp2_with fail
 refine (r0 _).mono ?_
 rintro e w3 ⟨rfl, hb⟩
 clear Fa Fb Fc Fr Ft
 replace Ba := Ba.ee hb
 replace Bb := Bb.ee hb
 replace Bc := Bc.ee hb
 replace Br := Br.ee hb
 replace Bt := Bt.ee hb
 replace hw := upB hw hb
 clear hb
 have Fa := Ba.f
 have Fb := Bb.f
 have Fc := Bc.f
 have Fr := Br.f
 have Ft := Bt.f
 go_wp2_with fail
 refine zA2 fun W4 hW => ?_
 have Ca : Box W4 (w.heap.size) [.int .i64 a.x, .int .i64 a.y] 30 := by rw [hW]; exact ((((((Ba.sn (w.heap.size + 1 + 1 + 1 + 1) 0 ((.int .i64 b.x)) (by first | assumption | omega)).sn (w.heap.size + 1 + 1 + 1 + 1) 1 ((.int .i64 b.y)) (by first | assumption | omega)).sn (w.heap.size + 1 + 1 + 1 + 1) 2 ((.int .i64 c.x)) (by first | assumption | omega)).sn (w.heap.size + 1 + 1 + 1 + 1) 3 ((.int .i64 c.y)) (by first | assumption | omega)).sn (w.heap.size + 1 + 1 + 1 + 1) 4 ((.int .i64 a.x)) (by first | assumption | omega)).sn (w.heap.size + 1 + 1 + 1 + 1) 5 ((.int .i64 a.y)) (by first | assumption | omega))
 have Cb : Box W4 (w.heap.size + 1) [.int .i64 b.x, .int .i64 b.y] 30 := by rw [hW]; exact ((((((Bb.sn (w.heap.size + 1 + 1 + 1 + 1) 0 ((.int .i64 b.x)) (by first | assumption | omega)).sn (w.heap.size + 1 + 1 + 1 + 1) 1 ((.int .i64 b.y)) (by first | assumption | omega)).sn (w.heap.size + 1 + 1 + 1 + 1) 2 ((.int .i64 c.x)) (by first | assumption | omega)).sn (w.heap.size + 1 + 1 + 1 + 1) 3 ((.int .i64 c.y)) (by first | assumption | omega)).sn (w.heap.size + 1 + 1 + 1 + 1) 4 ((.int .i64 a.x)) (by first | assumption | omega)).sn (w.heap.size + 1 + 1 + 1 + 1) 5 ((.int .i64 a.y)) (by first | assumption | omega))
 have Cc : Box W4 (w.heap.size + 1 + 1) [.int .i64 c.x, .int .i64 c.y] 30 := by rw [hW]; exact ((((((Bc.sn (w.heap.size + 1 + 1 + 1 + 1) 0 ((.int .i64 b.x)) (by first | assumption | omega)).sn (w.heap.size + 1 + 1 + 1 + 1) 1 ((.int .i64 b.y)) (by first | assumption | omega)).sn (w.heap.size + 1 + 1 + 1 + 1) 2 ((.int .i64 c.x)) (by first | assumption | omega)).sn (w.heap.size + 1 + 1 + 1 + 1) 3 ((.int .i64 c.y)) (by first | assumption | omega)).sn (w.heap.size + 1 + 1 + 1 + 1) 4 ((.int .i64 a.x)) (by first | assumption | omega)).sn (w.heap.size + 1 + 1 + 1 + 1) 5 ((.int .i64 a.y)) (by first | assumption | omega))
 have Cr : Box W4 (w.heap.size + 1 + 1 + 1) [.int .i64 0, .int .i64 0, .int .i64 0, .int .i64 0, .int .i64 0, .int .i64 0] 38 := by rw [hW]; exact ((((((Br.sn (w.heap.size + 1 + 1 + 1 + 1) 0 ((.int .i64 b.x)) (by first | assumption | omega)).sn (w.heap.size + 1 + 1 + 1 + 1) 1 ((.int .i64 b.y)) (by first | assumption | omega)).sn (w.heap.size + 1 + 1 + 1 + 1) 2 ((.int .i64 c.x)) (by first | assumption | omega)).sn (w.heap.size + 1 + 1 + 1 + 1) 3 ((.int .i64 c.y)) (by first | assumption | omega)).sn (w.heap.size + 1 + 1 + 1 + 1) 4 ((.int .i64 a.x)) (by first | assumption | omega)).sn (w.heap.size + 1 + 1 + 1 + 1) 5 ((.int .i64 a.y)) (by first | assumption | omega))
 have Ct : Box W4 (w.heap.size + 1 + 1 + 1 + 1) [(.int .i64 b.x), (.int .i64 b.y), (.int .i64 c.x), (.int .i64 c.y), (.int .i64 a.x), (.int .i64 a.y)] 38 := by rw [hW]; exact ((((((Bt.set 0 ((.int .i64 b.x))).set 1 ((.int .i64 b.y))).set 2 ((.int .i64 c.x))).set 3 ((.int .i64 c.y))).set 4 ((.int .i64 a.x))).set 5 ((.int .i64 a.y)))
 replace hw : Below w.heap.size w W4 := by have hl := hw.size; rw [hW]; go_grown
 clear Fa Fb Fc Fr Ft
 clear hW Ba Bb Bc Br Bt
 have Ba := Ca
 have Bb := Cb
 have Bc := Cc
 have Br := Cr
 have Bt := Ct
 clear Ca Cb Cc Cr Ct
 try rw [rounds_succ]
 have Fa := Ba.f
 have Fb := Bb.f
 have Fc := Bc.f
 have Fr := Br.f
 have Ft := Bt.f
 go_wp2_with fail
 refine (k1 _).mono ?_
 rintro e w5 ⟨rfl, hb⟩
 clear Fa Fb Fc Fr Ft
 replace Ba := Ba.ee hb
 replace Bb := Bb.ee hb
 replace Bc := Bc.ee hb
 replace Br := Br.ee hb
 replace Bt := Bt.ee hb
 replace hw := upB hw hb
 clear hb
 have Fa := Ba.f
 have Fb := Bb.f
 have Fc := Bc.f
 have Fr := Br.f
 have Ft := Bt.f
 go_wp2_with fail
 refine (r1 _).mono ?_
 rintro e w6 ⟨rfl, hb⟩
 clear Fa Fb Fc Fr Ft
 replace Ba := Ba.ee hb
 replace Bb := Bb.ee hb
 replace Bc := Bc.ee hb
 replace Br := Br.ee hb
 replace Bt := Bt.ee hb
 replace hw := upB hw hb
 clear hb
 have Fa := Ba.f
 have Fb := Bb.f
 have Fc := Bc.f
 have Fr := Br.f
 have Ft := Bt.f
 go_wp2_with fail
 refine zA2 fun W7 hW => ?_
 have Ca : Box W7 (w.heap.size) [.int .i64 a.x, .int .i64 a.y] 30 := by rw [hW]; exact ((((((Ba.sn (w.heap.size + 1 + 1 + 1 + 1) 0 ((.int .i64 c.x)) (by first | assumption | omega)).sn (w.heap.size + 1 + 1 + 1 + 1) 1 ((.int .i64 c.y)) (by first | assumption | omega)).sn (w.heap.size + 1 + 1 + 1 + 1) 2 ((.int .i64 a.x)) (by first | assumption | omega)).sn (w.heap.size + 1 + 1 + 1 + 1) 3 ((.int .i64 a.y)) (by first | assumption | omega)).sn (w.heap.size + 1 + 1 + 1 + 1) 4 ((.int .i64 b.x)) (by first | assumption | omega)).sn (w.heap.size + 1 + 1 + 1 + 1) 5 ((.int .i64 b.y)) (by first | assumption | omega))
 have Cb : Box W7 (w.heap.size + 1) [.int .i64 b.x, .int .i64 b.y] 30 := by rw [hW]; exact ((((((Bb.sn (w.heap.size + 1 + 1 + 1 + 1) 0 ((.int .i64 c.x)) (by first | assumption | omega)).sn (w.heap.size + 1 + 1 + 1 + 1) 1 ((.int .i64 c.y)) (by first | assumption | omega)).sn (w.heap.size + 1 + 1 + 1 + 1) 2 ((.int .i64 a.x)) (by first | assumption | omega)).sn (w.heap.size + 1 + 1 + 1 + 1) 3 ((.int .i64 a.y)) (by first | assumption | omega)).sn (w.heap.size + 1 + 1 + 1 + 1) 4 ((.int .i64 b.x)) (by first | assumption | omega)).sn (w.heap.size + 1 + 1 + 1 + 1) 5 ((.int .i64 b.y)) (by first | assumption | omega))
 have Cc : Box W7 (w.heap.size + 1 + 1) [.int .i64 c.x, .int .i64 c.y] 30 := by rw [hW]; exact ((((((Bc.sn (w.heap.size + 1 + 1 + 1 + 1) 0 ((.int .i64 c.x)) (by first | assumption | omega)).sn (w.heap.size + 1 + 1 + 1 + 1) 1 ((.int .i64 c.y)) (by first | assumption | omega)).sn (w.heap.size + 1 + 1 + 1 + 1) 2 ((.int .i64 a.x)) (by first | assumption | omega)).sn (w.heap.size + 1 + 1 + 1 + 1) 3 ((.int .i64 a.y)) (by first | assumption | omega)).sn (w.heap.size + 1 + 1 + 1 + 1) 4 ((.int .i64 b.x)) (by first | assumption | omega)).sn (w.heap.size + 1 + 1 + 1 + 1) 5 ((.int .i64 b.y)) (by first | assumption | omega))
 have Cr : Box W7 (w.heap.size + 1 + 1 + 1) [.int .i64 0, .int .i64 0, .int .i64 0, .int .i64 0, .int .i64 0, .int .i64 0] 38 := by rw [hW]; exact ((((((Br.sn (w.heap.size + 1 + 1 + 1 + 1) 0 ((.int .i64 c.x)) (by first | assumption | omega)).sn (w.heap.size + 1 + 1 + 1 + 1) 1 ((.int .i64 c.y)) (by first | assumption | omega)).sn (w.heap.size + 1 + 1 + 1 + 1) 2 ((.int .i64 a.x)) (by first | assumption | omega)).sn (w.heap.size + 1 + 1 + 1 + 1) 3 ((.int .i64 a.y)) (by first | assumption | omega)).sn (w.heap.size + 1 + 1 + 1 + 1) 4 ((.int .i64 b.x)) (by first | assumption | omega)).sn (w.heap.size + 1 + 1 + 1 + 1) 5 ((.int .i64 b.y)) (by first | assumption | omega))
 have Ct : Box W7 (w.heap.size + 1 + 1 + 1 + 1) [(.int .i64 c.x), (.int .i64 c.y), (.int .i64 a.x), (.int .i64 a.y), (.int .i64 b.x), (.int .i64 b.y)] 38 := by rw [hW]; exact ((((((Bt.set 0 ((.int .i64 c.x))).set 1 ((.int .i64 c.y))).set 2 ((.int .i64 a.x))).set 3 ((.int .i64 a.y))).set 4 ((.int .i64 b.x))).set 5 ((.int .i64 b.y)))
 replace hw : Below w.heap.size w W7 := by have hl := hw.size; rw [hW]; go_grown
 clear Fa Fb Fc Fr Ft
 clear hW Ba Bb Bc Br Bt
 have Ba := Ca
 have Bb := Cb
 have Bc := Cc
 have Br := Cr
 have Bt := Ct
 clear Ca Cb Cc Cr Ct
 try rw [rounds_succ]
 have Fa := Ba.f
 have Fb := Bb.f
 have Fc := Bc.f
 have Fr := Br.f
 have Ft := Bt.f
 go_wp2_with fail
 refine (k2 _).mono ?_
 rintro e w8 ⟨rfl, hb⟩
 clear Fa Fb Fc Fr Ft
 replace Ba := Ba.ee hb
 replace Bb := Bb.ee hb
 replace Bc := Bc.ee hb
 replace Br := Br.ee hb
 replace Bt := Bt.ee hb
 replace hw := upB hw hb
 clear hb
 have Fa := Ba.f
 have Fb := Bb.f
 have Fc := Bc.f
 have Fr := Br.f
 have Ft := Bt.f
 go_wp2_with fail
 refine (co _).mono ?_
 rintro e w9 ⟨rfl, hb⟩
 clear Fa Fb Fc Fr Ft
 replace Ba := Ba.ee hb
 replace Bb := Bb.ee hb
 replace Bc := Bc.ee hb
 replace Br := Br.ee hb
 replace Bt := Bt.ee hb
 replace hw := upB hw hb
 clear hb
 have Fa := Ba.f
 have Fb := Bb.f
 have Fc := Bc.f
 have Fr := Br.f
 have Ft := Bt.f
 go_wp2_with fail
 refine (cv _).mono ?_
 rintro e w10 ⟨rfl, hb⟩
 clear Fa Fb Fc Fr Ft
 replace Ba := Ba.ee hb
 replace Bb := Bb.ee hb
 replace Bc := Bc.ee hb
 replace Br := Br.ee hb
 replace Bt := Bt.ee hb
 replace hw := upB hw hb
 clear hb
 have Fa := Ba.f
 have Fb := Bb.f
 have Fc := Bc.f
 have Fr := Br.f
 have Ft := Bt.f
 go_wp2_with fail
 refine bodyPost_ret (v := .tuple #[.agg #[.int .i64 c.x, .int .i64 c.y, .int .i64 a.x, .int .i64 a.y, .int .i64 b.x, .int .i64 b.y], .bool true]) (by simp [results, Tryz.results78, go_sem, Fr]) rfl ⟨rfl, by have hl := hw.size; go_grown⟩
theorem tmake_z2 (a b c : Pt) (l0 : lds ⟨a, b, c⟩ = false) (l1 : lds ⟨b, c, a⟩ = false) (l2 : lds ⟨c, a, b⟩ = true) (ho : decide (ori c a b < 0) = false) (hv : valT ⟨c, a, b⟩ = false) (w : World) :
    Calls Tryz.prog 78 #[.agg #[.int .i64 a.x, .int .i64 a.y], .agg #[.int .i64 b.x, .int .i64 b.y], .agg #[.int .i64 c.x, .int .i64 c.y]] w fun e w' => e = .returned (.tuple #[.agg #[.int .i64 0, .int .i64 0, .int .i64 0, .int .i64 0, .int .i64 0, .int .i64 0], .bool false]) ∧ Below w.heap.size w w' := by
 have k0 := zAk ⟨a, b, c⟩
 rw [l0] at k0
 dsimp only at k0
 have r0 := zBc ⟨a, b, c⟩
 dsimp only at r0
 have k1 := zAk ⟨b, c, a⟩
 rw [l1] at k1
 dsimp only at k1
 have r1 := zBc ⟨b, c, a⟩
 dsimp only at r1
 have k2 := zAk ⟨c, a, b⟩
 rw [l2] at k2
 dsimp only at k2
 have co := zA8 c a b
 have cv := zB3 ⟨c, a, b⟩
 rw [hv] at cv
 dsimp only at cv
 generalize ori c a b = n at *
 clear hv l0 l1 l2
 go_enter Tryz.func78, Tryz.ntmps78
 go_wp2_with fail
 refine zA2 fun W1 hW => ?_
 have Ba : Box W1 (w.heap.size) [.int .i64 a.x, .int .i64 a.y] 30 := by rw [hW]; exact ((((Box.new rfl).old _).old _).old _).old _
 have Bb : Box W1 (w.heap.size + 1) [.int .i64 b.x, .int .i64 b.y] 30 := by rw [hW]; exact (((Box.new (by simp)).old _).old _).old _
 have Bc : Box W1 (w.heap.size + 1 + 1) [.int .i64 c.x, .int .i64 c.y] 30 := by rw [hW]; exact ((Box.new (by simp)).old _).old _
 have Br : Box W1 (w.heap.size + 1 + 1 + 1) [.int .i64 0, .int .i64 0, .int .i64 0, .int .i64 0, .int .i64 0, .int .i64 0] 38 := by rw [hW]; exact (Box.new (by simp)).old _
 have Bt : Box W1 (w.heap.size + 1 + 1 + 1 + 1) [.int .i64 a.x, .int .i64 a.y, .int .i64 b.x, .int .i64 b.y, .int .i64 c.x, .int .i64 c.y] 38 := by rw [hW]; exact Box.new (by simp)
 have hw : Below w.heap.size w W1 := by rw [hW]; go_grown
 clear hW
 refine wp_loop_rounds 4 ?_
 try rw [rounds_succ]
 have Fa := Ba.f
 have Fb := Bb.f
 have Fc := Bc.f
 have Fr := Br.f
 have Ft := Bt.f
 go_wp2_with fail
 refine (k0 _).mono ?_
 rintro e w2 ⟨rfl, hb⟩
 clear Fa Fb Fc Fr Ft
 replace Ba := Ba.ee hb
 replace Bb := Bb.ee hb
 replace Bc := Bc.ee hb
 replace Br := Br.ee hb
 replace Bt := Bt.ee hb
 replace hw := upB hw hb
 clear hb
 have Fa := Ba.f
 have Fb := Bb.f
 have Fc := Bc.f
 have Fr := Br.f
 have Ft := Bt.f
 go_wp2_with fail
 refine (r0 _).mono ?_
 rintro e w3 ⟨rfl, hb⟩
 clear Fa Fb Fc Fr Ft
 replace Ba := Ba.ee hb
 replace Bb := Bb.ee hb
 replace Bc := Bc.ee hb
 replace Br := Br.ee hb
 replace Bt := Bt.ee hb
 replace hw := upB hw hb
 clear hb
 have Fa := Ba.f
 have Fb := Bb.f
 have Fc := Bc.f
 have Fr := Br.f
 have Ft := Bt.f
 go_wp2_with fail
 refine zA2 fun W4 hW => ?_
 have Ca : Box W4 (w.heap.size) [.int .i64 a.x, .int .i64 a.y] 30 := by rw [hW]; exact ((((((Ba.sn (w.heap.size + 1 + 1 + 1 + 1) 0 ((.int .i64 b.x)) (by first | assumption | omega)).sn (w.heap.size + 1 + 1 + 1 + 1) 1 ((.int .i64 b.y)) (by first | assumption | omega)).sn (w.heap.size + 1 + 1 + 1 + 1) 2 ((.int .i64 c.x)) (by first | assumption | omega)).sn (w.heap.size + 1 + 1 + 1 + 1) 3 ((.int .i64 c.y)) (by first | assumption | omega)).sn (w.heap.size + 1 + 1 + 1 + 1) 4 ((.int .i64 a.x)) (by first | assumption | omega)).sn (w.heap.size + 1 + 1 + 1 + 1) 5 ((.int .i64 a.y)) (by first | assumption | omega))
 have Cb : Box W4 (w.heap.size + 1) [.int .i64 b.x, .int .i64 b.y] 30 := by rw [hW]; exact ((((((Bb.sn (w.heap.size + 1 + 1 + 1 + 1) 0 ((.int .i64 b.x)) (by first | assumption | omega)).sn (w.heap.size + 1 + 1 + 1 + 1) 1 ((.int .i64 b.y)) (by first | assumption | omega)).sn (w.heap.size + 1 + 1 + 1 + 1) 2 ((.int .i64 c.x)) (by first | assumption | omega)).sn (w.heap.size + 1 + 1 + 1 + 1) 3 ((.int .i64 c.y)) (by first | assumption | omega)).sn (w.heap.size + 1 + 1 + 1 + 1) 4 ((.int .i64 a.x)) (by first | assumption | omega)).sn (w.heap.size + 1 + 1 + 1 + 1) 5 ((.int .i64 a.y)) (by first | assumption | omega))
 have Cc : Box W4 (w.heap.size + 1 + 1) [.int .i64 c.x, .int .i64 c.y] 30 := by rw [hW]; exact ((((((Bc.sn (w.heap.size + 1 + 1 + 1 + 1) 0 ((.int .i64 b.x)) (by first | assumption | omega)).sn (w.heap.size + 1 + 1 + 1 + 1) 1 ((.int .i64 b.y)) (by first | assumption | omega)).sn (w.heap.size + 1 + 1 + 1 + 1) 2 ((.int .i64 c.x)) (by first | assumption | omega)).sn (w.heap.size + 1 + 1 + 1 + 1) 3 ((.int .i64 c.y)) (by first | assumption | omega)).sn (w.heap.size + 1 + 1 + 1 + 1) 4 ((.int .i64 a.x)) (by first | assumption | omega)).sn (w.heap.size + 1 + 1 + 1 + 1) 5 ((.int .i64 a.y)) (by first | assumption | omega))
 have Cr : Box W4 (w.heap.size + 1 + 1 + 1) [.int .i64 0, .int .i64 0, .int .i64 0, .int .i64 0, .int .i64 0, .int .i64 0] 38 := by rw [hW]; exact ((((((Br.sn (w.heap.size + 1 + 1 + 1 + 1) 0 ((.int .i64 b.x)) (by first | assumption | omega)).sn (w.heap.size + 1 + 1 + 1 + 1) 1 ((.int .i64 b.y)) (by first | assumption | omega)).sn (w.heap.size + 1 + 1 + 1 + 1) 2 ((.int .i64 c.x)) (by first | assumption | omega)).sn (w.heap.size + 1 + 1 + 1 + 1) 3 ((.int .i64 c.y)) (by first | assumption | omega)).sn (w.heap.size + 1 + 1 + 1 + 1) 4 ((.int .i64 a.x)) (by first | assumption | omega)).sn (w.heap.size + 1 + 1 + 1 + 1) 5 ((.int .i64 a.y)) (by first | assumption | omega))
 have Ct : Box W4 (w.heap.size + 1 + 1 + 1 + 1) [(.int .i64 b.x), (.int .i64 b.y), (.int .i64 c.x), (.int .i64 c.y), (.int .i64 a.x), (.int .i64 a.y)] 38 := by rw [hW]; exact ((((((Bt.set 0 ((.int .i64 b.x))).set 1 ((.int .i64 b.y))).set 2 ((.int .i64 c.x))).set 3 ((.int .i64 c.y))).set 4 ((.int .i64 a.x))).set 5 ((.int .i64 a.y)))
 replace hw : Below w.heap.size w W4 := by have hl := hw.size; rw [hW]; go_grown
 clear Fa Fb Fc Fr Ft
 clear hW Ba Bb Bc Br Bt
 have Ba := Ca
 have Bb := Cb
 have Bc := Cc
 have Br := Cr
 have Bt := Ct
 clear Ca Cb Cc Cr Ct
 try rw [rounds_succ]
 have Fa := Ba.f
 have Fb := Bb.f
 have Fc := Bc.f
 have Fr := Br.f
 have Ft := Bt.f
 go_wp2_with fail
 refine (k1 _).mono ?_
 rintro e w5 ⟨rfl, hb⟩
 clear Fa Fb Fc Fr Ft
 replace Ba := Ba.ee hb
 replace Bb := Bb.ee hb
 replace Bc := Bc.ee hb
 replace Br := Br.ee hb
 replace Bt := Bt.ee hb
 replace hw := upB hw hb
 clear hb
 have Fa := Ba.f
 have Fb := Bb.f
 have Fc := Bc.f
 have Fr := Br.f
 have Ft := Bt.f
 go_wp2_with fail
 refine (r1 _).mono ?_
 rintro e w6 ⟨rfl, hb⟩
 clear Fa Fb Fc Fr Ft
 replace Ba := Ba.ee hb
 replace Bb := Bb.ee hb
 replace Bc := Bc.ee hb
 replace Br := Br.ee hb
 replace Bt := Bt.ee hb
 replace hw := upB hw hb
 clear hb
 have Fa := Ba.f
 have Fb := Bb.f
 have Fc := Bc.f
 have Fr := Br.f
 have Ft := Bt.f
 go_wp2_with fail
 refine zA2 fun W7 hW => ?_
 have Ca : Box W7 (w.heap.size) [.int .i64 a.x, .int .i64 a.y] 30 := by rw [hW]; exact ((((((Ba.sn (w.heap.size + 1 + 1 + 1 + 1) 0 ((.int .i64 c.x)) (by first | assumption | omega)).sn (w.heap.size + 1 + 1 + 1 + 1) 1 ((.int .i64 c.y)) (by first | assumption | omega)).sn (w.heap.size + 1 + 1 + 1 + 1) 2 ((.int .i64 a.x)) (by first | assumption | omega)).sn (w.heap.size + 1 + 1 + 1 + 1) 3 ((.int .i64 a.y)) (by first | assumption | omega)).sn (w.heap.size + 1 + 1 + 1 + 1) 4 ((.int .i64 b.x)) (by first | assumption | omega)).sn (w.heap.size + 1 + 1 + 1 + 1) 5 ((.int .i64 b.y)) (by first | assumption | omega))
 have Cb : Box W7 (w.heap.size + 1) [.int .i64 b.x, .int .i64 b.y] 30 := by rw [hW]; exact ((((((Bb.sn (w.heap.size + 1 + 1 + 1 + 1) 0 ((.int .i64 c.x)) (by first | assumption | omega)).sn (w.heap.size + 1 + 1 + 1 + 1) 1 ((.int .i64 c.y)) (by first | assumption | omega)).sn (w.heap.size + 1 + 1 + 1 + 1) 2 ((.int .i64 a.x)) (by first | assumption | omega)).sn (w.heap.size + 1 + 1 + 1 + 1) 3 ((.int .i64 a.y)) (by first | assumption | omega)).sn (w.heap.size + 1 + 1 + 1 + 1) 4 ((.int .i64 b.x)) (by first | assumption | omega)).sn (w.heap.size + 1 + 1 + 1 + 1) 5 ((.int .i64 b.y)) (by first | assumption | omega))
 have Cc : Box W7 (w.heap.size + 1 + 1) [.int .i64 c.x, .int .i64 c.y] 30 := by rw [hW]; exact ((((((Bc.sn (w.heap.size + 1 + 1 + 1 + 1) 0 ((.int .i64 c.x)) (by first | assumption | omega)).sn (w.heap.size + 1 + 1 + 1 + 1) 1 ((.int .i64 c.y)) (by first | assumption | omega)).sn (w.heap.size + 1 + 1 + 1 + 1) 2 ((.int .i64 a.x)) (by first | assumption | omega)).sn (w.heap.size + 1 + 1 + 1 + 1) 3 ((.int .i64 a.y)) (by first | assumption | omega)).sn (w.heap.size + 1 + 1 + 1 + 1) 4 ((.int .i64 b.x)) (by first | assumption | omega)).sn (w.heap.size + 1 + 1 + 1 + 1) 5 ((.int .i64 b.y)) (by first | assumption | omega))
 have Cr : Box W7 (w.heap.size + 1 + 1 + 1) [.int .i64 0, .int .i64 0, .int .i64 0, .int .i64 0, .int .i64 0, .int .i64 0] 38 := by rw [hW]; exact ((((((Br.sn (w.heap.size + 1 + 1 + 1 + 1) 0 ((.int .i64 c.x)) (by first | assumption | omega)).sn (w.heap.size + 1 + 1 + 1 + 1) 1 ((.int .i64 c.y)) (by first | assumption | omega)).sn (w.heap.size + 1 + 1 + 1 + 1) 2 ((.int .i64 a.x)) (by first | assumption | omega)).sn (w.heap.size + 1 + 1 + 1 + 1) 3 ((.int .i64 a.y)) (by first | assumption | omega)).sn (w.heap.size + 1 + 1 + 1 + 1) 4 ((.int .i64 b.x)) (by first | assumption | omega)).sn (w.heap.size + 1 + 1 + 1 + 1) 5 ((.int .i64 b.y)) (by first | assumption | omega))
 have Ct : Box W7 (w.heap.size + 1 + 1 + 1 + 1) [(.int .i64 c.x), (.int .i64 c.y), (.int .i64 a.x), (.int .i64 a.y), (.int .i64 b.x), (.int .i64 b.y)] 38 := by rw [hW]; exact ((((((Bt.set 0 ((.int .i64 c.x))).set 1 ((.int .i64 c.y))).set 2 ((.int .i64 a.x))).set 3 ((.int .i64 a.y))).set 4 ((.int .i64 b.x))).set 5 ((.int .i64 b.y)))
 replace hw : Below w.heap.size w W7 := by have hl := hw.size; rw [hW]; go_grown
 clear Fa Fb Fc Fr Ft
 clear hW Ba Bb Bc Br Bt
 have Ba := Ca
 have Bb := Cb
 have Bc := Cc
 have Br := Cr
 have Bt := Ct
 clear Ca Cb Cc Cr Ct
 try rw [rounds_succ]
 have Fa := Ba.f
 have Fb := Bb.f
 have Fc := Bc.f
 have Fr := Br.f
 have Ft := Bt.f
 go_wp2_with fail
 refine (k2 _).mono ?_
 rintro e w8 ⟨rfl, hb⟩
 clear Fa Fb Fc Fr Ft
 replace Ba := Ba.ee hb
 replace Bb := Bb.ee hb
 replace Bc := Bc.ee hb
 replace Br := Br.ee hb
 replace Bt := Bt.ee hb
 replace hw := upB hw hb
 clear hb
 have Fa := Ba.f
 have Fb := Bb.f
 have Fc := Bc.f
 have Fr := Br.f
 have Ft := Bt.f
 go_wp2_with fail
 refine (co _).mono ?_
 rintro e w9 ⟨rfl, hb⟩
 clear Fa Fb Fc Fr Ft
 replace Ba := Ba.ee hb
 replace Bb := Bb.ee hb
 replace Bc := Bc.ee hb
 replace Br := Br.ee hb
 replace Bt := Bt.ee hb
 replace hw := upB hw hb
 clear hb
 have Fa := Ba.f
 have Fb := Bb.f
 have Fc := Bc.f
 have Fr := Br.f
 have Ft := Bt.f
 go_wp2_with fail
 refine (cv _).mono ?_
 rintro e w10 ⟨rfl, hb⟩
 clear Fa Fb Fc Fr Ft
 replace Ba := Ba.ee hb
 replace Bb := Bb.ee hb
 replace Bc := Bc.ee hb
 replace Br := Br.ee hb
 replace Bt := Bt.ee hb
 replace hw := upB hw hb
 clear hb
 have Fa := Ba.f
 have Fb := Bb.f
 have Fc := Bc.f
 have Fr := Br.f
 have Ft := Bt.f
 go_wp2_with fail
 refine bodyPost_ret (v := .tuple #[.agg #[.int .i64 0, .int .i64 0, .int .i64 0, .int .i64 0, .int .i64 0, .int .i64 0], .bool false]) (by simp [results, Tryz.results78, go_sem, Fr]) rfl ⟨rfl, by have hl := hw.size; go_grown⟩
end Go.Proofs.YtmobnmjjmafibaaGreat
