/- A way goes along a triangle just if one of its halves does: the law ReachParts of package hectarelaw4 answers true at every input; no conditions. -/
import Derived.Test.YtomdlhdpbdkdhaaRows
import Derived.Test.YtomdlhdpbdkdhaaReF
import Derived.Test.YtomdlhdpbdkdhaaReQ
import Derived.Test.YtomdlhdpbdkdhaaReP
import Derived.Test.YtomdlhdpbdkdhaaPost
import Derived.WalkKit
import Derived.WalkSpells
import Derived.WalkLawsBesides
import Derived.Deep.QuietTactic
import Derived.BigQuiet
import Derived.Lib.Hide
import Derived.Handy
import Derived.RegionTactic
import Derived.BigRegion
import Derived.Carry
import Derived.ProofKit
import Derived.Lib.SmallJoins
namespace Go.Proofs.Ytomdlhdpbdkdhaa
open Go.RowKit Go.Sort Go.ChangeShapes Go.WideShapes Go.ChangeAt
attribute [local go_sem] rOper rAt rUpon cell_set sg_i64 sg_u64 alloc_cell alloc_frozen
attribute [local go_sem 10000] pt_eql pt_neq tri_eql
attribute [local irreducible] rWalk

theorem wrap_in {n : Int} (h : -9223372036854775808 ≤ n ∧ n ≤ 9223372036854775807) : wrap64 n = n ∧ IntKind.i64.wrap n = n := by
  rw [IntKind.wrap_i64, w64]; omega
theorem mul_20 {k x : Int} (k0 : 2 ≤ k) (k1 : k ≤ 20) (x0 : -20 ≤ x) (x1 : x ≤ 20) : -400 ≤ k * x ∧ k * x ≤ 400 := by
  have h1 : k * x ≤ k * 20 := Int.mul_le_mul_of_nonneg_left x1 (by omega)
  have h2 : k * -20 ≤ k * x := Int.mul_le_mul_of_nonneg_left x0 (by omega)
  omega
set_option maxHeartbeats 1000000 in
theorem rprt_0 (a b c p : Pt) (x y k : Int) (h0 : (!decide (ori a b c = 0)) = false) (w : World) :
    Calls Try.prog 6 #[.agg #[.int .i64 a.x, .int .i64 a.y], .agg #[.int .i64 b.x, .int .i64 b.y], .agg #[.int .i64 c.x, .int .i64 c.y], .agg #[.int .i64 p.x, .int .i64 p.y], .int .i64 x, .int .i64 y, .int .i64 k] w fun e w' => e = .returned (.bool true) ∧ Below w.heap.size w w' := by
  have cm := rmake_any a b c
  rw [h0] at cm
  clear h0
  generalize mk a b c = M at *
  go_enter Try.func6, Try.ntmps6
  go_wp2_with fail
  refine at_call fun W1 hW => ?_
  have Ba : Box W1 (w.heap.size) [.int .i64 a.x, .int .i64 a.y] 23 := by rw [hW]; exact (((Box.new rfl).old _).old _).old _
  have Bb : Box W1 (w.heap.size + 1) [.int .i64 b.x, .int .i64 b.y] 23 := by rw [hW]; exact ((Box.new (by simp)).old _).old _
  have Bc : Box W1 (w.heap.size + 1 + 1) [.int .i64 c.x, .int .i64 c.y] 23 := by rw [hW]; exact (Box.new (by simp)).old _
  have Bp : Box W1 (w.heap.size + 1 + 1 + 1) [.int .i64 p.x, .int .i64 p.y] 23 := by rw [hW]; exact Box.new (by simp)
  have hw : Below w.heap.size w W1 := by rw [hW]; go_grown
  clear hW
  refine (cm _).mono ?_
  rintro e w2 ⟨rfl, hb⟩
  replace Ba := Ba.ext hb rfl
  replace Bb := Bb.ext hb rfl
  replace Bc := Bc.ext hb rfl
  replace Bp := Bp.ext hb rfl
  replace hw := hw.trans (hb.mono hw.size)
  clear hb
  obtain ⟨xa, ya, za, va⟩ := Ba.facts
  obtain ⟨xb, yb, zb, vb⟩ := Bb.facts
  obtain ⟨xc, yc, zc, vc⟩ := Bc.facts
  obtain ⟨xp, yp, zp, vp⟩ := Bp.facts
  go_wp2_with fail
  refine at_call fun W3 hW => ?_
  obtain ⟨bkt, hbt⟩ : ∃ b, w2.heap.size = b := ⟨_, rfl⟩
  rw [hbt]
  have lat := Ba.lt
  rw [hbt] at lat
  have lbt := Bb.lt
  rw [hbt] at lbt
  have lct := Bc.lt
  rw [hbt] at lct
  have lpt := Bp.lt
  rw [hbt] at lpt
  have ft := hw.size
  rw [hbt] at ft
  have Bt : Box W3 bkt [.int .i64 M.A.x, .int .i64 M.A.y, .int .i64 M.B.x, .int .i64 M.B.y, .int .i64 M.C.x, .int .i64 M.C.y] 25 := by rw [hW]; exact Box.new hbt.symm
  replace Ba : Box W3 (w.heap.size) [.int .i64 a.x, .int .i64 a.y] 23 := by rw [hW]; exact Ba.old _
  replace Bb : Box W3 (w.heap.size + 1) [.int .i64 b.x, .int .i64 b.y] 23 := by rw [hW]; exact Bb.old _
  replace Bc : Box W3 (w.heap.size + 1 + 1) [.int .i64 c.x, .int .i64 c.y] 23 := by rw [hW]; exact Bc.old _
  replace Bp : Box W3 (w.heap.size + 1 + 1 + 1) [.int .i64 p.x, .int .i64 p.y] 23 := by rw [hW]; exact Bp.old _
  replace hw : Below w.heap.size w W3 := by have hl := hw.size; rw [hW]; go_grown
  clear hW hbt
  refine (awake4_any _).mono ?_
  rintro e w4 ⟨rfl, hb⟩
  clear xa ya za va xb yb zb vb xc yc zc vc xp yp zp vp
  replace Ba := Ba.ext hb rfl
  replace Bb := Bb.ext hb rfl
  replace Bc := Bc.ext hb rfl
  replace Bp := Bp.ext hb rfl
  replace Bt := Bt.ext hb rfl
  replace hw := hw.trans (hb.mono hw.size)
  clear hb
  go_wp2
  go_ret
  exact ⟨rfl, hw⟩

set_option maxHeartbeats 1000000 in
theorem rprt_1 (a b c p : Pt) (x y k : Int) (h0 : (!decide (ori a b c = 0)) = true) (h1 : vld p = false) (w : World) :
    Calls Try.prog 6 #[.agg #[.int .i64 a.x, .int .i64 a.y], .agg #[.int .i64 b.x, .int .i64 b.y], .agg #[.int .i64 c.x, .int .i64 c.y], .agg #[.int .i64 p.x, .int .i64 p.y], .int .i64 x, .int .i64 y, .int .i64 k] w fun e w' => e = .returned (.bool true) ∧ Below w.heap.size w w' := by
  have cm := rmake_any a b c
  rw [h0] at cm
  have cv := rvalid_any p
  rw [h1] at cv
  clear h0 h1
  generalize mk a b c = M at *
  go_enter Try.func6, Try.ntmps6
  go_wp2_with fail
  refine at_call fun W1 hW => ?_
  have Ba : Box W1 (w.heap.size) [.int .i64 a.x, .int .i64 a.y] 23 := by rw [hW]; exact (((Box.new rfl).old _).old _).old _
  have Bb : Box W1 (w.heap.size + 1) [.int .i64 b.x, .int .i64 b.y] 23 := by rw [hW]; exact ((Box.new (by simp)).old _).old _
  have Bc : Box W1 (w.heap.size + 1 + 1) [.int .i64 c.x, .int .i64 c.y] 23 := by rw [hW]; exact (Box.new (by simp)).old _
  have Bp : Box W1 (w.heap.size + 1 + 1 + 1) [.int .i64 p.x, .int .i64 p.y] 23 := by rw [hW]; exact Box.new (by simp)
  have hw : Below w.heap.size w W1 := by rw [hW]; go_grown
  clear hW
  refine (cm _).mono ?_
  rintro e w2 ⟨rfl, hb⟩
  replace Ba := Ba.ext hb rfl
  replace Bb := Bb.ext hb rfl
  replace Bc := Bc.ext hb rfl
  replace Bp := Bp.ext hb rfl
  replace hw := hw.trans (hb.mono hw.size)
  clear hb
  obtain ⟨xa, ya, za, va⟩ := Ba.facts
  obtain ⟨xb, yb, zb, vb⟩ := Bb.facts
  obtain ⟨xc, yc, zc, vc⟩ := Bc.facts
  obtain ⟨xp, yp, zp, vp⟩ := Bp.facts
  go_wp2_with fail
  refine at_call fun W3 hW => ?_
  obtain ⟨bkt, hbt⟩ : ∃ b, w2.heap.size = b := ⟨_, rfl⟩
  rw [hbt]
  have lat := Ba.lt
  rw [hbt] at lat
  have lbt := Bb.lt
  rw [hbt] at lbt
  have lct := Bc.lt
  rw [hbt] at lct
  have lpt := Bp.lt
  rw [hbt] at lpt
  have ft := hw.size
  rw [hbt] at ft
  have Bt : Box W3 bkt [.int .i64 M.A.x, .int .i64 M.A.y, .int .i64 M.B.x, .int .i64 M.B.y, .int .i64 M.C.x, .int .i64 M.C.y] 25 := by rw [hW]; exact Box.new hbt.symm
  replace Ba : Box W3 (w.heap.size) [.int .i64 a.x, .int .i64 a.y] 23 := by rw [hW]; exact Ba.old _
  replace Bb : Box W3 (w.heap.size + 1) [.int .i64 b.x, .int .i64 b.y] 23 := by rw [hW]; exact Bb.old _
  replace Bc : Box W3 (w.heap.size + 1 + 1) [.int .i64 c.x, .int .i64 c.y] 23 := by rw [hW]; exact Bc.old _
  replace Bp : Box W3 (w.heap.size + 1 + 1 + 1) [.int .i64 p.x, .int .i64 p.y] 23 := by rw [hW]; exact Bp.old _
  replace hw : Below w.heap.size w W3 := by have hl := hw.size; rw [hW]; go_grown
  clear hW hbt
  refine (cv _).mono ?_
  rintro e w4 ⟨rfl, hb⟩
  clear xa ya za va xb yb zb vb xc yc zc vc xp yp zp vp
  replace Ba := Ba.ext hb rfl
  replace Bb := Bb.ext hb rfl
  replace Bc := Bc.ext hb rfl
  replace Bp := Bp.ext hb rfl
  replace Bt := Bt.ext hb rfl
  replace hw := hw.trans (hb.mono hw.size)
  clear hb
  obtain ⟨xa, ya, za, va⟩ := Ba.facts
  obtain ⟨xb, yb, zb, vb⟩ := Bb.facts
  obtain ⟨xc, yc, zc, vc⟩ := Bc.facts
  obtain ⟨xp, yp, zp, vp⟩ := Bp.facts
  obtain ⟨xt, yt, zt, vt⟩ := Bt.facts
  go_wp2_with fail
  refine (awake4_any _).mono ?_
  rintro e w5 ⟨rfl, hb⟩
  clear xa ya za va xb yb zb vb xc yc zc vc xp yp zp vp xt yt zt vt
  replace Ba := Ba.ext hb rfl
  replace Bb := Bb.ext hb rfl
  replace Bc := Bc.ext hb rfl
  replace Bp := Bp.ext hb rfl
  replace Bt := Bt.ext hb rfl
  replace hw := hw.trans (hb.mono hw.size)
  clear hb
  go_wp2
  go_ret
  exact ⟨rfl, hw⟩

set_option maxHeartbeats 1000000 in
theorem rprt_b0 (a b c p : Pt) (x y k : Int) (h0 : (!decide (ori a b c = 0)) = true) (h1 : vld p = true) (r0 : decide (x < -20) = true) (w : World) :
    Calls Try.prog 6 #[.agg #[.int .i64 a.x, .int .i64 a.y], .agg #[.int .i64 b.x, .int .i64 b.y], .agg #[.int .i64 c.x, .int .i64 c.y], .agg #[.int .i64 p.x, .int .i64 p.y], .int .i64 x, .int .i64 y, .int .i64 k] w fun e w' => e = .returned (.bool true) ∧ Below w.heap.size w w' := by
  have cm := rmake_any a b c
  rw [h0] at cm
  have cv := rvalid_any p
  rw [h1] at cv
  clear h0 h1
  generalize mk a b c = M at *
  go_enter Try.func6, Try.ntmps6
  go_wp2_with fail
  refine at_call fun W1 hW => ?_
  have Ba : Box W1 (w.heap.size) [.int .i64 a.x, .int .i64 a.y] 23 := by rw [hW]; exact (((Box.new rfl).old _).old _).old _
  have Bb : Box W1 (w.heap.size + 1) [.int .i64 b.x, .int .i64 b.y] 23 := by rw [hW]; exact ((Box.new (by simp)).old _).old _
  have Bc : Box W1 (w.heap.size + 1 + 1) [.int .i64 c.x, .int .i64 c.y] 23 := by rw [hW]; exact (Box.new (by simp)).old _
  have Bp : Box W1 (w.heap.size + 1 + 1 + 1) [.int .i64 p.x, .int .i64 p.y] 23 := by rw [hW]; exact Box.new (by simp)
  have hw : Below w.heap.size w W1 := by rw [hW]; go_grown
  clear hW
  refine (cm _).mono ?_
  rintro e w2 ⟨rfl, hb⟩
  replace Ba := Ba.ext hb rfl
  replace Bb := Bb.ext hb rfl
  replace Bc := Bc.ext hb rfl
  replace Bp := Bp.ext hb rfl
  replace hw := hw.trans (hb.mono hw.size)
  clear hb
  obtain ⟨xa, ya, za, va⟩ := Ba.facts
  obtain ⟨xb, yb, zb, vb⟩ := Bb.facts
  obtain ⟨xc, yc, zc, vc⟩ := Bc.facts
  obtain ⟨xp, yp, zp, vp⟩ := Bp.facts
  go_wp2_with fail
  refine at_call fun W3 hW => ?_
  obtain ⟨bkt, hbt⟩ : ∃ b, w2.heap.size = b := ⟨_, rfl⟩
  rw [hbt]
  have lat := Ba.lt
  rw [hbt] at lat
  have lbt := Bb.lt
  rw [hbt] at lbt
  have lct := Bc.lt
  rw [hbt] at lct
  have lpt := Bp.lt
  rw [hbt] at lpt
  have ft := hw.size
  rw [hbt] at ft
  have Bt : Box W3 bkt [.int .i64 M.A.x, .int .i64 M.A.y, .int .i64 M.B.x, .int .i64 M.B.y, .int .i64 M.C.x, .int .i64 M.C.y] 25 := by rw [hW]; exact Box.new hbt.symm
  replace Ba : Box W3 (w.heap.size) [.int .i64 a.x, .int .i64 a.y] 23 := by rw [hW]; exact Ba.old _
  replace Bb : Box W3 (w.heap.size + 1) [.int .i64 b.x, .int .i64 b.y] 23 := by rw [hW]; exact Bb.old _
  replace Bc : Box W3 (w.heap.size + 1 + 1) [.int .i64 c.x, .int .i64 c.y] 23 := by rw [hW]; exact Bc.old _
  replace Bp : Box W3 (w.heap.size + 1 + 1 + 1) [.int .i64 p.x, .int .i64 p.y] 23 := by rw [hW]; exact Bp.old _
  replace hw : Below w.heap.size w W3 := by have hl := hw.size; rw [hW]; go_grown
  clear hW hbt
  refine (cv _).mono ?_
  rintro e w4 ⟨rfl, hb⟩
  clear xa ya za va xb yb zb vb xc yc zc vc xp yp zp vp
  replace Ba := Ba.ext hb rfl
  replace Bb := Bb.ext hb rfl
  replace Bc := Bc.ext hb rfl
  replace Bp := Bp.ext hb rfl
  replace Bt := Bt.ext hb rfl
  replace hw := hw.trans (hb.mono hw.size)
  clear hb
  obtain ⟨xa, ya, za, va⟩ := Ba.facts
  obtain ⟨xb, yb, zb, vb⟩ := Bb.facts
  obtain ⟨xc, yc, zc, vc⟩ := Bc.facts
  obtain ⟨xp, yp, zp, vp⟩ := Bp.facts
  obtain ⟨xt, yt, zt, vt⟩ := Bt.facts
  go_wp2_with fail
  refine (awake4_any _).mono ?_
  rintro e w5 ⟨rfl, hb⟩
  clear xa ya za va xb yb zb vb xc yc zc vc xp yp zp vp xt yt zt vt
  replace Ba := Ba.ext hb rfl
  replace Bb := Bb.ext hb rfl
  replace Bc := Bc.ext hb rfl
  replace Bp := Bp.ext hb rfl
  replace Bt := Bt.ext hb rfl
  replace hw := hw.trans (hb.mono hw.size)
  clear hb
  go_wp2
  go_ret
  exact ⟨rfl, hw⟩

set_option maxHeartbeats 1000000 in
theorem rprt_b1 (a b c p : Pt) (x y k : Int) (h0 : (!decide (ori a b c = 0)) = true) (h1 : vld p = true) (r0 : decide (x < -20) = false) (r1 : decide (x > 20) = true) (w : World) :
    Calls Try.prog 6 #[.agg #[.int .i64 a.x, .int .i64 a.y], .agg #[.int .i64 b.x, .int .i64 b.y], .agg #[.int .i64 c.x, .int .i64 c.y], .agg #[.int .i64 p.x, .int .i64 p.y], .int .i64 x, .int .i64 y, .int .i64 k] w fun e w' => e = .returned (.bool true) ∧ Below w.heap.size w w' := by
  have cm := rmake_any a b c
  rw [h0] at cm
  have cv := rvalid_any p
  rw [h1] at cv
  clear h0 h1
  generalize mk a b c = M at *
  go_enter Try.func6, Try.ntmps6
  go_wp2_with fail
  refine at_call fun W1 hW => ?_
  have Ba : Box W1 (w.heap.size) [.int .i64 a.x, .int .i64 a.y] 23 := by rw [hW]; exact (((Box.new rfl).old _).old _).old _
  have Bb : Box W1 (w.heap.size + 1) [.int .i64 b.x, .int .i64 b.y] 23 := by rw [hW]; exact ((Box.new (by simp)).old _).old _
  have Bc : Box W1 (w.heap.size + 1 + 1) [.int .i64 c.x, .int .i64 c.y] 23 := by rw [hW]; exact (Box.new (by simp)).old _
  have Bp : Box W1 (w.heap.size + 1 + 1 + 1) [.int .i64 p.x, .int .i64 p.y] 23 := by rw [hW]; exact Box.new (by simp)
  have hw : Below w.heap.size w W1 := by rw [hW]; go_grown
  clear hW
  refine (cm _).mono ?_
  rintro e w2 ⟨rfl, hb⟩
  replace Ba := Ba.ext hb rfl
  replace Bb := Bb.ext hb rfl
  replace Bc := Bc.ext hb rfl
  replace Bp := Bp.ext hb rfl
  replace hw := hw.trans (hb.mono hw.size)
  clear hb
  obtain ⟨xa, ya, za, va⟩ := Ba.facts
  obtain ⟨xb, yb, zb, vb⟩ := Bb.facts
  obtain ⟨xc, yc, zc, vc⟩ := Bc.facts
  obtain ⟨xp, yp, zp, vp⟩ := Bp.facts
  go_wp2_with fail
  refine at_call fun W3 hW => ?_
  obtain ⟨bkt, hbt⟩ : ∃ b, w2.heap.size = b := ⟨_, rfl⟩
  rw [hbt]
  have lat := Ba.lt
  rw [hbt] at lat
  have lbt := Bb.lt
  rw [hbt] at lbt
  have lct := Bc.lt
  rw [hbt] at lct
  have lpt := Bp.lt
  rw [hbt] at lpt
  have ft := hw.size
  rw [hbt] at ft
  have Bt : Box W3 bkt [.int .i64 M.A.x, .int .i64 M.A.y, .int .i64 M.B.x, .int .i64 M.B.y, .int .i64 M.C.x, .int .i64 M.C.y] 25 := by rw [hW]; exact Box.new hbt.symm
  replace Ba : Box W3 (w.heap.size) [.int .i64 a.x, .int .i64 a.y] 23 := by rw [hW]; exact Ba.old _
  replace Bb : Box W3 (w.heap.size + 1) [.int .i64 b.x, .int .i64 b.y] 23 := by rw [hW]; exact Bb.old _
  replace Bc : Box W3 (w.heap.size + 1 + 1) [.int .i64 c.x, .int .i64 c.y] 23 := by rw [hW]; exact Bc.old _
  replace Bp : Box W3 (w.heap.size + 1 + 1 + 1) [.int .i64 p.x, .int .i64 p.y] 23 := by rw [hW]; exact Bp.old _
  replace hw : Below w.heap.size w W3 := by have hl := hw.size; rw [hW]; go_grown
  clear hW hbt
  refine (cv _).mono ?_
  rintro e w4 ⟨rfl, hb⟩
  clear xa ya za va xb yb zb vb xc yc zc vc xp yp zp vp
  replace Ba := Ba.ext hb rfl
  replace Bb := Bb.ext hb rfl
  replace Bc := Bc.ext hb rfl
  replace Bp := Bp.ext hb rfl
  replace Bt := Bt.ext hb rfl
  replace hw := hw.trans (hb.mono hw.size)
  clear hb
  obtain ⟨xa, ya, za, va⟩ := Ba.facts
  obtain ⟨xb, yb, zb, vb⟩ := Bb.facts
  obtain ⟨xc, yc, zc, vc⟩ := Bc.facts
  obtain ⟨xp, yp, zp, vp⟩ := Bp.facts
  obtain ⟨xt, yt, zt, vt⟩ := Bt.facts
  go_wp2_with fail
  refine (awake4_any _).mono ?_
  rintro e w5 ⟨rfl, hb⟩
  clear xa ya za va xb yb zb vb xc yc zc vc xp yp zp vp xt yt zt vt
  replace Ba := Ba.ext hb rfl
  replace Bb := Bb.ext hb rfl
  replace Bc := Bc.ext hb rfl
  replace Bp := Bp.ext hb rfl
  replace Bt := Bt.ext hb rfl
  replace hw := hw.trans (hb.mono hw.size)
  clear hb
  go_wp2
  go_ret
  exact ⟨rfl, hw⟩

set_option maxHeartbeats 1000000 in
theorem rprt_b2 (a b c p : Pt) (x y k : Int) (h0 : (!decide (ori a b c = 0)) = true) (h1 : vld p = true) (r0 : decide (x < -20) = false) (r1 : decide (x > 20) = false) (r2 : decide (y < -20) = true) (w : World) :
    Calls Try.prog 6 #[.agg #[.int .i64 a.x, .int .i64 a.y], .agg #[.int .i64 b.x, .int .i64 b.y], .agg #[.int .i64 c.x, .int .i64 c.y], .agg #[.int .i64 p.x, .int .i64 p.y], .int .i64 x, .int .i64 y, .int .i64 k] w fun e w' => e = .returned (.bool true) ∧ Below w.heap.size w w' := by
  have cm := rmake_any a b c
  rw [h0] at cm
  have cv := rvalid_any p
  rw [h1] at cv
  clear h0 h1
  generalize mk a b c = M at *
  go_enter Try.func6, Try.ntmps6
  go_wp2_with fail
  refine at_call fun W1 hW => ?_
  have Ba : Box W1 (w.heap.size) [.int .i64 a.x, .int .i64 a.y] 23 := by rw [hW]; exact (((Box.new rfl).old _).old _).old _
  have Bb : Box W1 (w.heap.size + 1) [.int .i64 b.x, .int .i64 b.y] 23 := by rw [hW]; exact ((Box.new (by simp)).old _).old _
  have Bc : Box W1 (w.heap.size + 1 + 1) [.int .i64 c.x, .int .i64 c.y] 23 := by rw [hW]; exact (Box.new (by simp)).old _
  have Bp : Box W1 (w.heap.size + 1 + 1 + 1) [.int .i64 p.x, .int .i64 p.y] 23 := by rw [hW]; exact Box.new (by simp)
  have hw : Below w.heap.size w W1 := by rw [hW]; go_grown
  clear hW
  refine (cm _).mono ?_
  rintro e w2 ⟨rfl, hb⟩
  replace Ba := Ba.ext hb rfl
  replace Bb := Bb.ext hb rfl
  replace Bc := Bc.ext hb rfl
  replace Bp := Bp.ext hb rfl
  replace hw := hw.trans (hb.mono hw.size)
  clear hb
  obtain ⟨xa, ya, za, va⟩ := Ba.facts
  obtain ⟨xb, yb, zb, vb⟩ := Bb.facts
  obtain ⟨xc, yc, zc, vc⟩ := Bc.facts
  obtain ⟨xp, yp, zp, vp⟩ := Bp.facts
  go_wp2_with fail
  refine at_call fun W3 hW => ?_
  obtain ⟨bkt, hbt⟩ : ∃ b, w2.heap.size = b := ⟨_, rfl⟩
  rw [hbt]
  have lat := Ba.lt
  rw [hbt] at lat
  have lbt := Bb.lt
  rw [hbt] at lbt
  have lct := Bc.lt
  rw [hbt] at lct
  have lpt := Bp.lt
  rw [hbt] at lpt
  have ft := hw.size
  rw [hbt] at ft
  have Bt : Box W3 bkt [.int .i64 M.A.x, .int .i64 M.A.y, .int .i64 M.B.x, .int .i64 M.B.y, .int .i64 M.C.x, .int .i64 M.C.y] 25 := by rw [hW]; exact Box.new hbt.symm
  replace Ba : Box W3 (w.heap.size) [.int .i64 a.x, .int .i64 a.y] 23 := by rw [hW]; exact Ba.old _
  replace Bb : Box W3 (w.heap.size + 1) [.int .i64 b.x, .int .i64 b.y] 23 := by rw [hW]; exact Bb.old _
  replace Bc : Box W3 (w.heap.size + 1 + 1) [.int .i64 c.x, .int .i64 c.y] 23 := by rw [hW]; exact Bc.old _
  replace Bp : Box W3 (w.heap.size + 1 + 1 + 1) [.int .i64 p.x, .int .i64 p.y] 23 := by rw [hW]; exact Bp.old _
  replace hw : Below w.heap.size w W3 := by have hl := hw.size; rw [hW]; go_grown
  clear hW hbt
  refine (cv _).mono ?_
  rintro e w4 ⟨rfl, hb⟩
  clear xa ya za va xb yb zb vb xc yc zc vc xp yp zp vp
  replace Ba := Ba.ext hb rfl
  replace Bb := Bb.ext hb rfl
  replace Bc := Bc.ext hb rfl
  replace Bp := Bp.ext hb rfl
  replace Bt := Bt.ext hb rfl
  replace hw := hw.trans (hb.mono hw.size)
  clear hb
  obtain ⟨xa, ya, za, va⟩ := Ba.facts
  obtain ⟨xb, yb, zb, vb⟩ := Bb.facts
  obtain ⟨xc, yc, zc, vc⟩ := Bc.facts
  obtain ⟨xp, yp, zp, vp⟩ := Bp.facts
  obtain ⟨xt, yt, zt, vt⟩ := Bt.facts
  go_wp2_with fail
  refine (awake4_any _).mono ?_
  rintro e w5 ⟨rfl, hb⟩
  clear xa ya za va xb yb zb vb xc yc zc vc xp yp zp vp xt yt zt vt
  replace Ba := Ba.ext hb rfl
  replace Bb := Bb.ext hb rfl
  replace Bc := Bc.ext hb rfl
  replace Bp := Bp.ext hb rfl
  replace Bt := Bt.ext hb rfl
  replace hw := hw.trans (hb.mono hw.size)
  clear hb
  go_wp2
  go_ret
  exact ⟨rfl, hw⟩

set_option maxHeartbeats 1000000 in
theorem rprt_b3 (a b c p : Pt) (x y k : Int) (h0 : (!decide (ori a b c = 0)) = true) (h1 : vld p = true) (r0 : decide (x < -20) = false) (r1 : decide (x > 20) = false) (r2 : decide (y < -20) = false) (r3 : decide (y > 20) = true) (w : World) :
    Calls Try.prog 6 #[.agg #[.int .i64 a.x, .int .i64 a.y], .agg #[.int .i64 b.x, .int .i64 b.y], .agg #[.int .i64 c.x, .int .i64 c.y], .agg #[.int .i64 p.x, .int .i64 p.y], .int .i64 x, .int .i64 y, .int .i64 k] w fun e w' => e = .returned (.bool true) ∧ Below w.heap.size w w' := by
  have cm := rmake_any a b c
  rw [h0] at cm
  have cv := rvalid_any p
  rw [h1] at cv
  clear h0 h1
  generalize mk a b c = M at *
  go_enter Try.func6, Try.ntmps6
  go_wp2_with fail
  refine at_call fun W1 hW => ?_
  have Ba : Box W1 (w.heap.size) [.int .i64 a.x, .int .i64 a.y] 23 := by rw [hW]; exact (((Box.new rfl).old _).old _).old _
  have Bb : Box W1 (w.heap.size + 1) [.int .i64 b.x, .int .i64 b.y] 23 := by rw [hW]; exact ((Box.new (by simp)).old _).old _
  have Bc : Box W1 (w.heap.size + 1 + 1) [.int .i64 c.x, .int .i64 c.y] 23 := by rw [hW]; exact (Box.new (by simp)).old _
  have Bp : Box W1 (w.heap.size + 1 + 1 + 1) [.int .i64 p.x, .int .i64 p.y] 23 := by rw [hW]; exact Box.new (by simp)
  have hw : Below w.heap.size w W1 := by rw [hW]; go_grown
  clear hW
  refine (cm _).mono ?_
  rintro e w2 ⟨rfl, hb⟩
  replace Ba := Ba.ext hb rfl
  replace Bb := Bb.ext hb rfl
  replace Bc := Bc.ext hb rfl
  replace Bp := Bp.ext hb rfl
  replace hw := hw.trans (hb.mono hw.size)
  clear hb
  obtain ⟨xa, ya, za, va⟩ := Ba.facts
  obtain ⟨xb, yb, zb, vb⟩ := Bb.facts
  obtain ⟨xc, yc, zc, vc⟩ := Bc.facts
  obtain ⟨xp, yp, zp, vp⟩ := Bp.facts
  go_wp2_with fail
  refine at_call fun W3 hW => ?_
  obtain ⟨bkt, hbt⟩ : ∃ b, w2.heap.size = b := ⟨_, rfl⟩
  rw [hbt]
  have lat := Ba.lt
  rw [hbt] at lat
  have lbt := Bb.lt
  rw [hbt] at lbt
  have lct := Bc.lt
  rw [hbt] at lct
  have lpt := Bp.lt
  rw [hbt] at lpt
  have ft := hw.size
  rw [hbt] at ft
  have Bt : Box W3 bkt [.int .i64 M.A.x, .int .i64 M.A.y, .int .i64 M.B.x, .int .i64 M.B.y, .int .i64 M.C.x, .int .i64 M.C.y] 25 := by rw [hW]; exact Box.new hbt.symm
  replace Ba : Box W3 (w.heap.size) [.int .i64 a.x, .int .i64 a.y] 23 := by rw [hW]; exact Ba.old _
  replace Bb : Box W3 (w.heap.size + 1) [.int .i64 b.x, .int .i64 b.y] 23 := by rw [hW]; exact Bb.old _
  replace Bc : Box W3 (w.heap.size + 1 + 1) [.int .i64 c.x, .int .i64 c.y] 23 := by rw [hW]; exact Bc.old _
  replace Bp : Box W3 (w.heap.size + 1 + 1 + 1) [.int .i64 p.x, .int .i64 p.y] 23 := by rw [hW]; exact Bp.old _
  replace hw : Below w.heap.size w W3 := by have hl := hw.size; rw [hW]; go_grown
  clear hW hbt
  refine (cv _).mono ?_
  rintro e w4 ⟨rfl, hb⟩
  clear xa ya za va xb yb zb vb xc yc zc vc xp yp zp vp
  replace Ba := Ba.ext hb rfl
  replace Bb := Bb.ext hb rfl
  replace Bc := Bc.ext hb rfl
  replace Bp := Bp.ext hb rfl
  replace Bt := Bt.ext hb rfl
  replace hw := hw.trans (hb.mono hw.size)
  clear hb
  obtain ⟨xa, ya, za, va⟩ := Ba.facts
  obtain ⟨xb, yb, zb, vb⟩ := Bb.facts
  obtain ⟨xc, yc, zc, vc⟩ := Bc.facts
  obtain ⟨xp, yp, zp, vp⟩ := Bp.facts
  obtain ⟨xt, yt, zt, vt⟩ := Bt.facts
  go_wp2_with fail
  refine (awake4_any _).mono ?_
  rintro e w5 ⟨rfl, hb⟩
  clear xa ya za va xb yb zb vb xc yc zc vc xp yp zp vp xt yt zt vt
  replace Ba := Ba.ext hb rfl
  replace Bb := Bb.ext hb rfl
  replace Bc := Bc.ext hb rfl
  replace Bp := Bp.ext hb rfl
  replace Bt := Bt.ext hb rfl
  replace hw := hw.trans (hb.mono hw.size)
  clear hb
  go_wp2
  go_ret
  exact ⟨rfl, hw⟩

set_option maxHeartbeats 1000000 in
theorem rprt_z (a b c p : Pt) (x y k : Int) (h0 : (!decide (ori a b c = 0)) = true) (h1 : vld p = true) (r0 : decide (x < -20) = false) (r1 : decide (x > 20) = false) (r2 : decide (y < -20) = false) (r3 : decide (y > 20) = false) (r4 : (x == 0) = true) (r5 : (y == 0) = true) (w : World) :
    Calls Try.prog 6 #[.agg #[.int .i64 a.x, .int .i64 a.y], .agg #[.int .i64 b.x, .int .i64 b.y], .agg #[.int .i64 c.x, .int .i64 c.y], .agg #[.int .i64 p.x, .int .i64 p.y], .int .i64 x, .int .i64 y, .int .i64 k] w fun e w' => e = .returned (.bool true) ∧ Below w.heap.size w w' := by
  have cm := rmake_any a b c
  rw [h0] at cm
  have cv := rvalid_any p
  rw [h1] at cv
  clear h0 h1
  generalize mk a b c = M at *
  go_enter Try.func6, Try.ntmps6
  go_wp2_with fail
  refine at_call fun W1 hW => ?_
  have Ba : Box W1 (w.heap.size) [.int .i64 a.x, .int .i64 a.y] 23 := by rw [hW]; exact (((Box.new rfl).old _).old _).old _
  have Bb : Box W1 (w.heap.size + 1) [.int .i64 b.x, .int .i64 b.y] 23 := by rw [hW]; exact ((Box.new (by simp)).old _).old _
  have Bc : Box W1 (w.heap.size + 1 + 1) [.int .i64 c.x, .int .i64 c.y] 23 := by rw [hW]; exact (Box.new (by simp)).old _
  have Bp : Box W1 (w.heap.size + 1 + 1 + 1) [.int .i64 p.x, .int .i64 p.y] 23 := by rw [hW]; exact Box.new (by simp)
  have hw : Below w.heap.size w W1 := by rw [hW]; go_grown
  clear hW
  refine (cm _).mono ?_
  rintro e w2 ⟨rfl, hb⟩
  replace Ba := Ba.ext hb rfl
  replace Bb := Bb.ext hb rfl
  replace Bc := Bc.ext hb rfl
  replace Bp := Bp.ext hb rfl
  replace hw := hw.trans (hb.mono hw.size)
  clear hb
  obtain ⟨xa, ya, za, va⟩ := Ba.facts
  obtain ⟨xb, yb, zb, vb⟩ := Bb.facts
  obtain ⟨xc, yc, zc, vc⟩ := Bc.facts
  obtain ⟨xp, yp, zp, vp⟩ := Bp.facts
  go_wp2_with fail
  refine at_call fun W3 hW => ?_
  obtain ⟨bkt, hbt⟩ : ∃ b, w2.heap.size = b := ⟨_, rfl⟩
  rw [hbt]
  have lat := Ba.lt
  rw [hbt] at lat
  have lbt := Bb.lt
  rw [hbt] at lbt
  have lct := Bc.lt
  rw [hbt] at lct
  have lpt := Bp.lt
  rw [hbt] at lpt
  have ft := hw.size
  rw [hbt] at ft
  have Bt : Box W3 bkt [.int .i64 M.A.x, .int .i64 M.A.y, .int .i64 M.B.x, .int .i64 M.B.y, .int .i64 M.C.x, .int .i64 M.C.y] 25 := by rw [hW]; exact Box.new hbt.symm
  replace Ba : Box W3 (w.heap.size) [.int .i64 a.x, .int .i64 a.y] 23 := by rw [hW]; exact Ba.old _
  replace Bb : Box W3 (w.heap.size + 1) [.int .i64 b.x, .int .i64 b.y] 23 := by rw [hW]; exact Bb.old _
  replace Bc : Box W3 (w.heap.size + 1 + 1) [.int .i64 c.x, .int .i64 c.y] 23 := by rw [hW]; exact Bc.old _
  replace Bp : Box W3 (w.heap.size + 1 + 1 + 1) [.int .i64 p.x, .int .i64 p.y] 23 := by rw [hW]; exact Bp.old _
  replace hw : Below w.heap.size w W3 := by have hl := hw.size; rw [hW]; go_grown
  clear hW hbt
  refine (cv _).mono ?_
  rintro e w4 ⟨rfl, hb⟩
  clear xa ya za va xb yb zb vb xc yc zc vc xp yp zp vp
  replace Ba := Ba.ext hb rfl
  replace Bb := Bb.ext hb rfl
  replace Bc := Bc.ext hb rfl
  replace Bp := Bp.ext hb rfl
  replace Bt := Bt.ext hb rfl
  replace hw := hw.trans (hb.mono hw.size)
  clear hb
  obtain ⟨xa, ya, za, va⟩ := Ba.facts
  obtain ⟨xb, yb, zb, vb⟩ := Bb.facts
  obtain ⟨xc, yc, zc, vc⟩ := Bc.facts
  obtain ⟨xp, yp, zp, vp⟩ := Bp.facts
  obtain ⟨xt, yt, zt, vt⟩ := Bt.facts
  go_wp2_with fail
  refine (awake4_any _).mono ?_
  rintro e w5 ⟨rfl, hb⟩
  clear xa ya za va xb yb zb vb xc yc zc vc xp yp zp vp xt yt zt vt
  replace Ba := Ba.ext hb rfl
  replace Bb := Bb.ext hb rfl
  replace Bc := Bc.ext hb rfl
  replace Bp := Bp.ext hb rfl
  replace Bt := Bt.ext hb rfl
  replace hw := hw.trans (hb.mono hw.size)
  clear hb
  go_wp2
  go_ret
  exact ⟨rfl, hw⟩

set_option maxHeartbeats 1000000 in
theorem rprt_ke (a b c p : Pt) (x y k : Int) (h0 : (!decide (ori a b c = 0)) = true) (h1 : vld p = true) (r0 : decide (x < -20) = false) (r1 : decide (x > 20) = false) (r2 : decide (y < -20) = false) (r3 : decide (y > 20) = false) (r4 : (x == 0) = false) (r5 : decide (k < 2) = true) (w : World) :
    Calls Try.prog 6 #[.agg #[.int .i64 a.x, .int .i64 a.y], .agg #[.int .i64 b.x, .int .i64 b.y], .agg #[.int .i64 c.x, .int .i64 c.y], .agg #[.int .i64 p.x, .int .i64 p.y], .int .i64 x, .int .i64 y, .int .i64 k] w fun e w' => e = .returned (.bool true) ∧ Below w.heap.size w w' := by
  have cm := rmake_any a b c
  rw [h0] at cm
  have cv := rvalid_any p
  rw [h1] at cv
  clear h0 h1
  generalize mk a b c = M at *
  go_enter Try.func6, Try.ntmps6
  go_wp2_with fail
  refine at_call fun W1 hW => ?_
  have Ba : Box W1 (w.heap.size) [.int .i64 a.x, .int .i64 a.y] 23 := by rw [hW]; exact (((Box.new rfl).old _).old _).old _
  have Bb : Box W1 (w.heap.size + 1) [.int .i64 b.x, .int .i64 b.y] 23 := by rw [hW]; exact ((Box.new (by simp)).old _).old _
  have Bc : Box W1 (w.heap.size + 1 + 1) [.int .i64 c.x, .int .i64 c.y] 23 := by rw [hW]; exact (Box.new (by simp)).old _
  have Bp : Box W1 (w.heap.size + 1 + 1 + 1) [.int .i64 p.x, .int .i64 p.y] 23 := by rw [hW]; exact Box.new (by simp)
  have hw : Below w.heap.size w W1 := by rw [hW]; go_grown
  clear hW
  refine (cm _).mono ?_
  rintro e w2 ⟨rfl, hb⟩
  replace Ba := Ba.ext hb rfl
  replace Bb := Bb.ext hb rfl
  replace Bc := Bc.ext hb rfl
  replace Bp := Bp.ext hb rfl
  replace hw := hw.trans (hb.mono hw.size)
  clear hb
  obtain ⟨xa, ya, za, va⟩ := Ba.facts
  obtain ⟨xb, yb, zb, vb⟩ := Bb.facts
  obtain ⟨xc, yc, zc, vc⟩ := Bc.facts
  obtain ⟨xp, yp, zp, vp⟩ := Bp.facts
  go_wp2_with fail
  refine at_call fun W3 hW => ?_
  obtain ⟨bkt, hbt⟩ : ∃ b, w2.heap.size = b := ⟨_, rfl⟩
  rw [hbt]
  have lat := Ba.lt
  rw [hbt] at lat
  have lbt := Bb.lt
  rw [hbt] at lbt
  have lct := Bc.lt
  rw [hbt] at lct
  have lpt := Bp.lt
  rw [hbt] at lpt
  have ft := hw.size
  rw [hbt] at ft
  have Bt : Box W3 bkt [.int .i64 M.A.x, .int .i64 M.A.y, .int .i64 M.B.x, .int .i64 M.B.y, .int .i64 M.C.x, .int .i64 M.C.y] 25 := by rw [hW]; exact Box.new hbt.symm
  replace Ba : Box W3 (w.heap.size) [.int .i64 a.x, .int .i64 a.y] 23 := by rw [hW]; exact Ba.old _
  replace Bb : Box W3 (w.heap.size + 1) [.int .i64 b.x, .int .i64 b.y] 23 := by rw [hW]; exact Bb.old _
  replace Bc : Box W3 (w.heap.size + 1 + 1) [.int .i64 c.x, .int .i64 c.y] 23 := by rw [hW]; exact Bc.old _
  replace Bp : Box W3 (w.heap.size + 1 + 1 + 1) [.int .i64 p.x, .int .i64 p.y] 23 := by rw [hW]; exact Bp.old _
  replace hw : Below w.heap.size w W3 := by have hl := hw.size; rw [hW]; go_grown
  clear hW hbt
  refine (cv _).mono ?_
  rintro e w4 ⟨rfl, hb⟩
  clear xa ya za va xb yb zb vb xc yc zc vc xp yp zp vp
  replace Ba := Ba.ext hb rfl
  replace Bb := Bb.ext hb rfl
  replace Bc := Bc.ext hb rfl
  replace Bp := Bp.ext hb rfl
  replace Bt := Bt.ext hb rfl
  replace hw := hw.trans (hb.mono hw.size)
  clear hb
  obtain ⟨xa, ya, za, va⟩ := Ba.facts
  obtain ⟨xb, yb, zb, vb⟩ := Bb.facts
  obtain ⟨xc, yc, zc, vc⟩ := Bc.facts
  obtain ⟨xp, yp, zp, vp⟩ := Bp.facts
  obtain ⟨xt, yt, zt, vt⟩ := Bt.facts
  go_wp2_with fail
  refine (awake4_any _).mono ?_
  rintro e w5 ⟨rfl, hb⟩
  clear xa ya za va xb yb zb vb xc yc zc vc xp yp zp vp xt yt zt vt
  replace Ba := Ba.ext hb rfl
  replace Bb := Bb.ext hb rfl
  replace Bc := Bc.ext hb rfl
  replace Bp := Bp.ext hb rfl
  replace Bt := Bt.ext hb rfl
  replace hw := hw.trans (hb.mono hw.size)
  clear hb
  go_wp2
  go_ret
  exact ⟨rfl, hw⟩

set_option maxHeartbeats 1000000 in
theorem rprt_le (a b c p : Pt) (x y k : Int) (h0 : (!decide (ori a b c = 0)) = true) (h1 : vld p = true) (r0 : decide (x < -20) = false) (r1 : decide (x > 20) = false) (r2 : decide (y < -20) = false) (r3 : decide (y > 20) = false) (r4 : (x == 0) = false) (r5 : decide (k < 2) = false) (r6 : decide (k > 20) = true) (w : World) :
    Calls Try.prog 6 #[.agg #[.int .i64 a.x, .int .i64 a.y], .agg #[.int .i64 b.x, .int .i64 b.y], .agg #[.int .i64 c.x, .int .i64 c.y], .agg #[.int .i64 p.x, .int .i64 p.y], .int .i64 x, .int .i64 y, .int .i64 k] w fun e w' => e = .returned (.bool true) ∧ Below w.heap.size w w' := by
  have cm := rmake_any a b c
  rw [h0] at cm
  have cv := rvalid_any p
  rw [h1] at cv
  clear h0 h1
  generalize mk a b c = M at *
  go_enter Try.func6, Try.ntmps6
  go_wp2_with fail
  refine at_call fun W1 hW => ?_
  have Ba : Box W1 (w.heap.size) [.int .i64 a.x, .int .i64 a.y] 23 := by rw [hW]; exact (((Box.new rfl).old _).old _).old _
  have Bb : Box W1 (w.heap.size + 1) [.int .i64 b.x, .int .i64 b.y] 23 := by rw [hW]; exact ((Box.new (by simp)).old _).old _
  have Bc : Box W1 (w.heap.size + 1 + 1) [.int .i64 c.x, .int .i64 c.y] 23 := by rw [hW]; exact (Box.new (by simp)).old _
  have Bp : Box W1 (w.heap.size + 1 + 1 + 1) [.int .i64 p.x, .int .i64 p.y] 23 := by rw [hW]; exact Box.new (by simp)
  have hw : Below w.heap.size w W1 := by rw [hW]; go_grown
  clear hW
  refine (cm _).mono ?_
  rintro e w2 ⟨rfl, hb⟩
  replace Ba := Ba.ext hb rfl
  replace Bb := Bb.ext hb rfl
  replace Bc := Bc.ext hb rfl
  replace Bp := Bp.ext hb rfl
  replace hw := hw.trans (hb.mono hw.size)
  clear hb
  obtain ⟨xa, ya, za, va⟩ := Ba.facts
  obtain ⟨xb, yb, zb, vb⟩ := Bb.facts
  obtain ⟨xc, yc, zc, vc⟩ := Bc.facts
  obtain ⟨xp, yp, zp, vp⟩ := Bp.facts
  go_wp2_with fail
  refine at_call fun W3 hW => ?_
  obtain ⟨bkt, hbt⟩ : ∃ b, w2.heap.size = b := ⟨_, rfl⟩
  rw [hbt]
  have lat := Ba.lt
  rw [hbt] at lat
  have lbt := Bb.lt
  rw [hbt] at lbt
  have lct := Bc.lt
  rw [hbt] at lct
  have lpt := Bp.lt
  rw [hbt] at lpt
  have ft := hw.size
  rw [hbt] at ft
  have Bt : Box W3 bkt [.int .i64 M.A.x, .int .i64 M.A.y, .int .i64 M.B.x, .int .i64 M.B.y, .int .i64 M.C.x, .int .i64 M.C.y] 25 := by rw [hW]; exact Box.new hbt.symm
  replace Ba : Box W3 (w.heap.size) [.int .i64 a.x, .int .i64 a.y] 23 := by rw [hW]; exact Ba.old _
  replace Bb : Box W3 (w.heap.size + 1) [.int .i64 b.x, .int .i64 b.y] 23 := by rw [hW]; exact Bb.old _
  replace Bc : Box W3 (w.heap.size + 1 + 1) [.int .i64 c.x, .int .i64 c.y] 23 := by rw [hW]; exact Bc.old _
  replace Bp : Box W3 (w.heap.size + 1 + 1 + 1) [.int .i64 p.x, .int .i64 p.y] 23 := by rw [hW]; exact Bp.old _
  replace hw : Below w.heap.size w W3 := by have hl := hw.size; rw [hW]; go_grown
  clear hW hbt
  refine (cv _).mono ?_
  rintro e w4 ⟨rfl, hb⟩
  clear xa ya za va xb yb zb vb xc yc zc vc xp yp zp vp
  replace Ba := Ba.ext hb rfl
  replace Bb := Bb.ext hb rfl
  replace Bc := Bc.ext hb rfl
  replace Bp := Bp.ext hb rfl
  replace Bt := Bt.ext hb rfl
  replace hw := hw.trans (hb.mono hw.size)
  clear hb
  obtain ⟨xa, ya, za, va⟩ := Ba.facts
  obtain ⟨xb, yb, zb, vb⟩ := Bb.facts
  obtain ⟨xc, yc, zc, vc⟩ := Bc.facts
  obtain ⟨xp, yp, zp, vp⟩ := Bp.facts
  obtain ⟨xt, yt, zt, vt⟩ := Bt.facts
  go_wp2_with fail
  refine (awake4_any _).mono ?_
  rintro e w5 ⟨rfl, hb⟩
  clear xa ya za va xb yb zb vb xc yc zc vc xp yp zp vp xt yt zt vt
  replace Ba := Ba.ext hb rfl
  replace Bb := Bb.ext hb rfl
  replace Bc := Bc.ext hb rfl
  replace Bp := Bp.ext hb rfl
  replace Bt := Bt.ext hb rfl
  replace hw := hw.trans (hb.mono hw.size)
  clear hb
  go_wp2
  go_ret
  exact ⟨rfl, hw⟩

set_option maxHeartbeats 1000000 in
theorem rprt_kf (a b c p : Pt) (x y k : Int) (h0 : (!decide (ori a b c = 0)) = true) (h1 : vld p = true) (r0 : decide (x < -20) = false) (r1 : decide (x > 20) = false) (r2 : decide (y < -20) = false) (r3 : decide (y > 20) = false) (r4 : (x == 0) = true) (r5 : (y == 0) = false) (r6 : decide (k < 2) = true) (w : World) :
    Calls Try.prog 6 #[.agg #[.int .i64 a.x, .int .i64 a.y], .agg #[.int .i64 b.x, .int .i64 b.y], .agg #[.int .i64 c.x, .int .i64 c.y], .agg #[.int .i64 p.x, .int .i64 p.y], .int .i64 x, .int .i64 y, .int .i64 k] w fun e w' => e = .returned (.bool true) ∧ Below w.heap.size w w' := by
  have cm := rmake_any a b c
  rw [h0] at cm
  have cv := rvalid_any p
  rw [h1] at cv
  clear h0 h1
  generalize mk a b c = M at *
  go_enter Try.func6, Try.ntmps6
  go_wp2_with fail
  refine at_call fun W1 hW => ?_
  have Ba : Box W1 (w.heap.size) [.int .i64 a.x, .int .i64 a.y] 23 := by rw [hW]; exact (((Box.new rfl).old _).old _).old _
  have Bb : Box W1 (w.heap.size + 1) [.int .i64 b.x, .int .i64 b.y] 23 := by rw [hW]; exact ((Box.new (by simp)).old _).old _
  have Bc : Box W1 (w.heap.size + 1 + 1) [.int .i64 c.x, .int .i64 c.y] 23 := by rw [hW]; exact (Box.new (by simp)).old _
  have Bp : Box W1 (w.heap.size + 1 + 1 + 1) [.int .i64 p.x, .int .i64 p.y] 23 := by rw [hW]; exact Box.new (by simp)
  have hw : Below w.heap.size w W1 := by rw [hW]; go_grown
  clear hW
  refine (cm _).mono ?_
  rintro e w2 ⟨rfl, hb⟩
  replace Ba := Ba.ext hb rfl
  replace Bb := Bb.ext hb rfl
  replace Bc := Bc.ext hb rfl
  replace Bp := Bp.ext hb rfl
  replace hw := hw.trans (hb.mono hw.size)
  clear hb
  obtain ⟨xa, ya, za, va⟩ := Ba.facts
  obtain ⟨xb, yb, zb, vb⟩ := Bb.facts
  obtain ⟨xc, yc, zc, vc⟩ := Bc.facts
  obtain ⟨xp, yp, zp, vp⟩ := Bp.facts
  go_wp2_with fail
  refine at_call fun W3 hW => ?_
  obtain ⟨bkt, hbt⟩ : ∃ b, w2.heap.size = b := ⟨_, rfl⟩
  rw [hbt]
  have lat := Ba.lt
  rw [hbt] at lat
  have lbt := Bb.lt
  rw [hbt] at lbt
  have lct := Bc.lt
  rw [hbt] at lct
  have lpt := Bp.lt
  rw [hbt] at lpt
  have ft := hw.size
  rw [hbt] at ft
  have Bt : Box W3 bkt [.int .i64 M.A.x, .int .i64 M.A.y, .int .i64 M.B.x, .int .i64 M.B.y, .int .i64 M.C.x, .int .i64 M.C.y] 25 := by rw [hW]; exact Box.new hbt.symm
  replace Ba : Box W3 (w.heap.size) [.int .i64 a.x, .int .i64 a.y] 23 := by rw [hW]; exact Ba.old _
  replace Bb : Box W3 (w.heap.size + 1) [.int .i64 b.x, .int .i64 b.y] 23 := by rw [hW]; exact Bb.old _
  replace Bc : Box W3 (w.heap.size + 1 + 1) [.int .i64 c.x, .int .i64 c.y] 23 := by rw [hW]; exact Bc.old _
  replace Bp : Box W3 (w.heap.size + 1 + 1 + 1) [.int .i64 p.x, .int .i64 p.y] 23 := by rw [hW]; exact Bp.old _
  replace hw : Below w.heap.size w W3 := by have hl := hw.size; rw [hW]; go_grown
  clear hW hbt
  refine (cv _).mono ?_
  rintro e w4 ⟨rfl, hb⟩
  clear xa ya za va xb yb zb vb xc yc zc vc xp yp zp vp
  replace Ba := Ba.ext hb rfl
  replace Bb := Bb.ext hb rfl
  replace Bc := Bc.ext hb rfl
  replace Bp := Bp.ext hb rfl
  replace Bt := Bt.ext hb rfl
  replace hw := hw.trans (hb.mono hw.size)
  clear hb
  obtain ⟨xa, ya, za, va⟩ := Ba.facts
  obtain ⟨xb, yb, zb, vb⟩ := Bb.facts
  obtain ⟨xc, yc, zc, vc⟩ := Bc.facts
  obtain ⟨xp, yp, zp, vp⟩ := Bp.facts
  obtain ⟨xt, yt, zt, vt⟩ := Bt.facts
  go_wp2_with fail
  refine (awake4_any _).mono ?_
  rintro e w5 ⟨rfl, hb⟩
  clear xa ya za va xb yb zb vb xc yc zc vc xp yp zp vp xt yt zt vt
  replace Ba := Ba.ext hb rfl
  replace Bb := Bb.ext hb rfl
  replace Bc := Bc.ext hb rfl
  replace Bp := Bp.ext hb rfl
  replace Bt := Bt.ext hb rfl
  replace hw := hw.trans (hb.mono hw.size)
  clear hb
  go_wp2
  go_ret
  exact ⟨rfl, hw⟩

set_option maxHeartbeats 1000000 in
theorem rprt_lf (a b c p : Pt) (x y k : Int) (h0 : (!decide (ori a b c = 0)) = true) (h1 : vld p = true) (r0 : decide (x < -20) = false) (r1 : decide (x > 20) = false) (r2 : decide (y < -20) = false) (r3 : decide (y > 20) = false) (r4 : (x == 0) = true) (r5 : (y == 0) = false) (r6 : decide (k < 2) = false) (r7 : decide (k > 20) = true) (w : World) :
    Calls Try.prog 6 #[.agg #[.int .i64 a.x, .int .i64 a.y], .agg #[.int .i64 b.x, .int .i64 b.y], .agg #[.int .i64 c.x, .int .i64 c.y], .agg #[.int .i64 p.x, .int .i64 p.y], .int .i64 x, .int .i64 y, .int .i64 k] w fun e w' => e = .returned (.bool true) ∧ Below w.heap.size w w' := by
  have cm := rmake_any a b c
  rw [h0] at cm
  have cv := rvalid_any p
  rw [h1] at cv
  clear h0 h1
  generalize mk a b c = M at *
  go_enter Try.func6, Try.ntmps6
  go_wp2_with fail
  refine at_call fun W1 hW => ?_
  have Ba : Box W1 (w.heap.size) [.int .i64 a.x, .int .i64 a.y] 23 := by rw [hW]; exact (((Box.new rfl).old _).old _).old _
  have Bb : Box W1 (w.heap.size + 1) [.int .i64 b.x, .int .i64 b.y] 23 := by rw [hW]; exact ((Box.new (by simp)).old _).old _
  have Bc : Box W1 (w.heap.size + 1 + 1) [.int .i64 c.x, .int .i64 c.y] 23 := by rw [hW]; exact (Box.new (by simp)).old _
  have Bp : Box W1 (w.heap.size + 1 + 1 + 1) [.int .i64 p.x, .int .i64 p.y] 23 := by rw [hW]; exact Box.new (by simp)
  have hw : Below w.heap.size w W1 := by rw [hW]; go_grown
  clear hW
  refine (cm _).mono ?_
  rintro e w2 ⟨rfl, hb⟩
  replace Ba := Ba.ext hb rfl
  replace Bb := Bb.ext hb rfl
  replace Bc := Bc.ext hb rfl
  replace Bp := Bp.ext hb rfl
  replace hw := hw.trans (hb.mono hw.size)
  clear hb
  obtain ⟨xa, ya, za, va⟩ := Ba.facts
  obtain ⟨xb, yb, zb, vb⟩ := Bb.facts
  obtain ⟨xc, yc, zc, vc⟩ := Bc.facts
  obtain ⟨xp, yp, zp, vp⟩ := Bp.facts
  go_wp2_with fail
  refine at_call fun W3 hW => ?_
  obtain ⟨bkt, hbt⟩ : ∃ b, w2.heap.size = b := ⟨_, rfl⟩
  rw [hbt]
  have lat := Ba.lt
  rw [hbt] at lat
  have lbt := Bb.lt
  rw [hbt] at lbt
  have lct := Bc.lt
  rw [hbt] at lct
  have lpt := Bp.lt
  rw [hbt] at lpt
  have ft := hw.size
  rw [hbt] at ft
  have Bt : Box W3 bkt [.int .i64 M.A.x, .int .i64 M.A.y, .int .i64 M.B.x, .int .i64 M.B.y, .int .i64 M.C.x, .int .i64 M.C.y] 25 := by rw [hW]; exact Box.new hbt.symm
  replace Ba : Box W3 (w.heap.size) [.int .i64 a.x, .int .i64 a.y] 23 := by rw [hW]; exact Ba.old _
  replace Bb : Box W3 (w.heap.size + 1) [.int .i64 b.x, .int .i64 b.y] 23 := by rw [hW]; exact Bb.old _
  replace Bc : Box W3 (w.heap.size + 1 + 1) [.int .i64 c.x, .int .i64 c.y] 23 := by rw [hW]; exact Bc.old _
  replace Bp : Box W3 (w.heap.size + 1 + 1 + 1) [.int .i64 p.x, .int .i64 p.y] 23 := by rw [hW]; exact Bp.old _
  replace hw : Below w.heap.size w W3 := by have hl := hw.size; rw [hW]; go_grown
  clear hW hbt
  refine (cv _).mono ?_
  rintro e w4 ⟨rfl, hb⟩
  clear xa ya za va xb yb zb vb xc yc zc vc xp yp zp vp
  replace Ba := Ba.ext hb rfl
  replace Bb := Bb.ext hb rfl
  replace Bc := Bc.ext hb rfl
  replace Bp := Bp.ext hb rfl
  replace Bt := Bt.ext hb rfl
  replace hw := hw.trans (hb.mono hw.size)
  clear hb
  obtain ⟨xa, ya, za, va⟩ := Ba.facts
  obtain ⟨xb, yb, zb, vb⟩ := Bb.facts
  obtain ⟨xc, yc, zc, vc⟩ := Bc.facts
  obtain ⟨xp, yp, zp, vp⟩ := Bp.facts
  obtain ⟨xt, yt, zt, vt⟩ := Bt.facts
  go_wp2_with fail
  refine (awake4_any _).mono ?_
  rintro e w5 ⟨rfl, hb⟩
  clear xa ya za va xb yb zb vb xc yc zc vc xp yp zp vp xt yt zt vt
  replace Ba := Ba.ext hb rfl
  replace Bb := Bb.ext hb rfl
  replace Bc := Bc.ext hb rfl
  replace Bp := Bp.ext hb rfl
  replace Bt := Bt.ext hb rfl
  replace hw := hw.trans (hb.mono hw.size)
  clear hb
  go_wp2
  go_ret
  exact ⟨rfl, hw⟩

set_option maxRecDepth 100000 in
set_option maxHeartbeats 4000000 in
theorem rprt_me (a b c p : Pt) (x y k : Int) (h0 : (!decide (ori a b c = 0)) = true) (h1 : vld p = true) (r0 : decide (x < -20) = false) (r1 : decide (x > 20) = false) (r2 : decide (y < -20) = false) (r3 : decide (y > 20) = false) (r4 : (x == 0) = false) (r5 : decide (k < 2) = false) (r6 : decide (k > 20) = false) (w : World) :
    Calls Try.prog 6 #[.agg #[.int .i64 a.x, .int .i64 a.y], .agg #[.int .i64 b.x, .int .i64 b.y], .agg #[.int .i64 c.x, .int .i64 c.y], .agg #[.int .i64 p.x, .int .i64 p.y], .int .i64 x, .int .i64 y, .int .i64 k] w fun e w' => e = .returned (.bool true) ∧ Below w.heap.size w w' := by
  have cm := rmake_any a b c
  rw [h0] at cm
  have cv := rvalid_any p
  rw [h1] at cv
  have hT := (mk_ok (a := a) (b := b) (c := c) (by simpa using h0)).1
  have hp := vld_iff.1 h1
  have b0 : ¬ x < -20 := of_decide_eq_false r0
  have b1 : ¬ x > 20 := of_decide_eq_false r1
  have b2 : ¬ y < -20 := of_decide_eq_false r2
  have b3 : ¬ y > 20 := of_decide_eq_false r3
  have b4 : ¬ k < 2 := of_decide_eq_false r5
  have b5 : ¬ k > 20 := of_decide_eq_false r6
  have hxy : ¬ (x = 0 ∧ y = 0) := by
    intro ⟨u1, u2⟩
    subst u1 u2
    cases r4
  have m1 := mul_20 (k := k) (x := x) (by omega) (by omega) (by omega) (by omega)
  have m2 := mul_20 (k := k) (x := y) (by omega) (by omega) (by omega) (by omega)
  have ha := alg_parts (T := mk a b c) (p := p) (x := x) (y := y) (k := k) hT h1
  obtain ⟨kx, hkx⟩ : ∃ n, k * x = n := ⟨_, rfl⟩
  obtain ⟨ky, hky⟩ : ∃ n, k * y = n := ⟨_, rfl⟩
  rw [hkx, hky] at ha
  rw [hkx] at m1
  rw [hky] at m2
  obtain ⟨qx, hqx⟩ : ∃ n, p.x + x = n := ⟨_, rfl⟩
  obtain ⟨qy, hqy⟩ : ∃ n, p.y + y = n := ⟨_, rfl⟩
  obtain ⟨rx, hrx⟩ : ∃ n, p.x + kx = n := ⟨_, rfl⟩
  obtain ⟨ry, hry⟩ : ∃ n, p.y + ky = n := ⟨_, rfl⟩
  rw [hqx, hqy, hrx, hry] at ha
  replace ha : vld ⟨qx, qy⟩ = true → vld ⟨rx, ry⟩ = true → alg (mk a b c) p ⟨rx, ry⟩ = (alg (mk a b c) p ⟨qx, qy⟩ || alg (mk a b c) ⟨qx, qy⟩ ⟨rx, ry⟩) := fun u v => ha u v (by omega) hxy
  have HA := Lib.hid ha
  obtain ⟨u1, u2⟩ : wrap64 (p.x + x) = qx ∧ IntKind.i64.wrap (p.x + x) = qx := by rw [← hqx]; exact wrap_in (by omega)
  obtain ⟨u3, u4⟩ : wrap64 (p.y + y) = qy ∧ IntKind.i64.wrap (p.y + y) = qy := by rw [← hqy]; exact wrap_in (by omega)
  obtain ⟨u5, u6⟩ : wrap64 (k * x) = kx ∧ IntKind.i64.wrap (k * x) = kx := by rw [hkx]; exact wrap_in (by omega)
  obtain ⟨u7, u8⟩ : wrap64 (k * y) = ky ∧ IntKind.i64.wrap (k * y) = ky := by rw [hky]; exact wrap_in (by omega)
  obtain ⟨u9, u10⟩ : wrap64 (p.x + kx) = rx ∧ IntKind.i64.wrap (p.x + kx) = rx := by rw [← hrx]; exact wrap_in (by omega)
  obtain ⟨u11, u12⟩ : wrap64 (p.y + ky) = ry ∧ IntKind.i64.wrap (p.y + ky) = ry := by rw [← hry]; exact wrap_in (by omega)
  have dq := rvalid_any ⟨qx, qy⟩
  have dr := rvalid_any ⟨rx, ry⟩
  have c1 := alg_any (mk a b c) p ⟨rx, ry⟩
  have c2 := alg_any (mk a b c) p ⟨qx, qy⟩
  have c3 := alg_any (mk a b c) ⟨qx, qy⟩ ⟨rx, ry⟩
  simp only at dq dr c1 c2 c3
  clear ha hT hp b0 b1 b2 b3 b4 b5 hxy m1 m2 h0 h1 hkx hky hqx hqy hrx hry
  generalize mk a b c = M at *
  go_enter Try.func6, Try.ntmps6
  go_wp2_with fail
  refine at_call fun W1 hW => ?_
  have Ba : Box W1 (w.heap.size) [.int .i64 a.x, .int .i64 a.y] 23 := by rw [hW]; exact (((Box.new rfl).old _).old _).old _
  have Bb : Box W1 (w.heap.size + 1) [.int .i64 b.x, .int .i64 b.y] 23 := by rw [hW]; exact ((Box.new (by simp)).old _).old _
  have Bc : Box W1 (w.heap.size + 1 + 1) [.int .i64 c.x, .int .i64 c.y] 23 := by rw [hW]; exact (Box.new (by simp)).old _
  have Bp : Box W1 (w.heap.size + 1 + 1 + 1) [.int .i64 p.x, .int .i64 p.y] 23 := by rw [hW]; exact Box.new (by simp)
  have hw : Below w.heap.size w W1 := by rw [hW]; go_grown
  clear hW
  refine (cm _).mono ?_
  rintro e w2 ⟨rfl, hb⟩
  replace Ba := Ba.ext hb rfl
  replace Bb := Bb.ext hb rfl
  replace Bc := Bc.ext hb rfl
  replace Bp := Bp.ext hb rfl
  replace hw := hw.trans (hb.mono hw.size)
  clear hb
  obtain ⟨xa, ya, za, va⟩ := Ba.facts
  obtain ⟨xb, yb, zb, vb⟩ := Bb.facts
  obtain ⟨xc, yc, zc, vc⟩ := Bc.facts
  obtain ⟨xp, yp, zp, vp⟩ := Bp.facts
  go_wp2_with fail
  refine at_call fun W3 hW => ?_
  obtain ⟨bkt, hbt⟩ : ∃ b, w2.heap.size = b := ⟨_, rfl⟩
  rw [hbt]
  have lat := Ba.lt
  rw [hbt] at lat
  have lbt := Bb.lt
  rw [hbt] at lbt
  have lct := Bc.lt
  rw [hbt] at lct
  have lpt := Bp.lt
  rw [hbt] at lpt
  have ft := hw.size
  rw [hbt] at ft
  have Bt : Box W3 bkt [.int .i64 M.A.x, .int .i64 M.A.y, .int .i64 M.B.x, .int .i64 M.B.y, .int .i64 M.C.x, .int .i64 M.C.y] 25 := by rw [hW]; exact Box.new hbt.symm
  replace Ba : Box W3 (w.heap.size) [.int .i64 a.x, .int .i64 a.y] 23 := by rw [hW]; exact Ba.old _
  replace Bb : Box W3 (w.heap.size + 1) [.int .i64 b.x, .int .i64 b.y] 23 := by rw [hW]; exact Bb.old _
  replace Bc : Box W3 (w.heap.size + 1 + 1) [.int .i64 c.x, .int .i64 c.y] 23 := by rw [hW]; exact Bc.old _
  replace Bp : Box W3 (w.heap.size + 1 + 1 + 1) [.int .i64 p.x, .int .i64 p.y] 23 := by rw [hW]; exact Bp.old _
  replace hw : Below w.heap.size w W3 := by have hl := hw.size; rw [hW]; go_grown
  clear hW hbt
  refine (cv _).mono ?_
  rintro e w4 ⟨rfl, hb⟩
  clear xa ya za va xb yb zb vb xc yc zc vc xp yp zp vp
  replace Ba := Ba.ext hb rfl
  replace Bb := Bb.ext hb rfl
  replace Bc := Bc.ext hb rfl
  replace Bp := Bp.ext hb rfl
  replace Bt := Bt.ext hb rfl
  replace hw := hw.trans (hb.mono hw.size)
  clear hb
  obtain ⟨xa, ya, za, va⟩ := Ba.facts
  obtain ⟨xb, yb, zb, vb⟩ := Bb.facts
  obtain ⟨xc, yc, zc, vc⟩ := Bc.facts
  obtain ⟨xp, yp, zp, vp⟩ := Bp.facts
  obtain ⟨xt, yt, zt, vt⟩ := Bt.facts
  go_wp2_with fail
  refine at_world fun W5 hW => ?_
  replace hw : Below w.heap.size w W5 := by rw [hW]; exact hw
  replace Ba : Box W5 (w.heap.size) [.int .i64 a.x, .int .i64 a.y] 23 := by rw [hW]; exact Ba
  replace Bb : Box W5 (w.heap.size + 1) [.int .i64 b.x, .int .i64 b.y] 23 := by rw [hW]; exact Bb
  replace Bc : Box W5 (w.heap.size + 1 + 1) [.int .i64 c.x, .int .i64 c.y] 23 := by rw [hW]; exact Bc
  replace Bp : Box W5 (w.heap.size + 1 + 1 + 1) [.int .i64 p.x, .int .i64 p.y] 23 := by rw [hW]; exact Bp
  replace Bt : Box W5 (bkt) [.int .i64 M.A.x, .int .i64 M.A.y, .int .i64 M.B.x, .int .i64 M.B.y, .int .i64 M.C.x, .int .i64 M.C.y] 25 := by rw [hW]; exact Bt
  clear hW cm cv r0 r1 r2 r3 r4 r5 r6
  clear xa ya za va xb yb zb vb xc yc zc vc xp yp zp vp xt yt zt vt
  as_aux_lemma =>
    obtain ⟨xa, ya, za, va⟩ := Ba.facts
    obtain ⟨xb, yb, zb, vb⟩ := Bb.facts
    obtain ⟨xc, yc, zc, vc⟩ := Bc.facts
    obtain ⟨xp, yp, zp, vp⟩ := Bp.facts
    obtain ⟨xt, yt, zt, vt⟩ := Bt.facts
    go_region
    all_goals skip
    · go_wp2_with fail
      refine at_call fun W6 hW => ?_
      have hl := hw.size
      have Ca : Box W6 (w.heap.size) [.int .i64 a.x, .int .i64 a.y] 23 := by rw [hW]; exact (Box.drew ((Ba.old _).old _))
      have Cb : Box W6 (w.heap.size + 1) [.int .i64 b.x, .int .i64 b.y] 23 := by rw [hW]; exact (Box.drew ((Bb.old _).old _))
      have Cc : Box W6 (w.heap.size + 1 + 1) [.int .i64 c.x, .int .i64 c.y] 23 := by rw [hW]; exact (Box.drew ((Bc.old _).old _))
      have Cp : Box W6 (w.heap.size + 1 + 1 + 1) [.int .i64 p.x, .int .i64 p.y] 23 := by rw [hW]; exact (Box.drew ((Bp.old _).old _))
      have Ct : Box W6 (bkt) [.int .i64 M.A.x, .int .i64 M.A.y, .int .i64 M.B.x, .int .i64 M.B.y, .int .i64 M.C.x, .int .i64 M.C.y] 25 := by rw [hW]; exact (Box.drew ((Bt.old _).old _))
      have Bq : Box W6 (W5.heap.size) [.int .i64 qx, .int .i64 qy] 23 := by rw [hW]; exact (Box.drew ((Box.new rfl).old _))
      have Br : Box W6 (W5.heap.size + 1) [.int .i64 rx, .int .i64 ry] 23 := by rw [hW]; exact (Box.drew (Box.new (by simp)))
      replace hw : Below w.heap.size w W6 := by rw [hW]; go_grown
      clear xa ya za va xb yb zb vb xc yc zc vc xp yp zp vp xt yt zt vt
      clear hW hl Ba Bb Bc Bp Bt
      have Ba := Ca
      clear Ca
      have Bb := Cb
      clear Cb
      have Bc := Cc
      clear Cc
      have Bp := Cp
      clear Cp
      have Bt := Ct
      clear Ct
      cases hq : vld ⟨qx, qy⟩
      · rw [hq] at dq
        as_aux_lemma =>
          refine (dq _).mono ?_
          rintro e w7 ⟨rfl, hb⟩
          replace Ba := Ba.ext hb rfl
          replace Bb := Bb.ext hb rfl
          replace Bc := Bc.ext hb rfl
          replace Bp := Bp.ext hb rfl
          replace Bt := Bt.ext hb rfl
          replace Bq := Bq.ext hb rfl
          replace Br := Br.ext hb rfl
          replace hw := hw.trans (hb.mono hw.size)
          clear hb
          obtain ⟨xa, ya, za, va⟩ := Ba.facts
          obtain ⟨xb, yb, zb, vb⟩ := Bb.facts
          obtain ⟨xc, yc, zc, vc⟩ := Bc.facts
          obtain ⟨xp, yp, zp, vp⟩ := Bp.facts
          obtain ⟨xt, yt, zt, vt⟩ := Bt.facts
          obtain ⟨xq, yq, zq, vq⟩ := Bq.facts
          obtain ⟨xr, yr, zr, vr⟩ := Br.facts
          go_wp2_with fail
          refine (awake4_any _).mono ?_
          rintro e w8 ⟨rfl, hb⟩
          clear xa ya za va xb yb zb vb xc yc zc vc xp yp zp vp xt yt zt vt xq yq zq vq xr yr zr vr
          replace Ba := Ba.ext hb rfl
          replace Bb := Bb.ext hb rfl
          replace Bc := Bc.ext hb rfl
          replace Bp := Bp.ext hb rfl
          replace Bt := Bt.ext hb rfl
          replace Bq := Bq.ext hb rfl
          replace Br := Br.ext hb rfl
          replace hw := hw.trans (hb.mono hw.size)
          clear hb
          go_wp2
          go_ret
          exact ⟨rfl, hw⟩
      · cases hr : vld ⟨rx, ry⟩
        · rw [hq] at dq
          rw [hr] at dr
          as_aux_lemma =>
            refine (dq _).mono ?_
            rintro e w7 ⟨rfl, hb⟩
            replace Ba := Ba.ext hb rfl
            replace Bb := Bb.ext hb rfl
            replace Bc := Bc.ext hb rfl
            replace Bp := Bp.ext hb rfl
            replace Bt := Bt.ext hb rfl
            replace Bq := Bq.ext hb rfl
            replace Br := Br.ext hb rfl
            replace hw := hw.trans (hb.mono hw.size)
            clear hb
            obtain ⟨xa, ya, za, va⟩ := Ba.facts
            obtain ⟨xb, yb, zb, vb⟩ := Bb.facts
            obtain ⟨xc, yc, zc, vc⟩ := Bc.facts
            obtain ⟨xp, yp, zp, vp⟩ := Bp.facts
            obtain ⟨xt, yt, zt, vt⟩ := Bt.facts
            obtain ⟨xq, yq, zq, vq⟩ := Bq.facts
            obtain ⟨xr, yr, zr, vr⟩ := Br.facts
            go_wp2_with fail
            refine (dr _).mono ?_
            rintro e w8 ⟨rfl, hb⟩
            clear xa ya za va xb yb zb vb xc yc zc vc xp yp zp vp xt yt zt vt xq yq zq vq xr yr zr vr
            replace Ba := Ba.ext hb rfl
            replace Bb := Bb.ext hb rfl
            replace Bc := Bc.ext hb rfl
            replace Bp := Bp.ext hb rfl
            replace Bt := Bt.ext hb rfl
            replace Bq := Bq.ext hb rfl
            replace Br := Br.ext hb rfl
            replace hw := hw.trans (hb.mono hw.size)
            clear hb
            obtain ⟨xa, ya, za, va⟩ := Ba.facts
            obtain ⟨xb, yb, zb, vb⟩ := Bb.facts
            obtain ⟨xc, yc, zc, vc⟩ := Bc.facts
            obtain ⟨xp, yp, zp, vp⟩ := Bp.facts
            obtain ⟨xt, yt, zt, vt⟩ := Bt.facts
            obtain ⟨xq, yq, zq, vq⟩ := Bq.facts
            obtain ⟨xr, yr, zr, vr⟩ := Br.facts
            go_wp2_with fail
            refine (awake4_any _).mono ?_
            rintro e w9 ⟨rfl, hb⟩
            clear xa ya za va xb yb zb vb xc yc zc vc xp yp zp vp xt yt zt vt xq yq zq vq xr yr zr vr
            replace Ba := Ba.ext hb rfl
            replace Bb := Bb.ext hb rfl
            replace Bc := Bc.ext hb rfl
            replace Bp := Bp.ext hb rfl
            replace Bt := Bt.ext hb rfl
            replace Bq := Bq.ext hb rfl
            replace Br := Br.ext hb rfl
            replace hw := hw.trans (hb.mono hw.size)
            clear hb
            go_wp2
            go_ret
            exact ⟨rfl, hw⟩
        · cases hm : alg M p ⟨qx, qy⟩
          · rw [hq] at dq
            rw [hr] at dr
            have ha := HA.out hq hr
            rw [hm] at ha c2
            rw [ha] at c1
            clear ha
            as_aux_lemma =>
              refine (dq _).mono ?_
              rintro e w7 ⟨rfl, hb⟩
              replace Ba := Ba.ext hb rfl
              replace Bb := Bb.ext hb rfl
              replace Bc := Bc.ext hb rfl
              replace Bp := Bp.ext hb rfl
              replace Bt := Bt.ext hb rfl
              replace Bq := Bq.ext hb rfl
              replace Br := Br.ext hb rfl
              replace hw := hw.trans (hb.mono hw.size)
              clear hb
              obtain ⟨xa, ya, za, va⟩ := Ba.facts
              obtain ⟨xb, yb, zb, vb⟩ := Bb.facts
              obtain ⟨xc, yc, zc, vc⟩ := Bc.facts
              obtain ⟨xp, yp, zp, vp⟩ := Bp.facts
              obtain ⟨xt, yt, zt, vt⟩ := Bt.facts
              obtain ⟨xq, yq, zq, vq⟩ := Bq.facts
              obtain ⟨xr, yr, zr, vr⟩ := Br.facts
              go_wp2_with fail
              refine (dr _).mono ?_
              rintro e w8 ⟨rfl, hb⟩
              clear xa ya za va xb yb zb vb xc yc zc vc xp yp zp vp xt yt zt vt xq yq zq vq xr yr zr vr
              replace Ba := Ba.ext hb rfl
              replace Bb := Bb.ext hb rfl
              replace Bc := Bc.ext hb rfl
              replace Bp := Bp.ext hb rfl
              replace Bt := Bt.ext hb rfl
              replace Bq := Bq.ext hb rfl
              replace Br := Br.ext hb rfl
              replace hw := hw.trans (hb.mono hw.size)
              clear hb
              obtain ⟨xa, ya, za, va⟩ := Ba.facts
              obtain ⟨xb, yb, zb, vb⟩ := Bb.facts
              obtain ⟨xc, yc, zc, vc⟩ := Bc.facts
              obtain ⟨xp, yp, zp, vp⟩ := Bp.facts
              obtain ⟨xt, yt, zt, vt⟩ := Bt.facts
              obtain ⟨xq, yq, zq, vq⟩ := Bq.facts
              obtain ⟨xr, yr, zr, vr⟩ := Br.facts
              go_wp2_with fail
              refine at_world fun W9 hW => ?_
              replace hw : Below w.heap.size w W9 := by rw [hW]; exact hw
              replace Ba : Box W9 (w.heap.size) [.int .i64 a.x, .int .i64 a.y] 23 := by rw [hW]; exact Ba
              replace Bb : Box W9 (w.heap.size + 1) [.int .i64 b.x, .int .i64 b.y] 23 := by rw [hW]; exact Bb
              replace Bc : Box W9 (w.heap.size + 1 + 1) [.int .i64 c.x, .int .i64 c.y] 23 := by rw [hW]; exact Bc
              replace Bp : Box W9 (w.heap.size + 1 + 1 + 1) [.int .i64 p.x, .int .i64 p.y] 23 := by rw [hW]; exact Bp
              replace Bt : Box W9 (bkt) [.int .i64 M.A.x, .int .i64 M.A.y, .int .i64 M.B.x, .int .i64 M.B.y, .int .i64 M.C.x, .int .i64 M.C.y] 25 := by rw [hW]; exact Bt
              replace Bq : Box W9 (W5.heap.size) [.int .i64 qx, .int .i64 qy] 23 := by rw [hW]; exact Bq
              replace Br : Box W9 (W5.heap.size + 1) [.int .i64 rx, .int .i64 ry] 23 := by rw [hW]; exact Br
              clear hW
              clear xa ya za va xb yb zb vb xc yc zc vc xp yp zp vp xt yt zt vt xq yq zq vq xr yr zr vr
              generalize alg M ⟨qx, qy⟩ ⟨rx, ry⟩ = u at *
              simp only [Bool.false_or] at c1
              have ga := Ba.cells
              have gb := Bb.cells
              have gc := Bc.cells
              have gp := Bp.cells
              have gt := Bt.cells
              have gq := Bq.cells
              have gr := Br.cells
              refine wp_region_tail 18 (by kernel_rfl) (by kernel_rfl) (C := fun w' => ∃ p : Regrown, w' = grow (redrawn W9 p.d) p.os) (fun w' h => regrown_of_below h) ?_
              simp only [List.take_succ_cons, List.take_zero, List.drop_succ_cons, List.drop_zero]
              repeat (first | (refine rWalk_skip (Eq.refl false) ?_; simp only [Act.put, List.setIfInBounds_toArray, List.set_cons_succ, List.set_cons_zero]) | (refine rWalk_step (fun K hK => ?_); go_simp; first | (refine hK _ ?_; clear hK K) | (apply Exists.intro; refine ⟨fun _ => ?_, hK _ ?_⟩; (first | with_reducible exact toExt c1 _ | with_reducible exact toExt c2 _ | with_reducible exact toExt c3 _ | with_reducible exact toExt awake4_any _); clear hK K)))
              refine rWalk_nil ?_
              intro w10 hb
              clear ga gb gc gp gt gq gr
              replace Ba := Ba.ext hb rfl
              replace Bb := Bb.ext hb rfl
              replace Bc := Bc.ext hb rfl
              replace Bp := Bp.ext hb rfl
              replace Bt := Bt.ext hb rfl
              replace Bq := Bq.ext hb rfl
              replace Br := Br.ext hb rfl
              replace hw := hw.trans (hb.mono hw.size)
              go_wp2
              go_ret
              exact ⟨rfl, hw⟩
          · rw [hq] at dq
            rw [hr] at dr
            have ha := HA.out hq hr
            rw [hm] at ha c2
            rw [ha] at c1
            clear ha
            as_aux_lemma =>
              refine (dq _).mono ?_
              rintro e w7 ⟨rfl, hb⟩
              replace Ba := Ba.ext hb rfl
              replace Bb := Bb.ext hb rfl
              replace Bc := Bc.ext hb rfl
              replace Bp := Bp.ext hb rfl
              replace Bt := Bt.ext hb rfl
              replace Bq := Bq.ext hb rfl
              replace Br := Br.ext hb rfl
              replace hw := hw.trans (hb.mono hw.size)
              clear hb
              obtain ⟨xa, ya, za, va⟩ := Ba.facts
              obtain ⟨xb, yb, zb, vb⟩ := Bb.facts
              obtain ⟨xc, yc, zc, vc⟩ := Bc.facts
              obtain ⟨xp, yp, zp, vp⟩ := Bp.facts
              obtain ⟨xt, yt, zt, vt⟩ := Bt.facts
              obtain ⟨xq, yq, zq, vq⟩ := Bq.facts
              obtain ⟨xr, yr, zr, vr⟩ := Br.facts
              go_wp2_with fail
              refine (dr _).mono ?_
              rintro e w8 ⟨rfl, hb⟩
              clear xa ya za va xb yb zb vb xc yc zc vc xp yp zp vp xt yt zt vt xq yq zq vq xr yr zr vr
              replace Ba := Ba.ext hb rfl
              replace Bb := Bb.ext hb rfl
              replace Bc := Bc.ext hb rfl
              replace Bp := Bp.ext hb rfl
              replace Bt := Bt.ext hb rfl
              replace Bq := Bq.ext hb rfl
              replace Br := Br.ext hb rfl
              replace hw := hw.trans (hb.mono hw.size)
              clear hb
              obtain ⟨xa, ya, za, va⟩ := Ba.facts
              obtain ⟨xb, yb, zb, vb⟩ := Bb.facts
              obtain ⟨xc, yc, zc, vc⟩ := Bc.facts
              obtain ⟨xp, yp, zp, vp⟩ := Bp.facts
              obtain ⟨xt, yt, zt, vt⟩ := Bt.facts
              obtain ⟨xq, yq, zq, vq⟩ := Bq.facts
              obtain ⟨xr, yr, zr, vr⟩ := Br.facts
              go_wp2_with fail
              refine at_world fun W9 hW => ?_
              replace hw : Below w.heap.size w W9 := by rw [hW]; exact hw
              replace Ba : Box W9 (w.heap.size) [.int .i64 a.x, .int .i64 a.y] 23 := by rw [hW]; exact Ba
              replace Bb : Box W9 (w.heap.size + 1) [.int .i64 b.x, .int .i64 b.y] 23 := by rw [hW]; exact Bb
              replace Bc : Box W9 (w.heap.size + 1 + 1) [.int .i64 c.x, .int .i64 c.y] 23 := by rw [hW]; exact Bc
              replace Bp : Box W9 (w.heap.size + 1 + 1 + 1) [.int .i64 p.x, .int .i64 p.y] 23 := by rw [hW]; exact Bp
              replace Bt : Box W9 (bkt) [.int .i64 M.A.x, .int .i64 M.A.y, .int .i64 M.B.x, .int .i64 M.B.y, .int .i64 M.C.x, .int .i64 M.C.y] 25 := by rw [hW]; exact Bt
              replace Bq : Box W9 (W5.heap.size) [.int .i64 qx, .int .i64 qy] 23 := by rw [hW]; exact Bq
              replace Br : Box W9 (W5.heap.size + 1) [.int .i64 rx, .int .i64 ry] 23 := by rw [hW]; exact Br
              clear hW
              clear xa ya za va xb yb zb vb xc yc zc vc xp yp zp vp xt yt zt vt xq yq zq vq xr yr zr vr
              generalize alg M ⟨qx, qy⟩ ⟨rx, ry⟩ = u at *
              simp only [Bool.true_or] at c1
              have ga := Ba.cells
              have gb := Bb.cells
              have gc := Bc.cells
              have gp := Bp.cells
              have gt := Bt.cells
              have gq := Bq.cells
              have gr := Br.cells
              refine wp_region_tail 18 (by kernel_rfl) (by kernel_rfl) (C := fun w' => ∃ p : Regrown, w' = grow (redrawn W9 p.d) p.os) (fun w' h => regrown_of_below h) ?_
              simp only [List.take_succ_cons, List.take_zero, List.drop_succ_cons, List.drop_zero]
              repeat (first | (refine rWalk_skip (Eq.refl false) ?_; simp only [Act.put, List.setIfInBounds_toArray, List.set_cons_succ, List.set_cons_zero]) | (refine rWalk_step (fun K hK => ?_); go_simp; first | (refine hK _ ?_; clear hK K) | (apply Exists.intro; refine ⟨fun _ => ?_, hK _ ?_⟩; (first | with_reducible exact toExt c1 _ | with_reducible exact toExt c2 _ | with_reducible exact toExt c3 _ | with_reducible exact toExt awake4_any _); clear hK K)))
              refine rWalk_nil ?_
              intro w10 hb
              clear ga gb gc gp gt gq gr
              replace Ba := Ba.ext hb rfl
              replace Bb := Bb.ext hb rfl
              replace Bc := Bc.ext hb rfl
              replace Bp := Bp.ext hb rfl
              replace Bt := Bt.ext hb rfl
              replace Bq := Bq.ext hb rfl
              replace Br := Br.ext hb rfl
              replace hw := hw.trans (hb.mono hw.size)
              go_wp2
              go_ret
              exact ⟨rfl, hw⟩
    · go_wp2_with fail
      refine at_call fun W6 hW => ?_
      have hl := hw.size
      have Ca : Box W6 (w.heap.size) [.int .i64 a.x, .int .i64 a.y] 23 := by rw [hW]; exact (Box.drew ((Ba.old _).old _))
      have Cb : Box W6 (w.heap.size + 1) [.int .i64 b.x, .int .i64 b.y] 23 := by rw [hW]; exact (Box.drew ((Bb.old _).old _))
      have Cc : Box W6 (w.heap.size + 1 + 1) [.int .i64 c.x, .int .i64 c.y] 23 := by rw [hW]; exact (Box.drew ((Bc.old _).old _))
      have Cp : Box W6 (w.heap.size + 1 + 1 + 1) [.int .i64 p.x, .int .i64 p.y] 23 := by rw [hW]; exact (Box.drew ((Bp.old _).old _))
      have Ct : Box W6 (bkt) [.int .i64 M.A.x, .int .i64 M.A.y, .int .i64 M.B.x, .int .i64 M.B.y, .int .i64 M.C.x, .int .i64 M.C.y] 25 := by rw [hW]; exact (Box.drew ((Bt.old _).old _))
      have Br : Box W6 (W5.heap.size) [.int .i64 rx, .int .i64 ry] 23 := by rw [hW]; exact (Box.drew ((Box.new rfl).old _))
      have Bq : Box W6 (W5.heap.size + 1) [.int .i64 qx, .int .i64 qy] 23 := by rw [hW]; exact (Box.drew (Box.new (by simp)))
      replace hw : Below w.heap.size w W6 := by rw [hW]; go_grown
      clear xa ya za va xb yb zb vb xc yc zc vc xp yp zp vp xt yt zt vt
      clear hW hl Ba Bb Bc Bp Bt
      have Ba := Ca
      clear Ca
      have Bb := Cb
      clear Cb
      have Bc := Cc
      clear Cc
      have Bp := Cp
      clear Cp
      have Bt := Ct
      clear Ct
      cases hq : vld ⟨qx, qy⟩
      · rw [hq] at dq
        as_aux_lemma =>
          refine (dq _).mono ?_
          rintro e w7 ⟨rfl, hb⟩
          replace Ba := Ba.ext hb rfl
          replace Bb := Bb.ext hb rfl
          replace Bc := Bc.ext hb rfl
          replace Bp := Bp.ext hb rfl
          replace Bt := Bt.ext hb rfl
          replace Br := Br.ext hb rfl
          replace Bq := Bq.ext hb rfl
          replace hw := hw.trans (hb.mono hw.size)
          clear hb
          obtain ⟨xa, ya, za, va⟩ := Ba.facts
          obtain ⟨xb, yb, zb, vb⟩ := Bb.facts
          obtain ⟨xc, yc, zc, vc⟩ := Bc.facts
          obtain ⟨xp, yp, zp, vp⟩ := Bp.facts
          obtain ⟨xt, yt, zt, vt⟩ := Bt.facts
          obtain ⟨xr, yr, zr, vr⟩ := Br.facts
          obtain ⟨xq, yq, zq, vq⟩ := Bq.facts
          go_wp2_with fail
          refine (awake4_any _).mono ?_
          rintro e w8 ⟨rfl, hb⟩
          clear xa ya za va xb yb zb vb xc yc zc vc xp yp zp vp xt yt zt vt xr yr zr vr xq yq zq vq
          replace Ba := Ba.ext hb rfl
          replace Bb := Bb.ext hb rfl
          replace Bc := Bc.ext hb rfl
          replace Bp := Bp.ext hb rfl
          replace Bt := Bt.ext hb rfl
          replace Br := Br.ext hb rfl
          replace Bq := Bq.ext hb rfl
          replace hw := hw.trans (hb.mono hw.size)
          clear hb
          go_wp2
          go_ret
          exact ⟨rfl, hw⟩
      · cases hr : vld ⟨rx, ry⟩
        · rw [hq] at dq
          rw [hr] at dr
          as_aux_lemma =>
            refine (dq _).mono ?_
            rintro e w7 ⟨rfl, hb⟩
            replace Ba := Ba.ext hb rfl
            replace Bb := Bb.ext hb rfl
            replace Bc := Bc.ext hb rfl
            replace Bp := Bp.ext hb rfl
            replace Bt := Bt.ext hb rfl
            replace Br := Br.ext hb rfl
            replace Bq := Bq.ext hb rfl
            replace hw := hw.trans (hb.mono hw.size)
            clear hb
            obtain ⟨xa, ya, za, va⟩ := Ba.facts
            obtain ⟨xb, yb, zb, vb⟩ := Bb.facts
            obtain ⟨xc, yc, zc, vc⟩ := Bc.facts
            obtain ⟨xp, yp, zp, vp⟩ := Bp.facts
            obtain ⟨xt, yt, zt, vt⟩ := Bt.facts
            obtain ⟨xr, yr, zr, vr⟩ := Br.facts
            obtain ⟨xq, yq, zq, vq⟩ := Bq.facts
            go_wp2_with fail
            refine (dr _).mono ?_
            rintro e w8 ⟨rfl, hb⟩
            clear xa ya za va xb yb zb vb xc yc zc vc xp yp zp vp xt yt zt vt xr yr zr vr xq yq zq vq
            replace Ba := Ba.ext hb rfl
            replace Bb := Bb.ext hb rfl
            replace Bc := Bc.ext hb rfl
            replace Bp := Bp.ext hb rfl
            replace Bt := Bt.ext hb rfl
            replace Br := Br.ext hb rfl
            replace Bq := Bq.ext hb rfl
            replace hw := hw.trans (hb.mono hw.size)
            clear hb
            obtain ⟨xa, ya, za, va⟩ := Ba.facts
            obtain ⟨xb, yb, zb, vb⟩ := Bb.facts
            obtain ⟨xc, yc, zc, vc⟩ := Bc.facts
            obtain ⟨xp, yp, zp, vp⟩ := Bp.facts
            obtain ⟨xt, yt, zt, vt⟩ := Bt.facts
            obtain ⟨xr, yr, zr, vr⟩ := Br.facts
            obtain ⟨xq, yq, zq, vq⟩ := Bq.facts
            go_wp2_with fail
            refine (awake4_any _).mono ?_
            rintro e w9 ⟨rfl, hb⟩
            clear xa ya za va xb yb zb vb xc yc zc vc xp yp zp vp xt yt zt vt xr yr zr vr xq yq zq vq
            replace Ba := Ba.ext hb rfl
            replace Bb := Bb.ext hb rfl
            replace Bc := Bc.ext hb rfl
            replace Bp := Bp.ext hb rfl
            replace Bt := Bt.ext hb rfl
            replace Br := Br.ext hb rfl
            replace Bq := Bq.ext hb rfl
            replace hw := hw.trans (hb.mono hw.size)
            clear hb
            go_wp2
            go_ret
            exact ⟨rfl, hw⟩
        · cases hm : alg M p ⟨qx, qy⟩
          · rw [hq] at dq
            rw [hr] at dr
            have ha := HA.out hq hr
            rw [hm] at ha c2
            rw [ha] at c1
            clear ha
            as_aux_lemma =>
              refine (dq _).mono ?_
              rintro e w7 ⟨rfl, hb⟩
              replace Ba := Ba.ext hb rfl
              replace Bb := Bb.ext hb rfl
              replace Bc := Bc.ext hb rfl
              replace Bp := Bp.ext hb rfl
              replace Bt := Bt.ext hb rfl
              replace Br := Br.ext hb rfl
              replace Bq := Bq.ext hb rfl
              replace hw := hw.trans (hb.mono hw.size)
              clear hb
              obtain ⟨xa, ya, za, va⟩ := Ba.facts
              obtain ⟨xb, yb, zb, vb⟩ := Bb.facts
              obtain ⟨xc, yc, zc, vc⟩ := Bc.facts
              obtain ⟨xp, yp, zp, vp⟩ := Bp.facts
              obtain ⟨xt, yt, zt, vt⟩ := Bt.facts
              obtain ⟨xr, yr, zr, vr⟩ := Br.facts
              obtain ⟨xq, yq, zq, vq⟩ := Bq.facts
              go_wp2_with fail
              refine (dr _).mono ?_
              rintro e w8 ⟨rfl, hb⟩
              clear xa ya za va xb yb zb vb xc yc zc vc xp yp zp vp xt yt zt vt xr yr zr vr xq yq zq vq
              replace Ba := Ba.ext hb rfl
              replace Bb := Bb.ext hb rfl
              replace Bc := Bc.ext hb rfl
              replace Bp := Bp.ext hb rfl
              replace Bt := Bt.ext hb rfl
              replace Br := Br.ext hb rfl
              replace Bq := Bq.ext hb rfl
              replace hw := hw.trans (hb.mono hw.size)
              clear hb
              obtain ⟨xa, ya, za, va⟩ := Ba.facts
              obtain ⟨xb, yb, zb, vb⟩ := Bb.facts
              obtain ⟨xc, yc, zc, vc⟩ := Bc.facts
              obtain ⟨xp, yp, zp, vp⟩ := Bp.facts
              obtain ⟨xt, yt, zt, vt⟩ := Bt.facts
              obtain ⟨xr, yr, zr, vr⟩ := Br.facts
              obtain ⟨xq, yq, zq, vq⟩ := Bq.facts
              go_wp2_with fail
              refine at_world fun W9 hW => ?_
              replace hw : Below w.heap.size w W9 := by rw [hW]; exact hw
              replace Ba : Box W9 (w.heap.size) [.int .i64 a.x, .int .i64 a.y] 23 := by rw [hW]; exact Ba
              replace Bb : Box W9 (w.heap.size + 1) [.int .i64 b.x, .int .i64 b.y] 23 := by rw [hW]; exact Bb
              replace Bc : Box W9 (w.heap.size + 1 + 1) [.int .i64 c.x, .int .i64 c.y] 23 := by rw [hW]; exact Bc
              replace Bp : Box W9 (w.heap.size + 1 + 1 + 1) [.int .i64 p.x, .int .i64 p.y] 23 := by rw [hW]; exact Bp
              replace Bt : Box W9 (bkt) [.int .i64 M.A.x, .int .i64 M.A.y, .int .i64 M.B.x, .int .i64 M.B.y, .int .i64 M.C.x, .int .i64 M.C.y] 25 := by rw [hW]; exact Bt
              replace Br : Box W9 (W5.heap.size) [.int .i64 rx, .int .i64 ry] 23 := by rw [hW]; exact Br
              replace Bq : Box W9 (W5.heap.size + 1) [.int .i64 qx, .int .i64 qy] 23 := by rw [hW]; exact Bq
              clear hW
              clear xa ya za va xb yb zb vb xc yc zc vc xp yp zp vp xt yt zt vt xr yr zr vr xq yq zq vq
              generalize alg M ⟨qx, qy⟩ ⟨rx, ry⟩ = u at *
              simp only [Bool.false_or] at c1
              have ga := Ba.cells
              have gb := Bb.cells
              have gc := Bc.cells
              have gp := Bp.cells
              have gt := Bt.cells
              have gr := Br.cells
              have gq := Bq.cells
              refine wp_region_tail 18 (by kernel_rfl) (by kernel_rfl) (C := fun w' => ∃ p : Regrown, w' = grow (redrawn W9 p.d) p.os) (fun w' h => regrown_of_below h) ?_
              simp only [List.take_succ_cons, List.take_zero, List.drop_succ_cons, List.drop_zero]
              repeat (first | (refine rWalk_skip (Eq.refl false) ?_; simp only [Act.put, List.setIfInBounds_toArray, List.set_cons_succ, List.set_cons_zero]) | (refine rWalk_step (fun K hK => ?_); go_simp; first | (refine hK _ ?_; clear hK K) | (apply Exists.intro; refine ⟨fun _ => ?_, hK _ ?_⟩; (first | with_reducible exact toExt c1 _ | with_reducible exact toExt c2 _ | with_reducible exact toExt c3 _ | with_reducible exact toExt awake4_any _); clear hK K)))
              refine rWalk_nil ?_
              intro w10 hb
              clear ga gb gc gp gt gr gq
              replace Ba := Ba.ext hb rfl
              replace Bb := Bb.ext hb rfl
              replace Bc := Bc.ext hb rfl
              replace Bp := Bp.ext hb rfl
              replace Bt := Bt.ext hb rfl
              replace Br := Br.ext hb rfl
              replace Bq := Bq.ext hb rfl
              replace hw := hw.trans (hb.mono hw.size)
              go_wp2
              go_ret
              exact ⟨rfl, hw⟩
          · rw [hq] at dq
            rw [hr] at dr
            have ha := HA.out hq hr
            rw [hm] at ha c2
            rw [ha] at c1
            clear ha
            as_aux_lemma =>
              refine (dq _).mono ?_
              rintro e w7 ⟨rfl, hb⟩
              replace Ba := Ba.ext hb rfl
              replace Bb := Bb.ext hb rfl
              replace Bc := Bc.ext hb rfl
              replace Bp := Bp.ext hb rfl
              replace Bt := Bt.ext hb rfl
              replace Br := Br.ext hb rfl
              replace Bq := Bq.ext hb rfl
              replace hw := hw.trans (hb.mono hw.size)
              clear hb
              obtain ⟨xa, ya, za, va⟩ := Ba.facts
              obtain ⟨xb, yb, zb, vb⟩ := Bb.facts
              obtain ⟨xc, yc, zc, vc⟩ := Bc.facts
              obtain ⟨xp, yp, zp, vp⟩ := Bp.facts
              obtain ⟨xt, yt, zt, vt⟩ := Bt.facts
              obtain ⟨xr, yr, zr, vr⟩ := Br.facts
              obtain ⟨xq, yq, zq, vq⟩ := Bq.facts
              go_wp2_with fail
              refine (dr _).mono ?_
              rintro e w8 ⟨rfl, hb⟩
              clear xa ya za va xb yb zb vb xc yc zc vc xp yp zp vp xt yt zt vt xr yr zr vr xq yq zq vq
              replace Ba := Ba.ext hb rfl
              replace Bb := Bb.ext hb rfl
              replace Bc := Bc.ext hb rfl
              replace Bp := Bp.ext hb rfl
              replace Bt := Bt.ext hb rfl
              replace Br := Br.ext hb rfl
              replace Bq := Bq.ext hb rfl
              replace hw := hw.trans (hb.mono hw.size)
              clear hb
              obtain ⟨xa, ya, za, va⟩ := Ba.facts
              obtain ⟨xb, yb, zb, vb⟩ := Bb.facts
              obtain ⟨xc, yc, zc, vc⟩ := Bc.facts
              obtain ⟨xp, yp, zp, vp⟩ := Bp.facts
              obtain ⟨xt, yt, zt, vt⟩ := Bt.facts
              obtain ⟨xr, yr, zr, vr⟩ := Br.facts
              obtain ⟨xq, yq, zq, vq⟩ := Bq.facts
              go_wp2_with fail
              refine at_world fun W9 hW => ?_
              replace hw : Below w.heap.size w W9 := by rw [hW]; exact hw
              replace Ba : Box W9 (w.heap.size) [.int .i64 a.x, .int .i64 a.y] 23 := by rw [hW]; exact Ba
              replace Bb : Box W9 (w.heap.size + 1) [.int .i64 b.x, .int .i64 b.y] 23 := by rw [hW]; exact Bb
              replace Bc : Box W9 (w.heap.size + 1 + 1) [.int .i64 c.x, .int .i64 c.y] 23 := by rw [hW]; exact Bc
              replace Bp : Box W9 (w.heap.size + 1 + 1 + 1) [.int .i64 p.x, .int .i64 p.y] 23 := by rw [hW]; exact Bp
              replace Bt : Box W9 (bkt) [.int .i64 M.A.x, .int .i64 M.A.y, .int .i64 M.B.x, .int .i64 M.B.y, .int .i64 M.C.x, .int .i64 M.C.y] 25 := by rw [hW]; exact Bt
              replace Br : Box W9 (W5.heap.size) [.int .i64 rx, .int .i64 ry] 23 := by rw [hW]; exact Br
              replace Bq : Box W9 (W5.heap.size + 1) [.int .i64 qx, .int .i64 qy] 23 := by rw [hW]; exact Bq
              clear hW
              clear xa ya za va xb yb zb vb xc yc zc vc xp yp zp vp xt yt zt vt xr yr zr vr xq yq zq vq
              generalize alg M ⟨qx, qy⟩ ⟨rx, ry⟩ = u at *
              simp only [Bool.true_or] at c1
              have ga := Ba.cells
              have gb := Bb.cells
              have gc := Bc.cells
              have gp := Bp.cells
              have gt := Bt.cells
              have gr := Br.cells
              have gq := Bq.cells
              refine wp_region_tail 18 (by kernel_rfl) (by kernel_rfl) (C := fun w' => ∃ p : Regrown, w' = grow (redrawn W9 p.d) p.os) (fun w' h => regrown_of_below h) ?_
              simp only [List.take_succ_cons, List.take_zero, List.drop_succ_cons, List.drop_zero]
              repeat (first | (refine rWalk_skip (Eq.refl false) ?_; simp only [Act.put, List.setIfInBounds_toArray, List.set_cons_succ, List.set_cons_zero]) | (refine rWalk_step (fun K hK => ?_); go_simp; first | (refine hK _ ?_; clear hK K) | (apply Exists.intro; refine ⟨fun _ => ?_, hK _ ?_⟩; (first | with_reducible exact toExt c1 _ | with_reducible exact toExt c2 _ | with_reducible exact toExt c3 _ | with_reducible exact toExt awake4_any _); clear hK K)))
              refine rWalk_nil ?_
              intro w10 hb
              clear ga gb gc gp gt gr gq
              replace Ba := Ba.ext hb rfl
              replace Bb := Bb.ext hb rfl
              replace Bc := Bc.ext hb rfl
              replace Bp := Bp.ext hb rfl
              replace Bt := Bt.ext hb rfl
              replace Br := Br.ext hb rfl
              replace Bq := Bq.ext hb rfl
              replace hw := hw.trans (hb.mono hw.size)
              go_wp2
              go_ret
              exact ⟨rfl, hw⟩

set_option maxRecDepth 100000 in
set_option maxHeartbeats 4000000 in
theorem rprt_mf (a b c p : Pt) (x y k : Int) (h0 : (!decide (ori a b c = 0)) = true) (h1 : vld p = true) (r0 : decide (x < -20) = false) (r1 : decide (x > 20) = false) (r2 : decide (y < -20) = false) (r3 : decide (y > 20) = false) (r4 : (x == 0) = true) (r5 : (y == 0) = false) (r6 : decide (k < 2) = false) (r7 : decide (k > 20) = false) (w : World) :
    Calls Try.prog 6 #[.agg #[.int .i64 a.x, .int .i64 a.y], .agg #[.int .i64 b.x, .int .i64 b.y], .agg #[.int .i64 c.x, .int .i64 c.y], .agg #[.int .i64 p.x, .int .i64 p.y], .int .i64 x, .int .i64 y, .int .i64 k] w fun e w' => e = .returned (.bool true) ∧ Below w.heap.size w w' := by
  have cm := rmake_any a b c
  rw [h0] at cm
  have cv := rvalid_any p
  rw [h1] at cv
  have hT := (mk_ok (a := a) (b := b) (c := c) (by simpa using h0)).1
  have hp := vld_iff.1 h1
  have b0 : ¬ x < -20 := of_decide_eq_false r0
  have b1 : ¬ x > 20 := of_decide_eq_false r1
  have b2 : ¬ y < -20 := of_decide_eq_false r2
  have b3 : ¬ y > 20 := of_decide_eq_false r3
  have b4 : ¬ k < 2 := of_decide_eq_false r6
  have b5 : ¬ k > 20 := of_decide_eq_false r7
  have hxy : ¬ (x = 0 ∧ y = 0) := by
    intro ⟨u1, u2⟩
    subst u1 u2
    cases r5
  have m1 := mul_20 (k := k) (x := x) (by omega) (by omega) (by omega) (by omega)
  have m2 := mul_20 (k := k) (x := y) (by omega) (by omega) (by omega) (by omega)
  have ha := alg_parts (T := mk a b c) (p := p) (x := x) (y := y) (k := k) hT h1
  obtain ⟨kx, hkx⟩ : ∃ n, k * x = n := ⟨_, rfl⟩
  obtain ⟨ky, hky⟩ : ∃ n, k * y = n := ⟨_, rfl⟩
  rw [hkx, hky] at ha
  rw [hkx] at m1
  rw [hky] at m2
  obtain ⟨qx, hqx⟩ : ∃ n, p.x + x = n := ⟨_, rfl⟩
  obtain ⟨qy, hqy⟩ : ∃ n, p.y + y = n := ⟨_, rfl⟩
  obtain ⟨rx, hrx⟩ : ∃ n, p.x + kx = n := ⟨_, rfl⟩
  obtain ⟨ry, hry⟩ : ∃ n, p.y + ky = n := ⟨_, rfl⟩
  rw [hqx, hqy, hrx, hry] at ha
  replace ha : vld ⟨qx, qy⟩ = true → vld ⟨rx, ry⟩ = true → alg (mk a b c) p ⟨rx, ry⟩ = (alg (mk a b c) p ⟨qx, qy⟩ || alg (mk a b c) ⟨qx, qy⟩ ⟨rx, ry⟩) := fun u v => ha u v (by omega) hxy
  have HA := Lib.hid ha
  obtain ⟨u1, u2⟩ : wrap64 (p.x + x) = qx ∧ IntKind.i64.wrap (p.x + x) = qx := by rw [← hqx]; exact wrap_in (by omega)
  obtain ⟨u3, u4⟩ : wrap64 (p.y + y) = qy ∧ IntKind.i64.wrap (p.y + y) = qy := by rw [← hqy]; exact wrap_in (by omega)
  obtain ⟨u5, u6⟩ : wrap64 (k * x) = kx ∧ IntKind.i64.wrap (k * x) = kx := by rw [hkx]; exact wrap_in (by omega)
  obtain ⟨u7, u8⟩ : wrap64 (k * y) = ky ∧ IntKind.i64.wrap (k * y) = ky := by rw [hky]; exact wrap_in (by omega)
  obtain ⟨u9, u10⟩ : wrap64 (p.x + kx) = rx ∧ IntKind.i64.wrap (p.x + kx) = rx := by rw [← hrx]; exact wrap_in (by omega)
  obtain ⟨u11, u12⟩ : wrap64 (p.y + ky) = ry ∧ IntKind.i64.wrap (p.y + ky) = ry := by rw [← hry]; exact wrap_in (by omega)
  have dq := rvalid_any ⟨qx, qy⟩
  have dr := rvalid_any ⟨rx, ry⟩
  have c1 := alg_any (mk a b c) p ⟨rx, ry⟩
  have c2 := alg_any (mk a b c) p ⟨qx, qy⟩
  have c3 := alg_any (mk a b c) ⟨qx, qy⟩ ⟨rx, ry⟩
  simp only at dq dr c1 c2 c3
  clear ha hT hp b0 b1 b2 b3 b4 b5 hxy m1 m2 h0 h1 hkx hky hqx hqy hrx hry
  generalize mk a b c = M at *
  go_enter Try.func6, Try.ntmps6
  go_wp2_with fail
  refine at_call fun W1 hW => ?_
  have Ba : Box W1 (w.heap.size) [.int .i64 a.x, .int .i64 a.y] 23 := by rw [hW]; exact (((Box.new rfl).old _).old _).old _
  have Bb : Box W1 (w.heap.size + 1) [.int .i64 b.x, .int .i64 b.y] 23 := by rw [hW]; exact ((Box.new (by simp)).old _).old _
  have Bc : Box W1 (w.heap.size + 1 + 1) [.int .i64 c.x, .int .i64 c.y] 23 := by rw [hW]; exact (Box.new (by simp)).old _
  have Bp : Box W1 (w.heap.size + 1 + 1 + 1) [.int .i64 p.x, .int .i64 p.y] 23 := by rw [hW]; exact Box.new (by simp)
  have hw : Below w.heap.size w W1 := by rw [hW]; go_grown
  clear hW
  refine (cm _).mono ?_
  rintro e w2 ⟨rfl, hb⟩
  replace Ba := Ba.ext hb rfl
  replace Bb := Bb.ext hb rfl
  replace Bc := Bc.ext hb rfl
  replace Bp := Bp.ext hb rfl
  replace hw := hw.trans (hb.mono hw.size)
  clear hb
  obtain ⟨xa, ya, za, va⟩ := Ba.facts
  obtain ⟨xb, yb, zb, vb⟩ := Bb.facts
  obtain ⟨xc, yc, zc, vc⟩ := Bc.facts
  obtain ⟨xp, yp, zp, vp⟩ := Bp.facts
  go_wp2_with fail
  refine at_call fun W3 hW => ?_
  obtain ⟨bkt, hbt⟩ : ∃ b, w2.heap.size = b := ⟨_, rfl⟩
  rw [hbt]
  have lat := Ba.lt
  rw [hbt] at lat
  have lbt := Bb.lt
  rw [hbt] at lbt
  have lct := Bc.lt
  rw [hbt] at lct
  have lpt := Bp.lt
  rw [hbt] at lpt
  have ft := hw.size
  rw [hbt] at ft
  have Bt : Box W3 bkt [.int .i64 M.A.x, .int .i64 M.A.y, .int .i64 M.B.x, .int .i64 M.B.y, .int .i64 M.C.x, .int .i64 M.C.y] 25 := by rw [hW]; exact Box.new hbt.symm
  replace Ba : Box W3 (w.heap.size) [.int .i64 a.x, .int .i64 a.y] 23 := by rw [hW]; exact Ba.old _
  replace Bb : Box W3 (w.heap.size + 1) [.int .i64 b.x, .int .i64 b.y] 23 := by rw [hW]; exact Bb.old _
  replace Bc : Box W3 (w.heap.size + 1 + 1) [.int .i64 c.x, .int .i64 c.y] 23 := by rw [hW]; exact Bc.old _
  replace Bp : Box W3 (w.heap.size + 1 + 1 + 1) [.int .i64 p.x, .int .i64 p.y] 23 := by rw [hW]; exact Bp.old _
  replace hw : Below w.heap.size w W3 := by have hl := hw.size; rw [hW]; go_grown
  clear hW hbt
  refine (cv _).mono ?_
  rintro e w4 ⟨rfl, hb⟩
  clear xa ya za va xb yb zb vb xc yc zc vc xp yp zp vp
  replace Ba := Ba.ext hb rfl
  replace Bb := Bb.ext hb rfl
  replace Bc := Bc.ext hb rfl
  replace Bp := Bp.ext hb rfl
  replace Bt := Bt.ext hb rfl
  replace hw := hw.trans (hb.mono hw.size)
  clear hb
  obtain ⟨xa, ya, za, va⟩ := Ba.facts
  obtain ⟨xb, yb, zb, vb⟩ := Bb.facts
  obtain ⟨xc, yc, zc, vc⟩ := Bc.facts
  obtain ⟨xp, yp, zp, vp⟩ := Bp.facts
  obtain ⟨xt, yt, zt, vt⟩ := Bt.facts
  go_wp2_with fail
  refine at_world fun W5 hW => ?_
  replace hw : Below w.heap.size w W5 := by rw [hW]; exact hw
  replace Ba : Box W5 (w.heap.size) [.int .i64 a.x, .int .i64 a.y] 23 := by rw [hW]; exact Ba
  replace Bb : Box W5 (w.heap.size + 1) [.int .i64 b.x, .int .i64 b.y] 23 := by rw [hW]; exact Bb
  replace Bc : Box W5 (w.heap.size + 1 + 1) [.int .i64 c.x, .int .i64 c.y] 23 := by rw [hW]; exact Bc
  replace Bp : Box W5 (w.heap.size + 1 + 1 + 1) [.int .i64 p.x, .int .i64 p.y] 23 := by rw [hW]; exact Bp
  replace Bt : Box W5 (bkt) [.int .i64 M.A.x, .int .i64 M.A.y, .int .i64 M.B.x, .int .i64 M.B.y, .int .i64 M.C.x, .int .i64 M.C.y] 25 := by rw [hW]; exact Bt
  clear hW cm cv r0 r1 r2 r3 r4 r5 r6 r7
  clear xa ya za va xb yb zb vb xc yc zc vc xp yp zp vp xt yt zt vt
  as_aux_lemma =>
    obtain ⟨xa, ya, za, va⟩ := Ba.facts
    obtain ⟨xb, yb, zb, vb⟩ := Bb.facts
    obtain ⟨xc, yc, zc, vc⟩ := Bc.facts
    obtain ⟨xp, yp, zp, vp⟩ := Bp.facts
    obtain ⟨xt, yt, zt, vt⟩ := Bt.facts
    go_region
    all_goals skip
    · go_wp2_with fail
      refine at_call fun W6 hW => ?_
      have hl := hw.size
      have Ca : Box W6 (w.heap.size) [.int .i64 a.x, .int .i64 a.y] 23 := by rw [hW]; exact (Box.drew ((Ba.old _).old _))
      have Cb : Box W6 (w.heap.size + 1) [.int .i64 b.x, .int .i64 b.y] 23 := by rw [hW]; exact (Box.drew ((Bb.old _).old _))
      have Cc : Box W6 (w.heap.size + 1 + 1) [.int .i64 c.x, .int .i64 c.y] 23 := by rw [hW]; exact (Box.drew ((Bc.old _).old _))
      have Cp : Box W6 (w.heap.size + 1 + 1 + 1) [.int .i64 p.x, .int .i64 p.y] 23 := by rw [hW]; exact (Box.drew ((Bp.old _).old _))
      have Ct : Box W6 (bkt) [.int .i64 M.A.x, .int .i64 M.A.y, .int .i64 M.B.x, .int .i64 M.B.y, .int .i64 M.C.x, .int .i64 M.C.y] 25 := by rw [hW]; exact (Box.drew ((Bt.old _).old _))
      have Bq : Box W6 (W5.heap.size) [.int .i64 qx, .int .i64 qy] 23 := by rw [hW]; exact (Box.drew ((Box.new rfl).old _))
      have Br : Box W6 (W5.heap.size + 1) [.int .i64 rx, .int .i64 ry] 23 := by rw [hW]; exact (Box.drew (Box.new (by simp)))
      replace hw : Below w.heap.size w W6 := by rw [hW]; go_grown
      clear xa ya za va xb yb zb vb xc yc zc vc xp yp zp vp xt yt zt vt
      clear hW hl Ba Bb Bc Bp Bt
      have Ba := Ca
      clear Ca
      have Bb := Cb
      clear Cb
      have Bc := Cc
      clear Cc
      have Bp := Cp
      clear Cp
      have Bt := Ct
      clear Ct
      cases hq : vld ⟨qx, qy⟩
      · rw [hq] at dq
        as_aux_lemma =>
          refine (dq _).mono ?_
          rintro e w7 ⟨rfl, hb⟩
          replace Ba := Ba.ext hb rfl
          replace Bb := Bb.ext hb rfl
          replace Bc := Bc.ext hb rfl
          replace Bp := Bp.ext hb rfl
          replace Bt := Bt.ext hb rfl
          replace Bq := Bq.ext hb rfl
          replace Br := Br.ext hb rfl
          replace hw := hw.trans (hb.mono hw.size)
          clear hb
          obtain ⟨xa, ya, za, va⟩ := Ba.facts
          obtain ⟨xb, yb, zb, vb⟩ := Bb.facts
          obtain ⟨xc, yc, zc, vc⟩ := Bc.facts
          obtain ⟨xp, yp, zp, vp⟩ := Bp.facts
          obtain ⟨xt, yt, zt, vt⟩ := Bt.facts
          obtain ⟨xq, yq, zq, vq⟩ := Bq.facts
          obtain ⟨xr, yr, zr, vr⟩ := Br.facts
          go_wp2_with fail
          refine (awake4_any _).mono ?_
          rintro e w8 ⟨rfl, hb⟩
          clear xa ya za va xb yb zb vb xc yc zc vc xp yp zp vp xt yt zt vt xq yq zq vq xr yr zr vr
          replace Ba := Ba.ext hb rfl
          replace Bb := Bb.ext hb rfl
          replace Bc := Bc.ext hb rfl
          replace Bp := Bp.ext hb rfl
          replace Bt := Bt.ext hb rfl
          replace Bq := Bq.ext hb rfl
          replace Br := Br.ext hb rfl
          replace hw := hw.trans (hb.mono hw.size)
          clear hb
          go_wp2
          go_ret
          exact ⟨rfl, hw⟩
      · cases hr : vld ⟨rx, ry⟩
        · rw [hq] at dq
          rw [hr] at dr
          as_aux_lemma =>
            refine (dq _).mono ?_
            rintro e w7 ⟨rfl, hb⟩
            replace Ba := Ba.ext hb rfl
            replace Bb := Bb.ext hb rfl
            replace Bc := Bc.ext hb rfl
            replace Bp := Bp.ext hb rfl
            replace Bt := Bt.ext hb rfl
            replace Bq := Bq.ext hb rfl
            replace Br := Br.ext hb rfl
            replace hw := hw.trans (hb.mono hw.size)
            clear hb
            obtain ⟨xa, ya, za, va⟩ := Ba.facts
            obtain ⟨xb, yb, zb, vb⟩ := Bb.facts
            obtain ⟨xc, yc, zc, vc⟩ := Bc.facts
            obtain ⟨xp, yp, zp, vp⟩ := Bp.facts
            obtain ⟨xt, yt, zt, vt⟩ := Bt.facts
            obtain ⟨xq, yq, zq, vq⟩ := Bq.facts
            obtain ⟨xr, yr, zr, vr⟩ := Br.facts
            go_wp2_with fail
            refine (dr _).mono ?_
            rintro e w8 ⟨rfl, hb⟩
            clear xa ya za va xb yb zb vb xc yc zc vc xp yp zp vp xt yt zt vt xq yq zq vq xr yr zr vr
            replace Ba := Ba.ext hb rfl
            replace Bb := Bb.ext hb rfl
            replace Bc := Bc.ext hb rfl
            replace Bp := Bp.ext hb rfl
            replace Bt := Bt.ext hb rfl
            replace Bq := Bq.ext hb rfl
            replace Br := Br.ext hb rfl
            replace hw := hw.trans (hb.mono hw.size)
            clear hb
            obtain ⟨xa, ya, za, va⟩ := Ba.facts
            obtain ⟨xb, yb, zb, vb⟩ := Bb.facts
            obtain ⟨xc, yc, zc, vc⟩ := Bc.facts
            obtain ⟨xp, yp, zp, vp⟩ := Bp.facts
            obtain ⟨xt, yt, zt, vt⟩ := Bt.facts
            obtain ⟨xq, yq, zq, vq⟩ := Bq.facts
            obtain ⟨xr, yr, zr, vr⟩ := Br.facts
            go_wp2_with fail
            refine (awake4_any _).mono ?_
            rintro e w9 ⟨rfl, hb⟩
            clear xa ya za va xb yb zb vb xc yc zc vc xp yp zp vp xt yt zt vt xq yq zq vq xr yr zr vr
            replace Ba := Ba.ext hb rfl
            replace Bb := Bb.ext hb rfl
            replace Bc := Bc.ext hb rfl
            replace Bp := Bp.ext hb rfl
            replace Bt := Bt.ext hb rfl
            replace Bq := Bq.ext hb rfl
            replace Br := Br.ext hb rfl
            replace hw := hw.trans (hb.mono hw.size)
            clear hb
            go_wp2
            go_ret
            exact ⟨rfl, hw⟩
        · cases hm : alg M p ⟨qx, qy⟩
          · rw [hq] at dq
            rw [hr] at dr
            have ha := HA.out hq hr
            rw [hm] at ha c2
            rw [ha] at c1
            clear ha
            as_aux_lemma =>
              refine (dq _).mono ?_
              rintro e w7 ⟨rfl, hb⟩
              replace Ba := Ba.ext hb rfl
              replace Bb := Bb.ext hb rfl
              replace Bc := Bc.ext hb rfl
              replace Bp := Bp.ext hb rfl
              replace Bt := Bt.ext hb rfl
              replace Bq := Bq.ext hb rfl
              replace Br := Br.ext hb rfl
              replace hw := hw.trans (hb.mono hw.size)
              clear hb
              obtain ⟨xa, ya, za, va⟩ := Ba.facts
              obtain ⟨xb, yb, zb, vb⟩ := Bb.facts
              obtain ⟨xc, yc, zc, vc⟩ := Bc.facts
              obtain ⟨xp, yp, zp, vp⟩ := Bp.facts
              obtain ⟨xt, yt, zt, vt⟩ := Bt.facts
              obtain ⟨xq, yq, zq, vq⟩ := Bq.facts
              obtain ⟨xr, yr, zr, vr⟩ := Br.facts
              go_wp2_with fail
              refine (dr _).mono ?_
              rintro e w8 ⟨rfl, hb⟩
              clear xa ya za va xb yb zb vb xc yc zc vc xp yp zp vp xt yt zt vt xq yq zq vq xr yr zr vr
              replace Ba := Ba.ext hb rfl
              replace Bb := Bb.ext hb rfl
              replace Bc := Bc.ext hb rfl
              replace Bp := Bp.ext hb rfl
              replace Bt := Bt.ext hb rfl
              replace Bq := Bq.ext hb rfl
              replace Br := Br.ext hb rfl
              replace hw := hw.trans (hb.mono hw.size)
              clear hb
              obtain ⟨xa, ya, za, va⟩ := Ba.facts
              obtain ⟨xb, yb, zb, vb⟩ := Bb.facts
              obtain ⟨xc, yc, zc, vc⟩ := Bc.facts
              obtain ⟨xp, yp, zp, vp⟩ := Bp.facts
              obtain ⟨xt, yt, zt, vt⟩ := Bt.facts
              obtain ⟨xq, yq, zq, vq⟩ := Bq.facts
              obtain ⟨xr, yr, zr, vr⟩ := Br.facts
              go_wp2_with fail
              refine at_world fun W9 hW => ?_
              replace hw : Below w.heap.size w W9 := by rw [hW]; exact hw
              replace Ba : Box W9 (w.heap.size) [.int .i64 a.x, .int .i64 a.y] 23 := by rw [hW]; exact Ba
              replace Bb : Box W9 (w.heap.size + 1) [.int .i64 b.x, .int .i64 b.y] 23 := by rw [hW]; exact Bb
              replace Bc : Box W9 (w.heap.size + 1 + 1) [.int .i64 c.x, .int .i64 c.y] 23 := by rw [hW]; exact Bc
              replace Bp : Box W9 (w.heap.size + 1 + 1 + 1) [.int .i64 p.x, .int .i64 p.y] 23 := by rw [hW]; exact Bp
              replace Bt : Box W9 (bkt) [.int .i64 M.A.x, .int .i64 M.A.y, .int .i64 M.B.x, .int .i64 M.B.y, .int .i64 M.C.x, .int .i64 M.C.y] 25 := by rw [hW]; exact Bt
              replace Bq : Box W9 (W5.heap.size) [.int .i64 qx, .int .i64 qy] 23 := by rw [hW]; exact Bq
              replace Br : Box W9 (W5.heap.size + 1) [.int .i64 rx, .int .i64 ry] 23 := by rw [hW]; exact Br
              clear hW
              clear xa ya za va xb yb zb vb xc yc zc vc xp yp zp vp xt yt zt vt xq yq zq vq xr yr zr vr
              generalize alg M ⟨qx, qy⟩ ⟨rx, ry⟩ = u at *
              simp only [Bool.false_or] at c1
              have ga := Ba.cells
              have gb := Bb.cells
              have gc := Bc.cells
              have gp := Bp.cells
              have gt := Bt.cells
              have gq := Bq.cells
              have gr := Br.cells
              refine wp_region_tail 18 (by kernel_rfl) (by kernel_rfl) (C := fun w' => ∃ p : Regrown, w' = grow (redrawn W9 p.d) p.os) (fun w' h => regrown_of_below h) ?_
              simp only [List.take_succ_cons, List.take_zero, List.drop_succ_cons, List.drop_zero]
              repeat (first | (refine rWalk_skip (Eq.refl false) ?_; simp only [Act.put, List.setIfInBounds_toArray, List.set_cons_succ, List.set_cons_zero]) | (refine rWalk_step (fun K hK => ?_); go_simp; first | (refine hK _ ?_; clear hK K) | (apply Exists.intro; refine ⟨fun _ => ?_, hK _ ?_⟩; (first | with_reducible exact toExt c1 _ | with_reducible exact toExt c2 _ | with_reducible exact toExt c3 _ | with_reducible exact toExt awake4_any _); clear hK K)))
              refine rWalk_nil ?_
              intro w10 hb
              clear ga gb gc gp gt gq gr
              replace Ba := Ba.ext hb rfl
              replace Bb := Bb.ext hb rfl
              replace Bc := Bc.ext hb rfl
              replace Bp := Bp.ext hb rfl
              replace Bt := Bt.ext hb rfl
              replace Bq := Bq.ext hb rfl
              replace Br := Br.ext hb rfl
              replace hw := hw.trans (hb.mono hw.size)
              go_wp2
              go_ret
              exact ⟨rfl, hw⟩
          · rw [hq] at dq
            rw [hr] at dr
            have ha := HA.out hq hr
            rw [hm] at ha c2
            rw [ha] at c1
            clear ha
            as_aux_lemma =>
              refine (dq _).mono ?_
              rintro e w7 ⟨rfl, hb⟩
              replace Ba := Ba.ext hb rfl
              replace Bb := Bb.ext hb rfl
              replace Bc := Bc.ext hb rfl
              replace Bp := Bp.ext hb rfl
              replace Bt := Bt.ext hb rfl
              replace Bq := Bq.ext hb rfl
              replace Br := Br.ext hb rfl
              replace hw := hw.trans (hb.mono hw.size)
              clear hb
              obtain ⟨xa, ya, za, va⟩ := Ba.facts
              obtain ⟨xb, yb, zb, vb⟩ := Bb.facts
              obtain ⟨xc, yc, zc, vc⟩ := Bc.facts
              obtain ⟨xp, yp, zp, vp⟩ := Bp.facts
              obtain ⟨xt, yt, zt, vt⟩ := Bt.facts
              obtain ⟨xq, yq, zq, vq⟩ := Bq.facts
              obtain ⟨xr, yr, zr, vr⟩ := Br.facts
              go_wp2_with fail
              refine (dr _).mono ?_
              rintro e w8 ⟨rfl, hb⟩
              clear xa ya za va xb yb zb vb xc yc zc vc xp yp zp vp xt yt zt vt xq yq zq vq xr yr zr vr
              replace Ba := Ba.ext hb rfl
              replace Bb := Bb.ext hb rfl
              replace Bc := Bc.ext hb rfl
              replace Bp := Bp.ext hb rfl
              replace Bt := Bt.ext hb rfl
              replace Bq := Bq.ext hb rfl
              replace Br := Br.ext hb rfl
              replace hw := hw.trans (hb.mono hw.size)
              clear hb
              obtain ⟨xa, ya, za, va⟩ := Ba.facts
              obtain ⟨xb, yb, zb, vb⟩ := Bb.facts
              obtain ⟨xc, yc, zc, vc⟩ := Bc.facts
              obtain ⟨xp, yp, zp, vp⟩ := Bp.facts
              obtain ⟨xt, yt, zt, vt⟩ := Bt.facts
              obtain ⟨xq, yq, zq, vq⟩ := Bq.facts
              obtain ⟨xr, yr, zr, vr⟩ := Br.facts
              go_wp2_with fail
              refine at_world fun W9 hW => ?_
              replace hw : Below w.heap.size w W9 := by rw [hW]; exact hw
              replace Ba : Box W9 (w.heap.size) [.int .i64 a.x, .int .i64 a.y] 23 := by rw [hW]; exact Ba
              replace Bb : Box W9 (w.heap.size + 1) [.int .i64 b.x, .int .i64 b.y] 23 := by rw [hW]; exact Bb
              replace Bc : Box W9 (w.heap.size + 1 + 1) [.int .i64 c.x, .int .i64 c.y] 23 := by rw [hW]; exact Bc
              replace Bp : Box W9 (w.heap.size + 1 + 1 + 1) [.int .i64 p.x, .int .i64 p.y] 23 := by rw [hW]; exact Bp
              replace Bt : Box W9 (bkt) [.int .i64 M.A.x, .int .i64 M.A.y, .int .i64 M.B.x, .int .i64 M.B.y, .int .i64 M.C.x, .int .i64 M.C.y] 25 := by rw [hW]; exact Bt
              replace Bq : Box W9 (W5.heap.size) [.int .i64 qx, .int .i64 qy] 23 := by rw [hW]; exact Bq
              replace Br : Box W9 (W5.heap.size + 1) [.int .i64 rx, .int .i64 ry] 23 := by rw [hW]; exact Br
              clear hW
              clear xa ya za va xb yb zb vb xc yc zc vc xp yp zp vp xt yt zt vt xq yq zq vq xr yr zr vr
              generalize alg M ⟨qx, qy⟩ ⟨rx, ry⟩ = u at *
              simp only [Bool.true_or] at c1
              have ga := Ba.cells
              have gb := Bb.cells
              have gc := Bc.cells
              have gp := Bp.cells
              have gt := Bt.cells
              have gq := Bq.cells
              have gr := Br.cells
              refine wp_region_tail 18 (by kernel_rfl) (by kernel_rfl) (C := fun w' => ∃ p : Regrown, w' = grow (redrawn W9 p.d) p.os) (fun w' h => regrown_of_below h) ?_
              simp only [List.take_succ_cons, List.take_zero, List.drop_succ_cons, List.drop_zero]
              repeat (first | (refine rWalk_skip (Eq.refl false) ?_; simp only [Act.put, List.setIfInBounds_toArray, List.set_cons_succ, List.set_cons_zero]) | (refine rWalk_step (fun K hK => ?_); go_simp; first | (refine hK _ ?_; clear hK K) | (apply Exists.intro; refine ⟨fun _ => ?_, hK _ ?_⟩; (first | with_reducible exact toExt c1 _ | with_reducible exact toExt c2 _ | with_reducible exact toExt c3 _ | with_reducible exact toExt awake4_any _); clear hK K)))
              refine rWalk_nil ?_
              intro w10 hb
              clear ga gb gc gp gt gq gr
              replace Ba := Ba.ext hb rfl
              replace Bb := Bb.ext hb rfl
              replace Bc := Bc.ext hb rfl
              replace Bp := Bp.ext hb rfl
              replace Bt := Bt.ext hb rfl
              replace Bq := Bq.ext hb rfl
              replace Br := Br.ext hb rfl
              replace hw := hw.trans (hb.mono hw.size)
              go_wp2
              go_ret
              exact ⟨rfl, hw⟩
    · go_wp2_with fail
      refine at_call fun W6 hW => ?_
      have hl := hw.size
      have Ca : Box W6 (w.heap.size) [.int .i64 a.x, .int .i64 a.y] 23 := by rw [hW]; exact (Box.drew ((Ba.old _).old _))
      have Cb : Box W6 (w.heap.size + 1) [.int .i64 b.x, .int .i64 b.y] 23 := by rw [hW]; exact (Box.drew ((Bb.old _).old _))
      have Cc : Box W6 (w.heap.size + 1 + 1) [.int .i64 c.x, .int .i64 c.y] 23 := by rw [hW]; exact (Box.drew ((Bc.old _).old _))
      have Cp : Box W6 (w.heap.size + 1 + 1 + 1) [.int .i64 p.x, .int .i64 p.y] 23 := by rw [hW]; exact (Box.drew ((Bp.old _).old _))
      have Ct : Box W6 (bkt) [.int .i64 M.A.x, .int .i64 M.A.y, .int .i64 M.B.x, .int .i64 M.B.y, .int .i64 M.C.x, .int .i64 M.C.y] 25 := by rw [hW]; exact (Box.drew ((Bt.old _).old _))
      have Br : Box W6 (W5.heap.size) [.int .i64 rx, .int .i64 ry] 23 := by rw [hW]; exact (Box.drew ((Box.new rfl).old _))
      have Bq : Box W6 (W5.heap.size + 1) [.int .i64 qx, .int .i64 qy] 23 := by rw [hW]; exact (Box.drew (Box.new (by simp)))
      replace hw : Below w.heap.size w W6 := by rw [hW]; go_grown
      clear xa ya za va xb yb zb vb xc yc zc vc xp yp zp vp xt yt zt vt
      clear hW hl Ba Bb Bc Bp Bt
      have Ba := Ca
      clear Ca
      have Bb := Cb
      clear Cb
      have Bc := Cc
      clear Cc
      have Bp := Cp
      clear Cp
      have Bt := Ct
      clear Ct
      cases hq : vld ⟨qx, qy⟩
      · rw [hq] at dq
        as_aux_lemma =>
          refine (dq _).mono ?_
          rintro e w7 ⟨rfl, hb⟩
          replace Ba := Ba.ext hb rfl
          replace Bb := Bb.ext hb rfl
          replace Bc := Bc.ext hb rfl
          replace Bp := Bp.ext hb rfl
          replace Bt := Bt.ext hb rfl
          replace Br := Br.ext hb rfl
          replace Bq := Bq.ext hb rfl
          replace hw := hw.trans (hb.mono hw.size)
          clear hb
          obtain ⟨xa, ya, za, va⟩ := Ba.facts
          obtain ⟨xb, yb, zb, vb⟩ := Bb.facts
          obtain ⟨xc, yc, zc, vc⟩ := Bc.facts
          obtain ⟨xp, yp, zp, vp⟩ := Bp.facts
          obtain ⟨xt, yt, zt, vt⟩ := Bt.facts
          obtain ⟨xr, yr, zr, vr⟩ := Br.facts
          obtain ⟨xq, yq, zq, vq⟩ := Bq.facts
          go_wp2_with fail
          refine (awake4_any _).mono ?_
          rintro e w8 ⟨rfl, hb⟩
          clear xa ya za va xb yb zb vb xc yc zc vc xp yp zp vp xt yt zt vt xr yr zr vr xq yq zq vq
          replace Ba := Ba.ext hb rfl
          replace Bb := Bb.ext hb rfl
          replace Bc := Bc.ext hb rfl
          replace Bp := Bp.ext hb rfl
          replace Bt := Bt.ext hb rfl
          replace Br := Br.ext hb rfl
          replace Bq := Bq.ext hb rfl
          replace hw := hw.trans (hb.mono hw.size)
          clear hb
          go_wp2
          go_ret
          exact ⟨rfl, hw⟩
      · cases hr : vld ⟨rx, ry⟩
        · rw [hq] at dq
          rw [hr] at dr
          as_aux_lemma =>
            refine (dq _).mono ?_
            rintro e w7 ⟨rfl, hb⟩
            replace Ba := Ba.ext hb rfl
            replace Bb := Bb.ext hb rfl
            replace Bc := Bc.ext hb rfl
            replace Bp := Bp.ext hb rfl
            replace Bt := Bt.ext hb rfl
            replace Br := Br.ext hb rfl
            replace Bq := Bq.ext hb rfl
            replace hw := hw.trans (hb.mono hw.size)
            clear hb
            obtain ⟨xa, ya, za, va⟩ := Ba.facts
            obtain ⟨xb, yb, zb, vb⟩ := Bb.facts
            obtain ⟨xc, yc, zc, vc⟩ := Bc.facts
            obtain ⟨xp, yp, zp, vp⟩ := Bp.facts
            obtain ⟨xt, yt, zt, vt⟩ := Bt.facts
            obtain ⟨xr, yr, zr, vr⟩ := Br.facts
            obtain ⟨xq, yq, zq, vq⟩ := Bq.facts
            go_wp2_with fail
            refine (dr _).mono ?_
            rintro e w8 ⟨rfl, hb⟩
            clear xa ya za va xb yb zb vb xc yc zc vc xp yp zp vp xt yt zt vt xr yr zr vr xq yq zq vq
            replace Ba := Ba.ext hb rfl
            replace Bb := Bb.ext hb rfl
            replace Bc := Bc.ext hb rfl
            replace Bp := Bp.ext hb rfl
            replace Bt := Bt.ext hb rfl
            replace Br := Br.ext hb rfl
            replace Bq := Bq.ext hb rfl
            replace hw := hw.trans (hb.mono hw.size)
            clear hb
            obtain ⟨xa, ya, za, va⟩ := Ba.facts
            obtain ⟨xb, yb, zb, vb⟩ := Bb.facts
            obtain ⟨xc, yc, zc, vc⟩ := Bc.facts
            obtain ⟨xp, yp, zp, vp⟩ := Bp.facts
            obtain ⟨xt, yt, zt, vt⟩ := Bt.facts
            obtain ⟨xr, yr, zr, vr⟩ := Br.facts
            obtain ⟨xq, yq, zq, vq⟩ := Bq.facts
            go_wp2_with fail
            refine (awake4_any _).mono ?_
            rintro e w9 ⟨rfl, hb⟩
            clear xa ya za va xb yb zb vb xc yc zc vc xp yp zp vp xt yt zt vt xr yr zr vr xq yq zq vq
            replace Ba := Ba.ext hb rfl
            replace Bb := Bb.ext hb rfl
            replace Bc := Bc.ext hb rfl
            replace Bp := Bp.ext hb rfl
            replace Bt := Bt.ext hb rfl
            replace Br := Br.ext hb rfl
            replace Bq := Bq.ext hb rfl
            replace hw := hw.trans (hb.mono hw.size)
            clear hb
            go_wp2
            go_ret
            exact ⟨rfl, hw⟩
        · cases hm : alg M p ⟨qx, qy⟩
          · rw [hq] at dq
            rw [hr] at dr
            have ha := HA.out hq hr
            rw [hm] at ha c2
            rw [ha] at c1
            clear ha
            as_aux_lemma =>
              refine (dq _).mono ?_
              rintro e w7 ⟨rfl, hb⟩
              replace Ba := Ba.ext hb rfl
              replace Bb := Bb.ext hb rfl
              replace Bc := Bc.ext hb rfl
              replace Bp := Bp.ext hb rfl
              replace Bt := Bt.ext hb rfl
              replace Br := Br.ext hb rfl
              replace Bq := Bq.ext hb rfl
              replace hw := hw.trans (hb.mono hw.size)
              clear hb
              obtain ⟨xa, ya, za, va⟩ := Ba.facts
              obtain ⟨xb, yb, zb, vb⟩ := Bb.facts
              obtain ⟨xc, yc, zc, vc⟩ := Bc.facts
              obtain ⟨xp, yp, zp, vp⟩ := Bp.facts
              obtain ⟨xt, yt, zt, vt⟩ := Bt.facts
              obtain ⟨xr, yr, zr, vr⟩ := Br.facts
              obtain ⟨xq, yq, zq, vq⟩ := Bq.facts
              go_wp2_with fail
              refine (dr _).mono ?_
              rintro e w8 ⟨rfl, hb⟩
              clear xa ya za va xb yb zb vb xc yc zc vc xp yp zp vp xt yt zt vt xr yr zr vr xq yq zq vq
              replace Ba := Ba.ext hb rfl
              replace Bb := Bb.ext hb rfl
              replace Bc := Bc.ext hb rfl
              replace Bp := Bp.ext hb rfl
              replace Bt := Bt.ext hb rfl
              replace Br := Br.ext hb rfl
              replace Bq := Bq.ext hb rfl
              replace hw := hw.trans (hb.mono hw.size)
              clear hb
              obtain ⟨xa, ya, za, va⟩ := Ba.facts
              obtain ⟨xb, yb, zb, vb⟩ := Bb.facts
              obtain ⟨xc, yc, zc, vc⟩ := Bc.facts
              obtain ⟨xp, yp, zp, vp⟩ := Bp.facts
              obtain ⟨xt, yt, zt, vt⟩ := Bt.facts
              obtain ⟨xr, yr, zr, vr⟩ := Br.facts
              obtain ⟨xq, yq, zq, vq⟩ := Bq.facts
              go_wp2_with fail
              refine at_world fun W9 hW => ?_
              replace hw : Below w.heap.size w W9 := by rw [hW]; exact hw
              replace Ba : Box W9 (w.heap.size) [.int .i64 a.x, .int .i64 a.y] 23 := by rw [hW]; exact Ba
              replace Bb : Box W9 (w.heap.size + 1) [.int .i64 b.x, .int .i64 b.y] 23 := by rw [hW]; exact Bb
              replace Bc : Box W9 (w.heap.size + 1 + 1) [.int .i64 c.x, .int .i64 c.y] 23 := by rw [hW]; exact Bc
              replace Bp : Box W9 (w.heap.size + 1 + 1 + 1) [.int .i64 p.x, .int .i64 p.y] 23 := by rw [hW]; exact Bp
              replace Bt : Box W9 (bkt) [.int .i64 M.A.x, .int .i64 M.A.y, .int .i64 M.B.x, .int .i64 M.B.y, .int .i64 M.C.x, .int .i64 M.C.y] 25 := by rw [hW]; exact Bt
              replace Br : Box W9 (W5.heap.size) [.int .i64 rx, .int .i64 ry] 23 := by rw [hW]; exact Br
              replace Bq : Box W9 (W5.heap.size + 1) [.int .i64 qx, .int .i64 qy] 23 := by rw [hW]; exact Bq
              clear hW
              clear xa ya za va xb yb zb vb xc yc zc vc xp yp zp vp xt yt zt vt xr yr zr vr xq yq zq vq
              generalize alg M ⟨qx, qy⟩ ⟨rx, ry⟩ = u at *
              simp only [Bool.false_or] at c1
              have ga := Ba.cells
              have gb := Bb.cells
              have gc := Bc.cells
              have gp := Bp.cells
              have gt := Bt.cells
              have gr := Br.cells
              have gq := Bq.cells
              refine wp_region_tail 18 (by kernel_rfl) (by kernel_rfl) (C := fun w' => ∃ p : Regrown, w' = grow (redrawn W9 p.d) p.os) (fun w' h => regrown_of_below h) ?_
              simp only [List.take_succ_cons, List.take_zero, List.drop_succ_cons, List.drop_zero]
              repeat (first | (refine rWalk_skip (Eq.refl false) ?_; simp only [Act.put, List.setIfInBounds_toArray, List.set_cons_succ, List.set_cons_zero]) | (refine rWalk_step (fun K hK => ?_); go_simp; first | (refine hK _ ?_; clear hK K) | (apply Exists.intro; refine ⟨fun _ => ?_, hK _ ?_⟩; (first | with_reducible exact toExt c1 _ | with_reducible exact toExt c2 _ | with_reducible exact toExt c3 _ | with_reducible exact toExt awake4_any _); clear hK K)))
              refine rWalk_nil ?_
              intro w10 hb
              clear ga gb gc gp gt gr gq
              replace Ba := Ba.ext hb rfl
              replace Bb := Bb.ext hb rfl
              replace Bc := Bc.ext hb rfl
              replace Bp := Bp.ext hb rfl
              replace Bt := Bt.ext hb rfl
              replace Br := Br.ext hb rfl
              replace Bq := Bq.ext hb rfl
              replace hw := hw.trans (hb.mono hw.size)
              go_wp2
              go_ret
              exact ⟨rfl, hw⟩
          · rw [hq] at dq
            rw [hr] at dr
            have ha := HA.out hq hr
            rw [hm] at ha c2
            rw [ha] at c1
            clear ha
            as_aux_lemma =>
              refine (dq _).mono ?_
              rintro e w7 ⟨rfl, hb⟩
              replace Ba := Ba.ext hb rfl
              replace Bb := Bb.ext hb rfl
              replace Bc := Bc.ext hb rfl
              replace Bp := Bp.ext hb rfl
              replace Bt := Bt.ext hb rfl
              replace Br := Br.ext hb rfl
              replace Bq := Bq.ext hb rfl
              replace hw := hw.trans (hb.mono hw.size)
              clear hb
              obtain ⟨xa, ya, za, va⟩ := Ba.facts
              obtain ⟨xb, yb, zb, vb⟩ := Bb.facts
              obtain ⟨xc, yc, zc, vc⟩ := Bc.facts
              obtain ⟨xp, yp, zp, vp⟩ := Bp.facts
              obtain ⟨xt, yt, zt, vt⟩ := Bt.facts
              obtain ⟨xr, yr, zr, vr⟩ := Br.facts
              obtain ⟨xq, yq, zq, vq⟩ := Bq.facts
              go_wp2_with fail
              refine (dr _).mono ?_
              rintro e w8 ⟨rfl, hb⟩
              clear xa ya za va xb yb zb vb xc yc zc vc xp yp zp vp xt yt zt vt xr yr zr vr xq yq zq vq
              replace Ba := Ba.ext hb rfl
              replace Bb := Bb.ext hb rfl
              replace Bc := Bc.ext hb rfl
              replace Bp := Bp.ext hb rfl
              replace Bt := Bt.ext hb rfl
              replace Br := Br.ext hb rfl
              replace Bq := Bq.ext hb rfl
              replace hw := hw.trans (hb.mono hw.size)
              clear hb
              obtain ⟨xa, ya, za, va⟩ := Ba.facts
              obtain ⟨xb, yb, zb, vb⟩ := Bb.facts
              obtain ⟨xc, yc, zc, vc⟩ := Bc.facts
              obtain ⟨xp, yp, zp, vp⟩ := Bp.facts
              obtain ⟨xt, yt, zt, vt⟩ := Bt.facts
              obtain ⟨xr, yr, zr, vr⟩ := Br.facts
              obtain ⟨xq, yq, zq, vq⟩ := Bq.facts
              go_wp2_with fail
              refine at_world fun W9 hW => ?_
              replace hw : Below w.heap.size w W9 := by rw [hW]; exact hw
              replace Ba : Box W9 (w.heap.size) [.int .i64 a.x, .int .i64 a.y] 23 := by rw [hW]; exact Ba
              replace Bb : Box W9 (w.heap.size + 1) [.int .i64 b.x, .int .i64 b.y] 23 := by rw [hW]; exact Bb
              replace Bc : Box W9 (w.heap.size + 1 + 1) [.int .i64 c.x, .int .i64 c.y] 23 := by rw [hW]; exact Bc
              replace Bp : Box W9 (w.heap.size + 1 + 1 + 1) [.int .i64 p.x, .int .i64 p.y] 23 := by rw [hW]; exact Bp
              replace Bt : Box W9 (bkt) [.int .i64 M.A.x, .int .i64 M.A.y, .int .i64 M.B.x, .int .i64 M.B.y, .int .i64 M.C.x, .int .i64 M.C.y] 25 := by rw [hW]; exact Bt
              replace Br : Box W9 (W5.heap.size) [.int .i64 rx, .int .i64 ry] 23 := by rw [hW]; exact Br
              replace Bq : Box W9 (W5.heap.size + 1) [.int .i64 qx, .int .i64 qy] 23 := by rw [hW]; exact Bq
              clear hW
              clear xa ya za va xb yb zb vb xc yc zc vc xp yp zp vp xt yt zt vt xr yr zr vr xq yq zq vq
              generalize alg M ⟨qx, qy⟩ ⟨rx, ry⟩ = u at *
              simp only [Bool.true_or] at c1
              have ga := Ba.cells
              have gb := Bb.cells
              have gc := Bc.cells
              have gp := Bp.cells
              have gt := Bt.cells
              have gr := Br.cells
              have gq := Bq.cells
              refine wp_region_tail 18 (by kernel_rfl) (by kernel_rfl) (C := fun w' => ∃ p : Regrown, w' = grow (redrawn W9 p.d) p.os) (fun w' h => regrown_of_below h) ?_
              simp only [List.take_succ_cons, List.take_zero, List.drop_succ_cons, List.drop_zero]
              repeat (first | (refine rWalk_skip (Eq.refl false) ?_; simp only [Act.put, List.setIfInBounds_toArray, List.set_cons_succ, List.set_cons_zero]) | (refine rWalk_step (fun K hK => ?_); go_simp; first | (refine hK _ ?_; clear hK K) | (apply Exists.intro; refine ⟨fun _ => ?_, hK _ ?_⟩; (first | with_reducible exact toExt c1 _ | with_reducible exact toExt c2 _ | with_reducible exact toExt c3 _ | with_reducible exact toExt awake4_any _); clear hK K)))
              refine rWalk_nil ?_
              intro w10 hb
              clear ga gb gc gp gt gr gq
              replace Ba := Ba.ext hb rfl
              replace Bb := Bb.ext hb rfl
              replace Bc := Bc.ext hb rfl
              replace Bp := Bp.ext hb rfl
              replace Bt := Bt.ext hb rfl
              replace Br := Br.ext hb rfl
              replace Bq := Bq.ext hb rfl
              replace hw := hw.trans (hb.mono hw.size)
              go_wp2
              go_ret
              exact ⟨rfl, hw⟩

theorem rprt_law (a b c p : Pt) (x y k : Int) (w : World) :
    Calls Try.prog 6 #[.agg #[.int .i64 a.x, .int .i64 a.y], .agg #[.int .i64 b.x, .int .i64 b.y], .agg #[.int .i64 c.x, .int .i64 c.y], .agg #[.int .i64 p.x, .int .i64 p.y], .int .i64 x, .int .i64 y, .int .i64 k] w fun e w' => e = .returned (.bool true) ∧ Below w.heap.size w w' := by
  cases h0 : (!decide (ori a b c = 0)) with
  | false => exact rprt_0 a b c p x y k h0 w
  | true =>
  cases h1 : vld p with
  | false => exact rprt_1 a b c p x y k h0 h1 w
  | true =>
  cases r0 : decide (x < -20) with
  | true => exact rprt_b0 a b c p x y k h0 h1 r0 w
  | false =>
  cases r1 : decide (x > 20) with
  | true => exact rprt_b1 a b c p x y k h0 h1 r0 r1 w
  | false =>
  cases r2 : decide (y < -20) with
  | true => exact rprt_b2 a b c p x y k h0 h1 r0 r1 r2 w
  | false =>
  cases r3 : decide (y > 20) with
  | true => exact rprt_b3 a b c p x y k h0 h1 r0 r1 r2 r3 w
  | false =>
  cases r4 : (x == 0) with
  | true =>
    cases r5 : (y == 0) with
    | true => exact rprt_z a b c p x y k h0 h1 r0 r1 r2 r3 r4 r5 w
    | false =>
      cases r6 : decide (k < 2) with
      | true => exact rprt_kf a b c p x y k h0 h1 r0 r1 r2 r3 r4 r5 r6 w
      | false =>
        cases r7 : decide (k > 20) with
        | true => exact rprt_lf a b c p x y k h0 h1 r0 r1 r2 r3 r4 r5 r6 r7 w
        | false => exact rprt_mf a b c p x y k h0 h1 r0 r1 r2 r3 r4 r5 r6 r7 w
  | false =>
    cases r5 : decide (k < 2) with
    | true => exact rprt_ke a b c p x y k h0 h1 r0 r1 r2 r3 r4 r5 w
    | false =>
      cases r6 : decide (k > 20) with
      | true => exact rprt_le a b c p x y k h0 h1 r0 r1 r2 r3 r4 r5 r6 w
      | false => exact rprt_me a b c p x y k h0 h1 r0 r1 r2 r3 r4 r5 r6 w
set_option maxRecDepth 100000 in
theorem reachParts_lifted (os : Os) (started : os.Started) (H : Type) (enc : TypeId × Value → H) :
    ReturnsInHanded {} Try.checked os 6 .any (Rows.reachPartsSpec.pre6 enc Try.prog Try.f6 Rows.reachPartsRow.domain false) (Rows.reachPartsSpec.post enc Try.prog Try.f6 false true false false) := by
  refine returnsInHanded_of_change (C := Try.checked) Try.own started (by kernel_rfl) Try.func6
    (ChangeSpec.witness6 (enc := enc) (C := Try.checked) false ⟨#[], #[.agg #[.int .i64 0, .int .i64 0], .agg #[.int .i64 0, .int .i64 0], .agg #[.int .i64 0, .int .i64 0], .agg #[.int .i64 0, .int .i64 0], .int .i64 0, .int .i64 0, .int .i64 0], []⟩ 8 (by kernel_rfl) (by kernel_rfl) (by kernel_rfl) (by kernel_rfl)) ?_
  intro W base args ds gs before hval0 hW hcnd _
  have hval : ∀ (j : Nat) t v, Try.f6.params[j]? = some t → args[j]? = some v → Value.okWide Try.prog W .any base t v := hval0
  have hW' := hW
  obtain ⟨p, q, hA0, hV, rfl, hfz, hnd⟩ := hW
  have hA : DataW.TrodAll enc Try.prog W 0 (fun _ => true) true Try.f6.params.toList args.toList ds p := hA0
  rw [Try.params6] at hA hval
  obtain ⟨v0, v1, v2, v3, v4, v5, v6, d0, d1, d2, d3, d4, d5, d6, q0, q1, q2, q3, q4, q5, q6, rfl, rfl, rfl, p0, p1, p2, p3, p4, p5, p6⟩ := trodAll_seven hA
  obtain ⟨rfl, rfl⟩ := trodVars_none hV
  obtain ⟨c0, e0, y0, z0, m0, rfl, rfl, rfl, hy0, hz0⟩ := Joins.open_agg2 Try.underlying23 (by kernel_rfl) (by kernel_rfl) (hval 0 23 v0 rfl rfl) p0
  obtain ⟨xa, f0, rfl, wxa⟩ := DataW.trod_int Try.underlying3 hy0
  obtain ⟨ya, g0, rfl, wya⟩ := DataW.trod_int Try.underlying3 hz0
  simp at f0 g0
  subst f0 g0
  obtain ⟨c1, e1, y1, z1, m1, rfl, rfl, rfl, hy1, hz1⟩ := Joins.open_agg2 Try.underlying23 (by kernel_rfl) (by kernel_rfl) (hval 1 23 v1 rfl rfl) p1
  obtain ⟨xb, f1, rfl, wxb⟩ := DataW.trod_int Try.underlying3 hy1
  obtain ⟨yb, g1, rfl, wyb⟩ := DataW.trod_int Try.underlying3 hz1
  simp at f1 g1
  subst f1 g1
  obtain ⟨c2, e2, y2, z2, m2, rfl, rfl, rfl, hy2, hz2⟩ := Joins.open_agg2 Try.underlying23 (by kernel_rfl) (by kernel_rfl) (hval 2 23 v2 rfl rfl) p2
  obtain ⟨xc, f2, rfl, wxc⟩ := DataW.trod_int Try.underlying3 hy2
  obtain ⟨yc, g2, rfl, wyc⟩ := DataW.trod_int Try.underlying3 hz2
  simp at f2 g2
  subst f2 g2
  obtain ⟨c3, e3, y3, z3, m3, rfl, rfl, rfl, hy3, hz3⟩ := Joins.open_agg2 Try.underlying23 (by kernel_rfl) (by kernel_rfl) (hval 3 23 v3 rfl rfl) p3
  obtain ⟨xp, f3, rfl, wxp⟩ := DataW.trod_int Try.underlying3 hy3
  obtain ⟨yp, g3, rfl, wyp⟩ := DataW.trod_int Try.underlying3 hz3
  simp at f3 g3
  subst f3 g3
  obtain ⟨x, rfl, rfl, rfl, wx⟩ := open_int Try.underlying3 (hval 4 3 v4 rfl rfl) p4
  obtain ⟨y, rfl, rfl, rfl, wy⟩ := open_int Try.underlying3 (hval 5 3 v5 rfl rfl) p5
  obtain ⟨k, rfl, rfl, rfl, wk⟩ := open_int Try.underlying3 (hval 6 3 v6 rfl rfl) p6
  clear hA0 hval0
  simp only [List.append_nil] at hW'
  refine (rprt_law ⟨xa, ya⟩ ⟨xb, yb⟩ ⟨xc, yc⟩ ⟨xp, yp⟩ x y k W).mono fun e W' ⟨he, hb⟩ => ?_
  subst he
  exact ⟨_, rfl, post_of_below (pa := []) (pv := []) hW' (fun _ _ _ => trodAll_mk1 (shut_bool Try.underlying4 true)) (fun sp _ => trodAll_mk7 (Joins.shut_agg2 (y0 := (.lit (.int .i64 xa), [])) (y1 := (.lit (.int .i64 ya), [])) Try.underlying23 (by kernel_rfl) (by kernel_rfl) ⟨1, by simp [DataW.trod, Try.underlying3, wxa]⟩ ⟨1, by simp [DataW.trod, Try.underlying3, wya]⟩) (Joins.shut_agg2 (y0 := (.lit (.int .i64 xb), [])) (y1 := (.lit (.int .i64 yb), [])) Try.underlying23 (by kernel_rfl) (by kernel_rfl) ⟨1, by simp [DataW.trod, Try.underlying3, wxb]⟩ ⟨1, by simp [DataW.trod, Try.underlying3, wyb]⟩) (Joins.shut_agg2 (y0 := (.lit (.int .i64 xc), [])) (y1 := (.lit (.int .i64 yc), [])) Try.underlying23 (by kernel_rfl) (by kernel_rfl) ⟨1, by simp [DataW.trod, Try.underlying3, wxc]⟩ ⟨1, by simp [DataW.trod, Try.underlying3, wyc]⟩) (Joins.shut_agg2 (y0 := (.lit (.int .i64 xp), [])) (y1 := (.lit (.int .i64 yp), [])) Try.underlying23 (by kernel_rfl) (by kernel_rfl) ⟨1, by simp [DataW.trod, Try.underlying3, wxp]⟩ ⟨1, by simp [DataW.trod, Try.underlying3, wyp]⟩) (shut_int Try.underlying3 wx) (shut_int Try.underlying3 wy) (shut_int Try.underlying3 wk)) (fun _ _ => rfl) rfl hb (ok_one (by kernel_rfl) rfl (okWide_bool_mk Try.underlying4 true))⟩
/-- The law ReachParts holds of every input. -/
theorem reachParts_holds : Rows.ReachPartsSaid :=
  OpenClaim.holds_of_wide 6 Try.f6 rfl rfl rfl rfl rfl rfl rfl ⟨rfl, rfl, rfl, rfl, rfl⟩ rfl rfl rfl rfl rfl (by kernel_rfl) Try.func6 (by kernel_rfl)
    (of_decide_eq_true (by kernel_rfl)) (by unfold Func.isWrapper; rw [if_neg (of_decide_eq_false (by kernel_rfl))]; exact ⟨rfl, rfl⟩)
    (fun os started H enc _ => reachParts_lifted os started H enc)
end Go.Proofs.Ytomdlhdpbdkdhaa
