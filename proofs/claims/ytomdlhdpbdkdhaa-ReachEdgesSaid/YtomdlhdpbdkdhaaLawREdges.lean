/- A segment that goes along an edge, or through the inside, goes along; one that only touches a corner does not; the same from either end: the law ReachEdges of package hectarelaw4 answers true at every input; no conditions. -/
import Derived.Test.YtomdlhdpbdkdhaaRows
import Derived.Test.YtomdlhdpbdkdhaaReF
import Derived.Test.YtomdlhdpbdkdhaaReQ
import Derived.Test.YtomdlhdpbdkdhaaReP
import Derived.Test.YtomdlhdpbdkdhaaPost
import Derived.WalkKit
import Derived.WalkSpells
import Derived.WalkLawsBesides
import Derived.Deep.QuietTactic
import Derived.BigQuiet
import Derived.Lib.Hide
import Derived.Handy
import Derived.Carry
import Derived.ProofKit
import Derived.Lib.SmallJoins
namespace Go.Proofs.Ytomdlhdpbdkdhaa
open Go.RowKit Go.Sort Go.ChangeShapes Go.WideShapes Go.ChangeAt
attribute [local go_sem] rOper rAt rUpon cell_set sg_i64 sg_u64 alloc_cell alloc_frozen
attribute [local go_sem 10000] pt_eql pt_neq tri_eql
attribute [local irreducible] rWalk

theorem wrap_in {n : Int} (h : -9223372036854775808 ≤ n ∧ n ≤ 9223372036854775807) : wrap64 n = n ∧ IntKind.i64.wrap n = n := by
  rw [IntKind.wrap_i64, w64]; omega
set_option maxHeartbeats 1000000 in
theorem redg_0 (a b c p q : Pt) (i : Int) (h0 : (!decide (ori a b c = 0)) = false) (w : World) :
    Calls Try.prog 5 #[.agg #[.int .i64 a.x, .int .i64 a.y], .agg #[.int .i64 b.x, .int .i64 b.y], .agg #[.int .i64 c.x, .int .i64 c.y], .agg #[.int .i64 p.x, .int .i64 p.y], .agg #[.int .i64 q.x, .int .i64 q.y], .int .i64 i] w fun e w' => e = .returned (.bool true) ∧ Below w.heap.size w w' := by
  have cm := rmake_any a b c
  rw [h0] at cm
  clear h0
  generalize mk a b c = M at *
  go_enter Try.func5, Try.ntmps5
  go_wp2_with fail
  refine at_call fun W1 hW => ?_
  have Ba : Box W1 (w.heap.size) [.int .i64 a.x, .int .i64 a.y] 23 := by rw [hW]; exact ((((Box.new rfl).old _).old _).old _).old _
  have Bb : Box W1 (w.heap.size + 1) [.int .i64 b.x, .int .i64 b.y] 23 := by rw [hW]; exact (((Box.new (by simp)).old _).old _).old _
  have Bc : Box W1 (w.heap.size + 1 + 1) [.int .i64 c.x, .int .i64 c.y] 23 := by rw [hW]; exact ((Box.new (by simp)).old _).old _
  have Bp : Box W1 (w.heap.size + 1 + 1 + 1) [.int .i64 p.x, .int .i64 p.y] 23 := by rw [hW]; exact (Box.new (by simp)).old _
  have Bq : Box W1 (w.heap.size + 1 + 1 + 1 + 1) [.int .i64 q.x, .int .i64 q.y] 23 := by rw [hW]; exact Box.new (by simp)
  have hw : Below w.heap.size w W1 := by rw [hW]; go_grown
  clear hW
  refine (cm _).mono ?_
  rintro e w2 ⟨rfl, hb⟩
  replace Ba := Ba.ext hb rfl
  replace Bb := Bb.ext hb rfl
  replace Bc := Bc.ext hb rfl
  replace Bp := Bp.ext hb rfl
  replace Bq := Bq.ext hb rfl
  replace hw := hw.trans (hb.mono hw.size)
  clear hb
  obtain ⟨xa, ya, za, va⟩ := Ba.facts
  obtain ⟨xb, yb, zb, vb⟩ := Bb.facts
  obtain ⟨xc, yc, zc, vc⟩ := Bc.facts
  obtain ⟨xp, yp, zp, vp⟩ := Bp.facts
  obtain ⟨xq, yq, zq, vq⟩ := Bq.facts
  go_wp2_with fail
  refine at_call fun W3 hW => ?_
  obtain ⟨bkt, hbt⟩ : ∃ b, w2.heap.size = b := ⟨_, rfl⟩
  rw [hbt]
  have lat := Ba.lt
  rw [hbt] at lat
  have lbt := Bb.lt
  rw [hbt] at lbt
  have lct := Bc.lt
  rw [hbt] at lct
  have lpt := Bp.lt
  rw [hbt] at lpt
  have lqt := Bq.lt
  rw [hbt] at lqt
  have ft := hw.size
  rw [hbt] at ft
  have Bt : Box W3 bkt [.int .i64 M.A.x, .int .i64 M.A.y, .int .i64 M.B.x, .int .i64 M.B.y, .int .i64 M.C.x, .int .i64 M.C.y] 25 := by rw [hW]; exact Box.new hbt.symm
  replace Ba : Box W3 (w.heap.size) [.int .i64 a.x, .int .i64 a.y] 23 := by rw [hW]; exact Ba.old _
  replace Bb : Box W3 (w.heap.size + 1) [.int .i64 b.x, .int .i64 b.y] 23 := by rw [hW]; exact Bb.old _
  replace Bc : Box W3 (w.heap.size + 1 + 1) [.int .i64 c.x, .int .i64 c.y] 23 := by rw [hW]; exact Bc.old _
  replace Bp : Box W3 (w.heap.size + 1 + 1 + 1) [.int .i64 p.x, .int .i64 p.y] 23 := by rw [hW]; exact Bp.old _
  replace Bq : Box W3 (w.heap.size + 1 + 1 + 1 + 1) [.int .i64 q.x, .int .i64 q.y] 23 := by rw [hW]; exact Bq.old _
  replace hw : Below w.heap.size w W3 := by have hl := hw.size; rw [hW]; go_grown
  clear hW hbt
  refine (awake4_any _).mono ?_
  rintro e w4 ⟨rfl, hb⟩
  clear xa ya za va xb yb zb vb xc yc zc vc xp yp zp vp xq yq zq vq
  replace Ba := Ba.ext hb rfl
  replace Bb := Bb.ext hb rfl
  replace Bc := Bc.ext hb rfl
  replace Bp := Bp.ext hb rfl
  replace Bq := Bq.ext hb rfl
  replace Bt := Bt.ext hb rfl
  replace hw := hw.trans (hb.mono hw.size)
  clear hb
  go_wp2
  go_ret
  exact ⟨rfl, hw⟩

set_option maxRecDepth 100000 in
set_option maxHeartbeats 4000000 in
theorem redg_1 (a b c p q : Pt) (i : Int) (h0 : (!decide (ori a b c = 0)) = true) (w : World) :
    Calls Try.prog 5 #[.agg #[.int .i64 a.x, .int .i64 a.y], .agg #[.int .i64 b.x, .int .i64 b.y], .agg #[.int .i64 c.x, .int .i64 c.y], .agg #[.int .i64 p.x, .int .i64 p.y], .agg #[.int .i64 q.x, .int .i64 q.y], .int .i64 i] w fun e w' => e = .returned (.bool true) ∧ Below w.heap.size w w' := by
  have hT := (mk_ok (a := a) (b := b) (c := c) (by simpa using h0)).1
  have cm := rmake_any a b c
  rw [h0] at cm
  have cr := round_any i
  have hk := plc_cases i
  generalize mk a b c = M at *
  generalize plc i = I at *
  obtain ⟨u1, u2⟩ := wrap_in (n := I + 1) (by omega)
  obtain ⟨u3, u4⟩ := wrap_in (n := I + 2) (by omega)
  obtain ⟨f1, f2, f3, f4⟩ := edges_fin hT (crn_row M I)
  have cx := rcorner_any M I
  have cy := rcorner_any M (I + 1)
  have cz := rcorner_any M (I + 2)
  generalize crn M I = X at *
  generalize crn M (I + 1) = Y at *
  generalize crn M (I + 2) = Z at *
  have a1 := alg_any M X Y
  rw [f1] at a1
  have a2 := alg_any M Y X
  rw [f2] at a2
  have a3 := alg_any M p q
  have a4 := alg_any M q p
  rw [alg_swap M q p] at a4
  have v1 := rvalid_any p
  have v2 := rvalid_any q
  have o1 := rorient_any Y X p
  have o2 := rorient_any X Z p
  have a5 := alg_any M X p
  have i1 := rins_any M p
  have hnv : vld p = false → insP M p = false := fun h => by unfold insP; rw [ori_nv h]; simp
  have F3 := Lib.hid (f3 p)
  have F4 := Lib.hid (f4 p q)
  have NV := Lib.hid hnv
  clear h0 hk f1 f2 f3 f4 hT hnv
  go_enter Try.func5, Try.ntmps5
  go_wp2_with fail
  refine at_call fun W1 hW => ?_
  have Ba : Box W1 (w.heap.size) [.int .i64 a.x, .int .i64 a.y] 23 := by rw [hW]; exact ((((Box.new rfl).old _).old _).old _).old _
  have Bb : Box W1 (w.heap.size + 1) [.int .i64 b.x, .int .i64 b.y] 23 := by rw [hW]; exact (((Box.new (by simp)).old _).old _).old _
  have Bc : Box W1 (w.heap.size + 1 + 1) [.int .i64 c.x, .int .i64 c.y] 23 := by rw [hW]; exact ((Box.new (by simp)).old _).old _
  have Bp : Box W1 (w.heap.size + 1 + 1 + 1) [.int .i64 p.x, .int .i64 p.y] 23 := by rw [hW]; exact (Box.new (by simp)).old _
  have Bq : Box W1 (w.heap.size + 1 + 1 + 1 + 1) [.int .i64 q.x, .int .i64 q.y] 23 := by rw [hW]; exact Box.new (by simp)
  have hw : Below w.heap.size w W1 := by rw [hW]; go_grown
  clear hW
  refine (cm _).mono ?_
  rintro e w2 ⟨rfl, hb⟩
  replace Ba := Ba.ext hb rfl
  replace Bb := Bb.ext hb rfl
  replace Bc := Bc.ext hb rfl
  replace Bp := Bp.ext hb rfl
  replace Bq := Bq.ext hb rfl
  replace hw := hw.trans (hb.mono hw.size)
  clear hb
  obtain ⟨xa, ya, za, va⟩ := Ba.facts
  obtain ⟨xb, yb, zb, vb⟩ := Bb.facts
  obtain ⟨xc, yc, zc, vc⟩ := Bc.facts
  obtain ⟨xp, yp, zp, vp⟩ := Bp.facts
  obtain ⟨xq, yq, zq, vq⟩ := Bq.facts
  go_wp2_with fail
  refine at_call fun W3 hW => ?_
  obtain ⟨bkt, hbt⟩ : ∃ b, w2.heap.size = b := ⟨_, rfl⟩
  rw [hbt]
  have lat := Ba.lt
  rw [hbt] at lat
  have lbt := Bb.lt
  rw [hbt] at lbt
  have lct := Bc.lt
  rw [hbt] at lct
  have lpt := Bp.lt
  rw [hbt] at lpt
  have lqt := Bq.lt
  rw [hbt] at lqt
  have ft := hw.size
  rw [hbt] at ft
  have Bt : Box W3 bkt [.int .i64 M.A.x, .int .i64 M.A.y, .int .i64 M.B.x, .int .i64 M.B.y, .int .i64 M.C.x, .int .i64 M.C.y] 25 := by rw [hW]; exact Box.new hbt.symm
  replace Ba : Box W3 (w.heap.size) [.int .i64 a.x, .int .i64 a.y] 23 := by rw [hW]; exact Ba.old _
  replace Bb : Box W3 (w.heap.size + 1) [.int .i64 b.x, .int .i64 b.y] 23 := by rw [hW]; exact Bb.old _
  replace Bc : Box W3 (w.heap.size + 1 + 1) [.int .i64 c.x, .int .i64 c.y] 23 := by rw [hW]; exact Bc.old _
  replace Bp : Box W3 (w.heap.size + 1 + 1 + 1) [.int .i64 p.x, .int .i64 p.y] 23 := by rw [hW]; exact Bp.old _
  replace Bq : Box W3 (w.heap.size + 1 + 1 + 1 + 1) [.int .i64 q.x, .int .i64 q.y] 23 := by rw [hW]; exact Bq.old _
  replace hw : Below w.heap.size w W3 := by have hl := hw.size; rw [hW]; go_grown
  clear hW hbt
  refine (cr _).mono ?_
  rintro e w4 ⟨rfl, hb⟩
  clear xa ya za va xb yb zb vb xc yc zc vc xp yp zp vp xq yq zq vq
  replace Ba := Ba.ext hb rfl
  replace Bb := Bb.ext hb rfl
  replace Bc := Bc.ext hb rfl
  replace Bp := Bp.ext hb rfl
  replace Bq := Bq.ext hb rfl
  replace Bt := Bt.ext hb rfl
  replace hw := hw.trans (hb.mono hw.size)
  clear hb
  obtain ⟨xa, ya, za, va⟩ := Ba.facts
  obtain ⟨xb, yb, zb, vb⟩ := Bb.facts
  obtain ⟨xc, yc, zc, vc⟩ := Bc.facts
  obtain ⟨xp, yp, zp, vp⟩ := Bp.facts
  obtain ⟨xq, yq, zq, vq⟩ := Bq.facts
  obtain ⟨xt, yt, zt, vt⟩ := Bt.facts
  go_wp2_with fail
  refine at_world fun W5 hW => ?_
  replace hw : Below w.heap.size w W5 := by rw [hW]; exact hw
  replace Ba : Box W5 (w.heap.size) [.int .i64 a.x, .int .i64 a.y] 23 := by rw [hW]; exact Ba
  replace Bb : Box W5 (w.heap.size + 1) [.int .i64 b.x, .int .i64 b.y] 23 := by rw [hW]; exact Bb
  replace Bc : Box W5 (w.heap.size + 1 + 1) [.int .i64 c.x, .int .i64 c.y] 23 := by rw [hW]; exact Bc
  replace Bp : Box W5 (w.heap.size + 1 + 1 + 1) [.int .i64 p.x, .int .i64 p.y] 23 := by rw [hW]; exact Bp
  replace Bq : Box W5 (w.heap.size + 1 + 1 + 1 + 1) [.int .i64 q.x, .int .i64 q.y] 23 := by rw [hW]; exact Bq
  replace Bt : Box W5 (bkt) [.int .i64 M.A.x, .int .i64 M.A.y, .int .i64 M.B.x, .int .i64 M.B.y, .int .i64 M.C.x, .int .i64 M.C.y] 25 := by rw [hW]; exact Bt
  clear hW
  clear xa ya za va xb yb zb vb xc yc zc vc xp yp zp vp xq yq zq vq xt yt zt vt
  have ga := Ba.cells
  have gb := Bb.cells
  have gc := Bc.cells
  have gp := Bp.cells
  have gq := Bq.cells
  have gt := Bt.cells
  refine wp_region_many 14 [⟨11, 15, 23, [.int .i64 0, .int .i64 0]⟩, ⟨12, 16, 23, [.int .i64 0, .int .i64 0]⟩, ⟨13, 17, 23, [.int .i64 0, .int .i64 0]⟩] ?_ (by kernel_rfl) (by decide) (by decide) (by kernel_rfl) (by decide) (C := fun w' => ∃ p : Regrown, w' = grow (redrawn W5 p.d) p.os) (fun w' h => regrown_of_below h) ?_
  · simp only [List.forall_mem_cons]
    refine ⟨⟨_, rfl, rfl, rfl, rfl, fun ρ W => by simp [execOp, go_sem]⟩, ⟨_, rfl, rfl, rfl, rfl, fun ρ W => by simp [execOp, go_sem]⟩, ⟨_, rfl, rfl, rfl, rfl, fun ρ W => by simp [execOp, go_sem]⟩, fun _ h => (by cases h)⟩
  simp only [List.take_succ_cons, List.take_zero, List.map_cons, List.map_nil, dropIdx, List.contains_cons, List.contains_nil, Nat.reduceBEq, Nat.reduceAdd, Bool.or_false, Bool.or_true, Bool.or_self, Bool.false_eq_true, if_true, if_false]
  repeat (first | (refine rWalk_skip (Eq.refl false) ?_; simp only [Act.put, List.setIfInBounds_toArray, List.set_cons_succ, List.set_cons_zero]) | (refine rWalk_step (fun K hK => ?_); go_simp; first | (refine hK _ ?_; clear hK K) | (apply Exists.intro; refine ⟨fun _ => ?_, hK _ ?_⟩; (first | with_reducible exact toExt cx _ | with_reducible exact toExt cy _ | with_reducible exact toExt cz _); clear hK K)))
  refine rWalk_nil ?_
  intro w6 β hL
  simp only [putD, List.drop_succ_cons, List.drop_zero]
  have qx := hL.box ⟨11, 15, 23, [.int .i64 0, .int .i64 0]⟩ (by simp) (by simp)
  simp only at qx
  have qy := hL.box ⟨12, 16, 23, [.int .i64 0, .int .i64 0]⟩ (by simp) (by simp)
  simp only at qy
  have qz := hL.box ⟨13, 17, 23, [.int .i64 0, .int .i64 0]⟩ (by simp) (by simp)
  simp only at qz
  have nxy := hL.apart 15 (by simp) 16 (by simp) (by decide)
  have nxz := hL.apart 15 (by simp) 17 (by simp) (by decide)
  have nyx := hL.apart 16 (by simp) 15 (by simp) (by decide)
  have nyz := hL.apart 16 (by simp) 17 (by simp) (by decide)
  have nzx := hL.apart 17 (by simp) 15 (by simp) (by decide)
  have nzy := hL.apart 17 (by simp) 16 (by simp) (by decide)
  have hb := hL.below
  have la := Ba.lt
  have lb := Bb.lt
  have lc := Bc.lt
  have lp := Bp.lt
  have lq := Bq.lt
  have lt := Bt.lt
  clear ga gb gc gp gq gt
  replace Ba := Ba.ext hb rfl
  replace Bb := Bb.ext hb rfl
  replace Bc := Bc.ext hb rfl
  replace Bp := Bp.ext hb rfl
  replace Bq := Bq.ext hb rfl
  replace Bt := Bt.ext hb rfl
  have hw0 := hw.size
  replace hw := hw.trans (hb.mono hw.size)
  clear hb hL
  generalize β 15 = bkx at *
  generalize β 16 = bky at *
  generalize β 17 = bkz at *
  clear β
  obtain ⟨fx, Bx⟩ := qx
  obtain ⟨fy, By⟩ := qy
  obtain ⟨fz, Bz⟩ := qz
  simp only [Act.put]
  obtain ⟨xx, yx, zx, vx⟩ := Bx.facts
  obtain ⟨xy, yy, zy, vy⟩ := By.facts
  obtain ⟨xz, yz, zz, vz⟩ := Bz.facts
  go_wp2_with fail
  refine at_world fun W7 hW => ?_
  have Ca : Box W7 (w.heap.size) [.int .i64 a.x, .int .i64 a.y] 23 := by rw [hW]; exact ((((((Ba.set_ne ⟨bkx, 0, none⟩ (.int .i64 X.x) (by first | assumption | (show bkx ≠ _; omega))).set_ne ⟨bkx, 1, none⟩ (.int .i64 X.y) (by first | assumption | (show bkx ≠ _; omega))).set_ne ⟨bky, 0, none⟩ (.int .i64 Y.x) (by first | assumption | (show bky ≠ _; omega))).set_ne ⟨bky, 1, none⟩ (.int .i64 Y.y) (by first | assumption | (show bky ≠ _; omega))).set_ne ⟨bkz, 0, none⟩ (.int .i64 Z.x) (by first | assumption | (show bkz ≠ _; omega))).set_ne ⟨bkz, 1, none⟩ (.int .i64 Z.y) (by first | assumption | (show bkz ≠ _; omega)))
  have Cb : Box W7 (w.heap.size + 1) [.int .i64 b.x, .int .i64 b.y] 23 := by rw [hW]; exact ((((((Bb.set_ne ⟨bkx, 0, none⟩ (.int .i64 X.x) (by first | assumption | (show bkx ≠ _; omega))).set_ne ⟨bkx, 1, none⟩ (.int .i64 X.y) (by first | assumption | (show bkx ≠ _; omega))).set_ne ⟨bky, 0, none⟩ (.int .i64 Y.x) (by first | assumption | (show bky ≠ _; omega))).set_ne ⟨bky, 1, none⟩ (.int .i64 Y.y) (by first | assumption | (show bky ≠ _; omega))).set_ne ⟨bkz, 0, none⟩ (.int .i64 Z.x) (by first | assumption | (show bkz ≠ _; omega))).set_ne ⟨bkz, 1, none⟩ (.int .i64 Z.y) (by first | assumption | (show bkz ≠ _; omega)))
  have Cc : Box W7 (w.heap.size + 1 + 1) [.int .i64 c.x, .int .i64 c.y] 23 := by rw [hW]; exact ((((((Bc.set_ne ⟨bkx, 0, none⟩ (.int .i64 X.x) (by first | assumption | (show bkx ≠ _; omega))).set_ne ⟨bkx, 1, none⟩ (.int .i64 X.y) (by first | assumption | (show bkx ≠ _; omega))).set_ne ⟨bky, 0, none⟩ (.int .i64 Y.x) (by first | assumption | (show bky ≠ _; omega))).set_ne ⟨bky, 1, none⟩ (.int .i64 Y.y) (by first | assumption | (show bky ≠ _; omega))).set_ne ⟨bkz, 0, none⟩ (.int .i64 Z.x) (by first | assumption | (show bkz ≠ _; omega))).set_ne ⟨bkz, 1, none⟩ (.int .i64 Z.y) (by first | assumption | (show bkz ≠ _; omega)))
  have Cp : Box W7 (w.heap.size + 1 + 1 + 1) [.int .i64 p.x, .int .i64 p.y] 23 := by rw [hW]; exact ((((((Bp.set_ne ⟨bkx, 0, none⟩ (.int .i64 X.x) (by first | assumption | (show bkx ≠ _; omega))).set_ne ⟨bkx, 1, none⟩ (.int .i64 X.y) (by first | assumption | (show bkx ≠ _; omega))).set_ne ⟨bky, 0, none⟩ (.int .i64 Y.x) (by first | assumption | (show bky ≠ _; omega))).set_ne ⟨bky, 1, none⟩ (.int .i64 Y.y) (by first | assumption | (show bky ≠ _; omega))).set_ne ⟨bkz, 0, none⟩ (.int .i64 Z.x) (by first | assumption | (show bkz ≠ _; omega))).set_ne ⟨bkz, 1, none⟩ (.int .i64 Z.y) (by first | assumption | (show bkz ≠ _; omega)))
  have Cq : Box W7 (w.heap.size + 1 + 1 + 1 + 1) [.int .i64 q.x, .int .i64 q.y] 23 := by rw [hW]; exact ((((((Bq.set_ne ⟨bkx, 0, none⟩ (.int .i64 X.x) (by first | assumption | (show bkx ≠ _; omega))).set_ne ⟨bkx, 1, none⟩ (.int .i64 X.y) (by first | assumption | (show bkx ≠ _; omega))).set_ne ⟨bky, 0, none⟩ (.int .i64 Y.x) (by first | assumption | (show bky ≠ _; omega))).set_ne ⟨bky, 1, none⟩ (.int .i64 Y.y) (by first | assumption | (show bky ≠ _; omega))).set_ne ⟨bkz, 0, none⟩ (.int .i64 Z.x) (by first | assumption | (show bkz ≠ _; omega))).set_ne ⟨bkz, 1, none⟩ (.int .i64 Z.y) (by first | assumption | (show bkz ≠ _; omega)))
  have Ct : Box W7 (bkt) [.int .i64 M.A.x, .int .i64 M.A.y, .int .i64 M.B.x, .int .i64 M.B.y, .int .i64 M.C.x, .int .i64 M.C.y] 25 := by rw [hW]; exact ((((((Bt.set_ne ⟨bkx, 0, none⟩ (.int .i64 X.x) (by first | assumption | (show bkx ≠ _; omega))).set_ne ⟨bkx, 1, none⟩ (.int .i64 X.y) (by first | assumption | (show bkx ≠ _; omega))).set_ne ⟨bky, 0, none⟩ (.int .i64 Y.x) (by first | assumption | (show bky ≠ _; omega))).set_ne ⟨bky, 1, none⟩ (.int .i64 Y.y) (by first | assumption | (show bky ≠ _; omega))).set_ne ⟨bkz, 0, none⟩ (.int .i64 Z.x) (by first | assumption | (show bkz ≠ _; omega))).set_ne ⟨bkz, 1, none⟩ (.int .i64 Z.y) (by first | assumption | (show bkz ≠ _; omega)))
  have Cx : Box W7 (bkx) [.int .i64 X.x, .int .i64 X.y] 23 := by rw [hW]; exact ((((((Bx.set 0 (.int .i64 X.x)).set 1 (.int .i64 X.y)).set_ne ⟨bky, 0, none⟩ (.int .i64 Y.x) (by first | assumption | (show bky ≠ _; omega))).set_ne ⟨bky, 1, none⟩ (.int .i64 Y.y) (by first | assumption | (show bky ≠ _; omega))).set_ne ⟨bkz, 0, none⟩ (.int .i64 Z.x) (by first | assumption | (show bkz ≠ _; omega))).set_ne ⟨bkz, 1, none⟩ (.int .i64 Z.y) (by first | assumption | (show bkz ≠ _; omega)))
  have Cy : Box W7 (bky) [.int .i64 Y.x, .int .i64 Y.y] 23 := by rw [hW]; exact ((((((By.set_ne ⟨bkx, 0, none⟩ (.int .i64 X.x) (by first | assumption | (show bkx ≠ _; omega))).set_ne ⟨bkx, 1, none⟩ (.int .i64 X.y) (by first | assumption | (show bkx ≠ _; omega))).set 0 (.int .i64 Y.x)).set 1 (.int .i64 Y.y)).set_ne ⟨bkz, 0, none⟩ (.int .i64 Z.x) (by first | assumption | (show bkz ≠ _; omega))).set_ne ⟨bkz, 1, none⟩ (.int .i64 Z.y) (by first | assumption | (show bkz ≠ _; omega)))
  have Cz : Box W7 (bkz) [.int .i64 Z.x, .int .i64 Z.y] 23 := by rw [hW]; exact ((((((Bz.set_ne ⟨bkx, 0, none⟩ (.int .i64 X.x) (by first | assumption | (show bkx ≠ _; omega))).set_ne ⟨bkx, 1, none⟩ (.int .i64 X.y) (by first | assumption | (show bkx ≠ _; omega))).set_ne ⟨bky, 0, none⟩ (.int .i64 Y.x) (by first | assumption | (show bky ≠ _; omega))).set_ne ⟨bky, 1, none⟩ (.int .i64 Y.y) (by first | assumption | (show bky ≠ _; omega))).set 0 (.int .i64 Z.x)).set 1 (.int .i64 Z.y))
  replace hw : Below w.heap.size w W7 := by have hl := hw.size; rw [hW]; go_grown
  clear xx yx zx vx xy yy zy vy xz yz zz vz
  clear hW Ba Bb Bc Bp Bq Bt Bx By Bz
  have Ba := Ca
  have Bb := Cb
  have Bc := Cc
  have Bp := Cp
  have Bq := Cq
  have Bt := Ct
  have Bx := Cx
  have By := Cy
  have Bz := Cz
  clear Ca Cb Cc Cp Cq Ct Cx Cy Cz
  clear cm cr cx cy cz u1 u2 u3 u4
  as_aux_lemma =>
    have ga := Ba.cells
    have gb := Bb.cells
    have gc := Bc.cells
    have gp := Bp.cells
    have gq := Bq.cells
    have gt := Bt.cells
    have gx := Bx.cells
    have gy := By.cells
    have gz := Bz.cells
    refine wp_region_tail 22 (by kernel_rfl) (by kernel_rfl) (C := fun w' => ∃ p : Regrown, w' = grow (redrawn W7 p.d) p.os) (fun w' h => regrown_of_below h) ?_
    simp only [List.take_succ_cons, List.take_zero, List.drop_succ_cons, List.drop_zero]
    repeat (first | (refine rWalk_skip (Eq.refl false) ?_; simp only [Act.put, List.setIfInBounds_toArray, List.set_cons_succ, List.set_cons_zero]) | (refine rWalk_step (fun K hK => ?_); go_simp; first | (refine hK _ ?_; clear hK K) | (apply Exists.intro; refine ⟨fun _ => ?_, hK _ ?_⟩; (first | with_reducible exact toExt a1 _ | with_reducible exact toExt a2 _ | with_reducible exact toExt a3 _ | with_reducible exact toExt a4 _); clear hK K)))
    refine rWalk_nil ?_
    intro w8 hb
    clear ga gb gc gp gq gt gx gy gz
    replace Ba := Ba.ext hb rfl
    replace Bb := Bb.ext hb rfl
    replace Bc := Bc.ext hb rfl
    replace Bp := Bp.ext hb rfl
    replace Bq := Bq.ext hb rfl
    replace Bt := Bt.ext hb rfl
    replace Bx := Bx.ext hb rfl
    replace By := By.ext hb rfl
    replace Bz := Bz.ext hb rfl
    replace hw := hw.trans (hb.mono hw.size)
    clear a1 a2 a4
    as_aux_lemma =>
      obtain ⟨xa, ya, za, va⟩ := Ba.facts
      obtain ⟨xb, yb, zb, vb⟩ := Bb.facts
      obtain ⟨xc, yc, zc, vc⟩ := Bc.facts
      obtain ⟨xp, yp, zp, vp⟩ := Bp.facts
      obtain ⟨xq, yq, zq, vq⟩ := Bq.facts
      obtain ⟨xt, yt, zt, vt⟩ := Bt.facts
      obtain ⟨xx, yx, zx, vx⟩ := Bx.facts
      obtain ⟨xy, yy, zy, vy⟩ := By.facts
      obtain ⟨xz, yz, zz, vz⟩ := Bz.facts
      go_wp2_with fail
      refine at_call fun W9 hW => ?_
      replace hw : Below w.heap.size w W9 := by rw [hW]; exact hw
      replace Ba : Box W9 (w.heap.size) [.int .i64 a.x, .int .i64 a.y] 23 := by rw [hW]; exact Ba
      replace Bb : Box W9 (w.heap.size + 1) [.int .i64 b.x, .int .i64 b.y] 23 := by rw [hW]; exact Bb
      replace Bc : Box W9 (w.heap.size + 1 + 1) [.int .i64 c.x, .int .i64 c.y] 23 := by rw [hW]; exact Bc
      replace Bp : Box W9 (w.heap.size + 1 + 1 + 1) [.int .i64 p.x, .int .i64 p.y] 23 := by rw [hW]; exact Bp
      replace Bq : Box W9 (w.heap.size + 1 + 1 + 1 + 1) [.int .i64 q.x, .int .i64 q.y] 23 := by rw [hW]; exact Bq
      replace Bt : Box W9 (bkt) [.int .i64 M.A.x, .int .i64 M.A.y, .int .i64 M.B.x, .int .i64 M.B.y, .int .i64 M.C.x, .int .i64 M.C.y] 25 := by rw [hW]; exact Bt
      replace Bx : Box W9 (bkx) [.int .i64 X.x, .int .i64 X.y] 23 := by rw [hW]; exact Bx
      replace By : Box W9 (bky) [.int .i64 Y.x, .int .i64 Y.y] 23 := by rw [hW]; exact By
      replace Bz : Box W9 (bkz) [.int .i64 Z.x, .int .i64 Z.y] 23 := by rw [hW]; exact Bz
      clear hW
      clear xa ya za va xb yb zb vb xc yc zc vc xp yp zp vp xq yq zq vq xt yt zt vt xx yx zx vx xy yy zy vy xz yz zz vz
      cases hv : vld p
      · rw [NV.out hv] at i1
        rw [hv] at v1
        as_aux_lemma =>
          refine (v1 _).mono ?_
          rintro e w10 ⟨rfl, hb⟩
          replace Ba := Ba.ext hb rfl
          replace Bb := Bb.ext hb rfl
          replace Bc := Bc.ext hb rfl
          replace Bp := Bp.ext hb rfl
          replace Bq := Bq.ext hb rfl
          replace Bt := Bt.ext hb rfl
          replace Bx := Bx.ext hb rfl
          replace By := By.ext hb rfl
          replace Bz := Bz.ext hb rfl
          replace hw := hw.trans (hb.mono hw.size)
          clear hb
          obtain ⟨xa, ya, za, va⟩ := Ba.facts
          obtain ⟨xb, yb, zb, vb⟩ := Bb.facts
          obtain ⟨xc, yc, zc, vc⟩ := Bc.facts
          obtain ⟨xp, yp, zp, vp⟩ := Bp.facts
          obtain ⟨xq, yq, zq, vq⟩ := Bq.facts
          obtain ⟨xt, yt, zt, vt⟩ := Bt.facts
          obtain ⟨xx, yx, zx, vx⟩ := Bx.facts
          obtain ⟨xy, yy, zy, vy⟩ := By.facts
          obtain ⟨xz, yz, zz, vz⟩ := Bz.facts
          go_wp2_with fail
          refine (i1 _).mono ?_
          rintro e w11 ⟨rfl, hb⟩
          clear xa ya za va xb yb zb vb xc yc zc vc xp yp zp vp xq yq zq vq xt yt zt vt xx yx zx vx xy yy zy vy xz yz zz vz
          replace Ba := Ba.ext hb rfl
          replace Bb := Bb.ext hb rfl
          replace Bc := Bc.ext hb rfl
          replace Bp := Bp.ext hb rfl
          replace Bq := Bq.ext hb rfl
          replace Bt := Bt.ext hb rfl
          replace Bx := Bx.ext hb rfl
          replace By := By.ext hb rfl
          replace Bz := Bz.ext hb rfl
          replace hw := hw.trans (hb.mono hw.size)
          clear hb
          obtain ⟨xa, ya, za, va⟩ := Ba.facts
          obtain ⟨xb, yb, zb, vb⟩ := Bb.facts
          obtain ⟨xc, yc, zc, vc⟩ := Bc.facts
          obtain ⟨xp, yp, zp, vp⟩ := Bp.facts
          obtain ⟨xq, yq, zq, vq⟩ := Bq.facts
          obtain ⟨xt, yt, zt, vt⟩ := Bt.facts
          obtain ⟨xx, yx, zx, vx⟩ := Bx.facts
          obtain ⟨xy, yy, zy, vy⟩ := By.facts
          obtain ⟨xz, yz, zz, vz⟩ := Bz.facts
          go_wp2_with fail
          refine (awake4_any _).mono ?_
          rintro e w12 ⟨rfl, hb⟩
          clear xa ya za va xb yb zb vb xc yc zc vc xp yp zp vp xq yq zq vq xt yt zt vt xx yx zx vx xy yy zy vy xz yz zz vz
          replace Ba := Ba.ext hb rfl
          replace Bb := Bb.ext hb rfl
          replace Bc := Bc.ext hb rfl
          replace Bp := Bp.ext hb rfl
          replace Bq := Bq.ext hb rfl
          replace Bt := Bt.ext hb rfl
          replace Bx := Bx.ext hb rfl
          replace By := By.ext hb rfl
          replace Bz := Bz.ext hb rfl
          replace hw := hw.trans (hb.mono hw.size)
          clear hb
          go_wp2
          go_ret
          exact ⟨rfl, hw⟩
      · rw [hv] at v1
        cases hx : peqI p.x p.y X.x X.y
        · cases g1 : (ori Y X p == 1)
          · generalize ori Y X p = m1 at *
            cases hi : insP M p
            · rw [hi] at i1
              as_aux_lemma =>
                refine (v1 _).mono ?_
                rintro e w10 ⟨rfl, hb⟩
                replace Ba := Ba.ext hb rfl
                replace Bb := Bb.ext hb rfl
                replace Bc := Bc.ext hb rfl
                replace Bp := Bp.ext hb rfl
                replace Bq := Bq.ext hb rfl
                replace Bt := Bt.ext hb rfl
                replace Bx := Bx.ext hb rfl
                replace By := By.ext hb rfl
                replace Bz := Bz.ext hb rfl
                replace hw := hw.trans (hb.mono hw.size)
                clear hb
                obtain ⟨xa, ya, za, va⟩ := Ba.facts
                obtain ⟨xb, yb, zb, vb⟩ := Bb.facts
                obtain ⟨xc, yc, zc, vc⟩ := Bc.facts
                obtain ⟨xp, yp, zp, vp⟩ := Bp.facts
                obtain ⟨xq, yq, zq, vq⟩ := Bq.facts
                obtain ⟨xt, yt, zt, vt⟩ := Bt.facts
                obtain ⟨xx, yx, zx, vx⟩ := Bx.facts
                obtain ⟨xy, yy, zy, vy⟩ := By.facts
                obtain ⟨xz, yz, zz, vz⟩ := Bz.facts
                go_wp2_with fail
                refine (o1 _).mono ?_
                rintro e w11 ⟨rfl, hb⟩
                clear xa ya za va xb yb zb vb xc yc zc vc xp yp zp vp xq yq zq vq xt yt zt vt xx yx zx vx xy yy zy vy xz yz zz vz
                replace Ba := Ba.ext hb rfl
                replace Bb := Bb.ext hb rfl
                replace Bc := Bc.ext hb rfl
                replace Bp := Bp.ext hb rfl
                replace Bq := Bq.ext hb rfl
                replace Bt := Bt.ext hb rfl
                replace Bx := Bx.ext hb rfl
                replace By := By.ext hb rfl
                replace Bz := Bz.ext hb rfl
                replace hw := hw.trans (hb.mono hw.size)
                clear hb
                obtain ⟨xa, ya, za, va⟩ := Ba.facts
                obtain ⟨xb, yb, zb, vb⟩ := Bb.facts
                obtain ⟨xc, yc, zc, vc⟩ := Bc.facts
                obtain ⟨xp, yp, zp, vp⟩ := Bp.facts
                obtain ⟨xq, yq, zq, vq⟩ := Bq.facts
                obtain ⟨xt, yt, zt, vt⟩ := Bt.facts
                obtain ⟨xx, yx, zx, vx⟩ := Bx.facts
                obtain ⟨xy, yy, zy, vy⟩ := By.facts
                obtain ⟨xz, yz, zz, vz⟩ := Bz.facts
                go_wp2_with fail
                refine (i1 _).mono ?_
                rintro e w12 ⟨rfl, hb⟩
                clear xa ya za va xb yb zb vb xc yc zc vc xp yp zp vp xq yq zq vq xt yt zt vt xx yx zx vx xy yy zy vy xz yz zz vz
                replace Ba := Ba.ext hb rfl
                replace Bb := Bb.ext hb rfl
                replace Bc := Bc.ext hb rfl
                replace Bp := Bp.ext hb rfl
                replace Bq := Bq.ext hb rfl
                replace Bt := Bt.ext hb rfl
                replace Bx := Bx.ext hb rfl
                replace By := By.ext hb rfl
                replace Bz := Bz.ext hb rfl
                replace hw := hw.trans (hb.mono hw.size)
                clear hb
                obtain ⟨xa, ya, za, va⟩ := Ba.facts
                obtain ⟨xb, yb, zb, vb⟩ := Bb.facts
                obtain ⟨xc, yc, zc, vc⟩ := Bc.facts
                obtain ⟨xp, yp, zp, vp⟩ := Bp.facts
                obtain ⟨xq, yq, zq, vq⟩ := Bq.facts
                obtain ⟨xt, yt, zt, vt⟩ := Bt.facts
                obtain ⟨xx, yx, zx, vx⟩ := Bx.facts
                obtain ⟨xy, yy, zy, vy⟩ := By.facts
                obtain ⟨xz, yz, zz, vz⟩ := Bz.facts
                go_wp2_with fail
                refine (awake4_any _).mono ?_
                rintro e w13 ⟨rfl, hb⟩
                clear xa ya za va xb yb zb vb xc yc zc vc xp yp zp vp xq yq zq vq xt yt zt vt xx yx zx vx xy yy zy vy xz yz zz vz
                replace Ba := Ba.ext hb rfl
                replace Bb := Bb.ext hb rfl
                replace Bc := Bc.ext hb rfl
                replace Bp := Bp.ext hb rfl
                replace Bq := Bq.ext hb rfl
                replace Bt := Bt.ext hb rfl
                replace Bx := Bx.ext hb rfl
                replace By := By.ext hb rfl
                replace Bz := Bz.ext hb rfl
                replace hw := hw.trans (hb.mono hw.size)
                clear hb
                go_wp2
                go_ret
                exact ⟨rfl, hw⟩
            · cases hq : vld q
              · rw [hi] at i1
                rw [hq] at v2
                as_aux_lemma =>
                  refine (v1 _).mono ?_
                  rintro e w10 ⟨rfl, hb⟩
                  replace Ba := Ba.ext hb rfl
                  replace Bb := Bb.ext hb rfl
                  replace Bc := Bc.ext hb rfl
                  replace Bp := Bp.ext hb rfl
                  replace Bq := Bq.ext hb rfl
                  replace Bt := Bt.ext hb rfl
                  replace Bx := Bx.ext hb rfl
                  replace By := By.ext hb rfl
                  replace Bz := Bz.ext hb rfl
                  replace hw := hw.trans (hb.mono hw.size)
                  clear hb
                  obtain ⟨xa, ya, za, va⟩ := Ba.facts
                  obtain ⟨xb, yb, zb, vb⟩ := Bb.facts
                  obtain ⟨xc, yc, zc, vc⟩ := Bc.facts
                  obtain ⟨xp, yp, zp, vp⟩ := Bp.facts
                  obtain ⟨xq, yq, zq, vq⟩ := Bq.facts
                  obtain ⟨xt, yt, zt, vt⟩ := Bt.facts
                  obtain ⟨xx, yx, zx, vx⟩ := Bx.facts
                  obtain ⟨xy, yy, zy, vy⟩ := By.facts
                  obtain ⟨xz, yz, zz, vz⟩ := Bz.facts
                  go_wp2_with fail
                  refine (o1 _).mono ?_
                  rintro e w11 ⟨rfl, hb⟩
                  clear xa ya za va xb yb zb vb xc yc zc vc xp yp zp vp xq yq zq vq xt yt zt vt xx yx zx vx xy yy zy vy xz yz zz vz
                  replace Ba := Ba.ext hb rfl
                  replace Bb := Bb.ext hb rfl
                  replace Bc := Bc.ext hb rfl
                  replace Bp := Bp.ext hb rfl
                  replace Bq := Bq.ext hb rfl
                  replace Bt := Bt.ext hb rfl
                  replace Bx := Bx.ext hb rfl
                  replace By := By.ext hb rfl
                  replace Bz := Bz.ext hb rfl
                  replace hw := hw.trans (hb.mono hw.size)
                  clear hb
                  obtain ⟨xa, ya, za, va⟩ := Ba.facts
                  obtain ⟨xb, yb, zb, vb⟩ := Bb.facts
                  obtain ⟨xc, yc, zc, vc⟩ := Bc.facts
                  obtain ⟨xp, yp, zp, vp⟩ := Bp.facts
                  obtain ⟨xq, yq, zq, vq⟩ := Bq.facts
                  obtain ⟨xt, yt, zt, vt⟩ := Bt.facts
                  obtain ⟨xx, yx, zx, vx⟩ := Bx.facts
                  obtain ⟨xy, yy, zy, vy⟩ := By.facts
                  obtain ⟨xz, yz, zz, vz⟩ := Bz.facts
                  go_wp2_with fail
                  refine (i1 _).mono ?_
                  rintro e w12 ⟨rfl, hb⟩
                  clear xa ya za va xb yb zb vb xc yc zc vc xp yp zp vp xq yq zq vq xt yt zt vt xx yx zx vx xy yy zy vy xz yz zz vz
                  replace Ba := Ba.ext hb rfl
                  replace Bb := Bb.ext hb rfl
                  replace Bc := Bc.ext hb rfl
                  replace Bp := Bp.ext hb rfl
                  replace Bq := Bq.ext hb rfl
                  replace Bt := Bt.ext hb rfl
                  replace Bx := Bx.ext hb rfl
                  replace By := By.ext hb rfl
                  replace Bz := Bz.ext hb rfl
                  replace hw := hw.trans (hb.mono hw.size)
                  clear hb
                  obtain ⟨xa, ya, za, va⟩ := Ba.facts
                  obtain ⟨xb, yb, zb, vb⟩ := Bb.facts
                  obtain ⟨xc, yc, zc, vc⟩ := Bc.facts
                  obtain ⟨xp, yp, zp, vp⟩ := Bp.facts
                  obtain ⟨xq, yq, zq, vq⟩ := Bq.facts
                  obtain ⟨xt, yt, zt, vt⟩ := Bt.facts
                  obtain ⟨xx, yx, zx, vx⟩ := Bx.facts
                  obtain ⟨xy, yy, zy, vy⟩ := By.facts
                  obtain ⟨xz, yz, zz, vz⟩ := Bz.facts
                  go_wp2_with fail
                  refine (v2 _).mono ?_
                  rintro e w13 ⟨rfl, hb⟩
                  clear xa ya za va xb yb zb vb xc yc zc vc xp yp zp vp xq yq zq vq xt yt zt vt xx yx zx vx xy yy zy vy xz yz zz vz
                  replace Ba := Ba.ext hb rfl
                  replace Bb := Bb.ext hb rfl
                  replace Bc := Bc.ext hb rfl
                  replace Bp := Bp.ext hb rfl
                  replace Bq := Bq.ext hb rfl
                  replace Bt := Bt.ext hb rfl
                  replace Bx := Bx.ext hb rfl
                  replace By := By.ext hb rfl
                  replace Bz := Bz.ext hb rfl
                  replace hw := hw.trans (hb.mono hw.size)
                  clear hb
                  obtain ⟨xa, ya, za, va⟩ := Ba.facts
                  obtain ⟨xb, yb, zb, vb⟩ := Bb.facts
                  obtain ⟨xc, yc, zc, vc⟩ := Bc.facts
                  obtain ⟨xp, yp, zp, vp⟩ := Bp.facts
                  obtain ⟨xq, yq, zq, vq⟩ := Bq.facts
                  obtain ⟨xt, yt, zt, vt⟩ := Bt.facts
                  obtain ⟨xx, yx, zx, vx⟩ := Bx.facts
                  obtain ⟨xy, yy, zy, vy⟩ := By.facts
                  obtain ⟨xz, yz, zz, vz⟩ := Bz.facts
                  go_wp2_with fail
                  refine (awake4_any _).mono ?_
                  rintro e w14 ⟨rfl, hb⟩
                  clear xa ya za va xb yb zb vb xc yc zc vc xp yp zp vp xq yq zq vq xt yt zt vt xx yx zx vx xy yy zy vy xz yz zz vz
                  replace Ba := Ba.ext hb rfl
                  replace Bb := Bb.ext hb rfl
                  replace Bc := Bc.ext hb rfl
                  replace Bp := Bp.ext hb rfl
                  replace Bq := Bq.ext hb rfl
                  replace Bt := Bt.ext hb rfl
                  replace Bx := Bx.ext hb rfl
                  replace By := By.ext hb rfl
                  replace Bz := Bz.ext hb rfl
                  replace hw := hw.trans (hb.mono hw.size)
                  clear hb
                  go_wp2
                  go_ret
                  exact ⟨rfl, hw⟩
              · cases hz : peqI p.x p.y q.x q.y
                · have e := F4.out hi hv hq (peqI_ne.1 hz)
                  rw [hi] at i1
                  rw [hq] at v2
                  rw [e] at a3
                  clear e
                  as_aux_lemma =>
                    refine (v1 _).mono ?_
                    rintro e w10 ⟨rfl, hb⟩
                    replace Ba := Ba.ext hb rfl
                    replace Bb := Bb.ext hb rfl
                    replace Bc := Bc.ext hb rfl
                    replace Bp := Bp.ext hb rfl
                    replace Bq := Bq.ext hb rfl
                    replace Bt := Bt.ext hb rfl
                    replace Bx := Bx.ext hb rfl
                    replace By := By.ext hb rfl
                    replace Bz := Bz.ext hb rfl
                    replace hw := hw.trans (hb.mono hw.size)
                    clear hb
                    obtain ⟨xa, ya, za, va⟩ := Ba.facts
                    obtain ⟨xb, yb, zb, vb⟩ := Bb.facts
                    obtain ⟨xc, yc, zc, vc⟩ := Bc.facts
                    obtain ⟨xp, yp, zp, vp⟩ := Bp.facts
                    obtain ⟨xq, yq, zq, vq⟩ := Bq.facts
                    obtain ⟨xt, yt, zt, vt⟩ := Bt.facts
                    obtain ⟨xx, yx, zx, vx⟩ := Bx.facts
                    obtain ⟨xy, yy, zy, vy⟩ := By.facts
                    obtain ⟨xz, yz, zz, vz⟩ := Bz.facts
                    go_wp2_with fail
                    refine (o1 _).mono ?_
                    rintro e w11 ⟨rfl, hb⟩
                    clear xa ya za va xb yb zb vb xc yc zc vc xp yp zp vp xq yq zq vq xt yt zt vt xx yx zx vx xy yy zy vy xz yz zz vz
                    replace Ba := Ba.ext hb rfl
                    replace Bb := Bb.ext hb rfl
                    replace Bc := Bc.ext hb rfl
                    replace Bp := Bp.ext hb rfl
                    replace Bq := Bq.ext hb rfl
                    replace Bt := Bt.ext hb rfl
                    replace Bx := Bx.ext hb rfl
                    replace By := By.ext hb rfl
                    replace Bz := Bz.ext hb rfl
                    replace hw := hw.trans (hb.mono hw.size)
                    clear hb
                    obtain ⟨xa, ya, za, va⟩ := Ba.facts
                    obtain ⟨xb, yb, zb, vb⟩ := Bb.facts
                    obtain ⟨xc, yc, zc, vc⟩ := Bc.facts
                    obtain ⟨xp, yp, zp, vp⟩ := Bp.facts
                    obtain ⟨xq, yq, zq, vq⟩ := Bq.facts
                    obtain ⟨xt, yt, zt, vt⟩ := Bt.facts
                    obtain ⟨xx, yx, zx, vx⟩ := Bx.facts
                    obtain ⟨xy, yy, zy, vy⟩ := By.facts
                    obtain ⟨xz, yz, zz, vz⟩ := Bz.facts
                    go_wp2_with fail
                    refine (i1 _).mono ?_
                    rintro e w12 ⟨rfl, hb⟩
                    clear xa ya za va xb yb zb vb xc yc zc vc xp yp zp vp xq yq zq vq xt yt zt vt xx yx zx vx xy yy zy vy xz yz zz vz
                    replace Ba := Ba.ext hb rfl
                    replace Bb := Bb.ext hb rfl
                    replace Bc := Bc.ext hb rfl
                    replace Bp := Bp.ext hb rfl
                    replace Bq := Bq.ext hb rfl
                    replace Bt := Bt.ext hb rfl
                    replace Bx := Bx.ext hb rfl
                    replace By := By.ext hb rfl
                    replace Bz := Bz.ext hb rfl
                    replace hw := hw.trans (hb.mono hw.size)
                    clear hb
                    obtain ⟨xa, ya, za, va⟩ := Ba.facts
                    obtain ⟨xb, yb, zb, vb⟩ := Bb.facts
                    obtain ⟨xc, yc, zc, vc⟩ := Bc.facts
                    obtain ⟨xp, yp, zp, vp⟩ := Bp.facts
                    obtain ⟨xq, yq, zq, vq⟩ := Bq.facts
                    obtain ⟨xt, yt, zt, vt⟩ := Bt.facts
                    obtain ⟨xx, yx, zx, vx⟩ := Bx.facts
                    obtain ⟨xy, yy, zy, vy⟩ := By.facts
                    obtain ⟨xz, yz, zz, vz⟩ := Bz.facts
                    go_wp2_with fail
                    refine (v2 _).mono ?_
                    rintro e w13 ⟨rfl, hb⟩
                    clear xa ya za va xb yb zb vb xc yc zc vc xp yp zp vp xq yq zq vq xt yt zt vt xx yx zx vx xy yy zy vy xz yz zz vz
                    replace Ba := Ba.ext hb rfl
                    replace Bb := Bb.ext hb rfl
                    replace Bc := Bc.ext hb rfl
                    replace Bp := Bp.ext hb rfl
                    replace Bq := Bq.ext hb rfl
                    replace Bt := Bt.ext hb rfl
                    replace Bx := Bx.ext hb rfl
                    replace By := By.ext hb rfl
                    replace Bz := Bz.ext hb rfl
                    replace hw := hw.trans (hb.mono hw.size)
                    clear hb
                    obtain ⟨xa, ya, za, va⟩ := Ba.facts
                    obtain ⟨xb, yb, zb, vb⟩ := Bb.facts
                    obtain ⟨xc, yc, zc, vc⟩ := Bc.facts
                    obtain ⟨xp, yp, zp, vp⟩ := Bp.facts
                    obtain ⟨xq, yq, zq, vq⟩ := Bq.facts
                    obtain ⟨xt, yt, zt, vt⟩ := Bt.facts
                    obtain ⟨xx, yx, zx, vx⟩ := Bx.facts
                    obtain ⟨xy, yy, zy, vy⟩ := By.facts
                    obtain ⟨xz, yz, zz, vz⟩ := Bz.facts
                    go_wp2_with fail
                    refine (a3 _).mono ?_
                    rintro e w14 ⟨rfl, hb⟩
                    clear xa ya za va xb yb zb vb xc yc zc vc xp yp zp vp xq yq zq vq xt yt zt vt xx yx zx vx xy yy zy vy xz yz zz vz
                    replace Ba := Ba.ext hb rfl
                    replace Bb := Bb.ext hb rfl
                    replace Bc := Bc.ext hb rfl
                    replace Bp := Bp.ext hb rfl
                    replace Bq := Bq.ext hb rfl
                    replace Bt := Bt.ext hb rfl
                    replace Bx := Bx.ext hb rfl
                    replace By := By.ext hb rfl
                    replace Bz := Bz.ext hb rfl
                    replace hw := hw.trans (hb.mono hw.size)
                    clear hb
                    obtain ⟨xa, ya, za, va⟩ := Ba.facts
                    obtain ⟨xb, yb, zb, vb⟩ := Bb.facts
                    obtain ⟨xc, yc, zc, vc⟩ := Bc.facts
                    obtain ⟨xp, yp, zp, vp⟩ := Bp.facts
                    obtain ⟨xq, yq, zq, vq⟩ := Bq.facts
                    obtain ⟨xt, yt, zt, vt⟩ := Bt.facts
                    obtain ⟨xx, yx, zx, vx⟩ := Bx.facts
                    obtain ⟨xy, yy, zy, vy⟩ := By.facts
                    obtain ⟨xz, yz, zz, vz⟩ := Bz.facts
                    go_wp2_with fail
                    refine (awake4_any _).mono ?_
                    rintro e w15 ⟨rfl, hb⟩
                    clear xa ya za va xb yb zb vb xc yc zc vc xp yp zp vp xq yq zq vq xt yt zt vt xx yx zx vx xy yy zy vy xz yz zz vz
                    replace Ba := Ba.ext hb rfl
                    replace Bb := Bb.ext hb rfl
                    replace Bc := Bc.ext hb rfl
                    replace Bp := Bp.ext hb rfl
                    replace Bq := Bq.ext hb rfl
                    replace Bt := Bt.ext hb rfl
                    replace Bx := Bx.ext hb rfl
                    replace By := By.ext hb rfl
                    replace Bz := Bz.ext hb rfl
                    replace hw := hw.trans (hb.mono hw.size)
                    clear hb
                    go_wp2
                    go_ret
                    exact ⟨rfl, hw⟩
                · rw [hi] at i1
                  rw [hq] at v2
                  as_aux_lemma =>
                    refine (v1 _).mono ?_
                    rintro e w10 ⟨rfl, hb⟩
                    replace Ba := Ba.ext hb rfl
                    replace Bb := Bb.ext hb rfl
                    replace Bc := Bc.ext hb rfl
                    replace Bp := Bp.ext hb rfl
                    replace Bq := Bq.ext hb rfl
                    replace Bt := Bt.ext hb rfl
                    replace Bx := Bx.ext hb rfl
                    replace By := By.ext hb rfl
                    replace Bz := Bz.ext hb rfl
                    replace hw := hw.trans (hb.mono hw.size)
                    clear hb
                    obtain ⟨xa, ya, za, va⟩ := Ba.facts
                    obtain ⟨xb, yb, zb, vb⟩ := Bb.facts
                    obtain ⟨xc, yc, zc, vc⟩ := Bc.facts
                    obtain ⟨xp, yp, zp, vp⟩ := Bp.facts
                    obtain ⟨xq, yq, zq, vq⟩ := Bq.facts
                    obtain ⟨xt, yt, zt, vt⟩ := Bt.facts
                    obtain ⟨xx, yx, zx, vx⟩ := Bx.facts
                    obtain ⟨xy, yy, zy, vy⟩ := By.facts
                    obtain ⟨xz, yz, zz, vz⟩ := Bz.facts
                    go_wp2_with fail
                    refine (o1 _).mono ?_
                    rintro e w11 ⟨rfl, hb⟩
                    clear xa ya za va xb yb zb vb xc yc zc vc xp yp zp vp xq yq zq vq xt yt zt vt xx yx zx vx xy yy zy vy xz yz zz vz
                    replace Ba := Ba.ext hb rfl
                    replace Bb := Bb.ext hb rfl
                    replace Bc := Bc.ext hb rfl
                    replace Bp := Bp.ext hb rfl
                    replace Bq := Bq.ext hb rfl
                    replace Bt := Bt.ext hb rfl
                    replace Bx := Bx.ext hb rfl
                    replace By := By.ext hb rfl
                    replace Bz := Bz.ext hb rfl
                    replace hw := hw.trans (hb.mono hw.size)
                    clear hb
                    obtain ⟨xa, ya, za, va⟩ := Ba.facts
                    obtain ⟨xb, yb, zb, vb⟩ := Bb.facts
                    obtain ⟨xc, yc, zc, vc⟩ := Bc.facts
                    obtain ⟨xp, yp, zp, vp⟩ := Bp.facts
                    obtain ⟨xq, yq, zq, vq⟩ := Bq.facts
                    obtain ⟨xt, yt, zt, vt⟩ := Bt.facts
                    obtain ⟨xx, yx, zx, vx⟩ := Bx.facts
                    obtain ⟨xy, yy, zy, vy⟩ := By.facts
                    obtain ⟨xz, yz, zz, vz⟩ := Bz.facts
                    go_wp2_with fail
                    refine (i1 _).mono ?_
                    rintro e w12 ⟨rfl, hb⟩
                    clear xa ya za va xb yb zb vb xc yc zc vc xp yp zp vp xq yq zq vq xt yt zt vt xx yx zx vx xy yy zy vy xz yz zz vz
                    replace Ba := Ba.ext hb rfl
                    replace Bb := Bb.ext hb rfl
                    replace Bc := Bc.ext hb rfl
                    replace Bp := Bp.ext hb rfl
                    replace Bq := Bq.ext hb rfl
                    replace Bt := Bt.ext hb rfl
                    replace Bx := Bx.ext hb rfl
                    replace By := By.ext hb rfl
                    replace Bz := Bz.ext hb rfl
                    replace hw := hw.trans (hb.mono hw.size)
                    clear hb
                    obtain ⟨xa, ya, za, va⟩ := Ba.facts
                    obtain ⟨xb, yb, zb, vb⟩ := Bb.facts
                    obtain ⟨xc, yc, zc, vc⟩ := Bc.facts
                    obtain ⟨xp, yp, zp, vp⟩ := Bp.facts
                    obtain ⟨xq, yq, zq, vq⟩ := Bq.facts
                    obtain ⟨xt, yt, zt, vt⟩ := Bt.facts
                    obtain ⟨xx, yx, zx, vx⟩ := Bx.facts
                    obtain ⟨xy, yy, zy, vy⟩ := By.facts
                    obtain ⟨xz, yz, zz, vz⟩ := Bz.facts
                    go_wp2_with fail
                    refine (v2 _).mono ?_
                    rintro e w13 ⟨rfl, hb⟩
                    clear xa ya za va xb yb zb vb xc yc zc vc xp yp zp vp xq yq zq vq xt yt zt vt xx yx zx vx xy yy zy vy xz yz zz vz
                    replace Ba := Ba.ext hb rfl
                    replace Bb := Bb.ext hb rfl
                    replace Bc := Bc.ext hb rfl
                    replace Bp := Bp.ext hb rfl
                    replace Bq := Bq.ext hb rfl
                    replace Bt := Bt.ext hb rfl
                    replace Bx := Bx.ext hb rfl
                    replace By := By.ext hb rfl
                    replace Bz := Bz.ext hb rfl
                    replace hw := hw.trans (hb.mono hw.size)
                    clear hb
                    obtain ⟨xa, ya, za, va⟩ := Ba.facts
                    obtain ⟨xb, yb, zb, vb⟩ := Bb.facts
                    obtain ⟨xc, yc, zc, vc⟩ := Bc.facts
                    obtain ⟨xp, yp, zp, vp⟩ := Bp.facts
                    obtain ⟨xq, yq, zq, vq⟩ := Bq.facts
                    obtain ⟨xt, yt, zt, vt⟩ := Bt.facts
                    obtain ⟨xx, yx, zx, vx⟩ := Bx.facts
                    obtain ⟨xy, yy, zy, vy⟩ := By.facts
                    obtain ⟨xz, yz, zz, vz⟩ := Bz.facts
                    go_wp2_with fail
                    refine (awake4_any _).mono ?_
                    rintro e w14 ⟨rfl, hb⟩
                    clear xa ya za va xb yb zb vb xc yc zc vc xp yp zp vp xq yq zq vq xt yt zt vt xx yx zx vx xy yy zy vy xz yz zz vz
                    replace Ba := Ba.ext hb rfl
                    replace Bb := Bb.ext hb rfl
                    replace Bc := Bc.ext hb rfl
                    replace Bp := Bp.ext hb rfl
                    replace Bq := Bq.ext hb rfl
                    replace Bt := Bt.ext hb rfl
                    replace Bx := Bx.ext hb rfl
                    replace By := By.ext hb rfl
                    replace Bz := Bz.ext hb rfl
                    replace hw := hw.trans (hb.mono hw.size)
                    clear hb
                    go_wp2
                    go_ret
                    exact ⟨rfl, hw⟩
          · cases g2 : (ori X Z p == 1)
            · generalize ori Y X p = m1 at *
              generalize ori X Z p = m2 at *
              cases hi : insP M p
              · rw [hi] at i1
                as_aux_lemma =>
                  refine (v1 _).mono ?_
                  rintro e w10 ⟨rfl, hb⟩
                  replace Ba := Ba.ext hb rfl
                  replace Bb := Bb.ext hb rfl
                  replace Bc := Bc.ext hb rfl
                  replace Bp := Bp.ext hb rfl
                  replace Bq := Bq.ext hb rfl
                  replace Bt := Bt.ext hb rfl
                  replace Bx := Bx.ext hb rfl
                  replace By := By.ext hb rfl
                  replace Bz := Bz.ext hb rfl
                  replace hw := hw.trans (hb.mono hw.size)
                  clear hb
                  obtain ⟨xa, ya, za, va⟩ := Ba.facts
                  obtain ⟨xb, yb, zb, vb⟩ := Bb.facts
                  obtain ⟨xc, yc, zc, vc⟩ := Bc.facts
                  obtain ⟨xp, yp, zp, vp⟩ := Bp.facts
                  obtain ⟨xq, yq, zq, vq⟩ := Bq.facts
                  obtain ⟨xt, yt, zt, vt⟩ := Bt.facts
                  obtain ⟨xx, yx, zx, vx⟩ := Bx.facts
                  obtain ⟨xy, yy, zy, vy⟩ := By.facts
                  obtain ⟨xz, yz, zz, vz⟩ := Bz.facts
                  go_wp2_with fail
                  refine (o1 _).mono ?_
                  rintro e w11 ⟨rfl, hb⟩
                  clear xa ya za va xb yb zb vb xc yc zc vc xp yp zp vp xq yq zq vq xt yt zt vt xx yx zx vx xy yy zy vy xz yz zz vz
                  replace Ba := Ba.ext hb rfl
                  replace Bb := Bb.ext hb rfl
                  replace Bc := Bc.ext hb rfl
                  replace Bp := Bp.ext hb rfl
                  replace Bq := Bq.ext hb rfl
                  replace Bt := Bt.ext hb rfl
                  replace Bx := Bx.ext hb rfl
                  replace By := By.ext hb rfl
                  replace Bz := Bz.ext hb rfl
                  replace hw := hw.trans (hb.mono hw.size)
                  clear hb
                  obtain ⟨xa, ya, za, va⟩ := Ba.facts
                  obtain ⟨xb, yb, zb, vb⟩ := Bb.facts
                  obtain ⟨xc, yc, zc, vc⟩ := Bc.facts
                  obtain ⟨xp, yp, zp, vp⟩ := Bp.facts
                  obtain ⟨xq, yq, zq, vq⟩ := Bq.facts
                  obtain ⟨xt, yt, zt, vt⟩ := Bt.facts
                  obtain ⟨xx, yx, zx, vx⟩ := Bx.facts
                  obtain ⟨xy, yy, zy, vy⟩ := By.facts
                  obtain ⟨xz, yz, zz, vz⟩ := Bz.facts
                  go_wp2_with fail
                  refine (o2 _).mono ?_
                  rintro e w12 ⟨rfl, hb⟩
                  clear xa ya za va xb yb zb vb xc yc zc vc xp yp zp vp xq yq zq vq xt yt zt vt xx yx zx vx xy yy zy vy xz yz zz vz
                  replace Ba := Ba.ext hb rfl
                  replace Bb := Bb.ext hb rfl
                  replace Bc := Bc.ext hb rfl
                  replace Bp := Bp.ext hb rfl
                  replace Bq := Bq.ext hb rfl
                  replace Bt := Bt.ext hb rfl
                  replace Bx := Bx.ext hb rfl
                  replace By := By.ext hb rfl
                  replace Bz := Bz.ext hb rfl
                  replace hw := hw.trans (hb.mono hw.size)
                  clear hb
                  obtain ⟨xa, ya, za, va⟩ := Ba.facts
                  obtain ⟨xb, yb, zb, vb⟩ := Bb.facts
                  obtain ⟨xc, yc, zc, vc⟩ := Bc.facts
                  obtain ⟨xp, yp, zp, vp⟩ := Bp.facts
                  obtain ⟨xq, yq, zq, vq⟩ := Bq.facts
                  obtain ⟨xt, yt, zt, vt⟩ := Bt.facts
                  obtain ⟨xx, yx, zx, vx⟩ := Bx.facts
                  obtain ⟨xy, yy, zy, vy⟩ := By.facts
                  obtain ⟨xz, yz, zz, vz⟩ := Bz.facts
                  go_wp2_with fail
                  refine (i1 _).mono ?_
                  rintro e w13 ⟨rfl, hb⟩
                  clear xa ya za va xb yb zb vb xc yc zc vc xp yp zp vp xq yq zq vq xt yt zt vt xx yx zx vx xy yy zy vy xz yz zz vz
                  replace Ba := Ba.ext hb rfl
                  replace Bb := Bb.ext hb rfl
                  replace Bc := Bc.ext hb rfl
                  replace Bp := Bp.ext hb rfl
                  replace Bq := Bq.ext hb rfl
                  replace Bt := Bt.ext hb rfl
                  replace Bx := Bx.ext hb rfl
                  replace By := By.ext hb rfl
                  replace Bz := Bz.ext hb rfl
                  replace hw := hw.trans (hb.mono hw.size)
                  clear hb
                  obtain ⟨xa, ya, za, va⟩ := Ba.facts
                  obtain ⟨xb, yb, zb, vb⟩ := Bb.facts
                  obtain ⟨xc, yc, zc, vc⟩ := Bc.facts
                  obtain ⟨xp, yp, zp, vp⟩ := Bp.facts
                  obtain ⟨xq, yq, zq, vq⟩ := Bq.facts
                  obtain ⟨xt, yt, zt, vt⟩ := Bt.facts
                  obtain ⟨xx, yx, zx, vx⟩ := Bx.facts
                  obtain ⟨xy, yy, zy, vy⟩ := By.facts
                  obtain ⟨xz, yz, zz, vz⟩ := Bz.facts
                  go_wp2_with fail
                  refine (awake4_any _).mono ?_
                  rintro e w14 ⟨rfl, hb⟩
                  clear xa ya za va xb yb zb vb xc yc zc vc xp yp zp vp xq yq zq vq xt yt zt vt xx yx zx vx xy yy zy vy xz yz zz vz
                  replace Ba := Ba.ext hb rfl
                  replace Bb := Bb.ext hb rfl
                  replace Bc := Bc.ext hb rfl
                  replace Bp := Bp.ext hb rfl
                  replace Bq := Bq.ext hb rfl
                  replace Bt := Bt.ext hb rfl
                  replace Bx := Bx.ext hb rfl
                  replace By := By.ext hb rfl
                  replace Bz := Bz.ext hb rfl
                  replace hw := hw.trans (hb.mono hw.size)
                  clear hb
                  go_wp2
                  go_ret
                  exact ⟨rfl, hw⟩
              · cases hq : vld q
                · rw [hi] at i1
                  rw [hq] at v2
                  as_aux_lemma =>
                    refine (v1 _).mono ?_
                    rintro e w10 ⟨rfl, hb⟩
                    replace Ba := Ba.ext hb rfl
                    replace Bb := Bb.ext hb rfl
                    replace Bc := Bc.ext hb rfl
                    replace Bp := Bp.ext hb rfl
                    replace Bq := Bq.ext hb rfl
                    replace Bt := Bt.ext hb rfl
                    replace Bx := Bx.ext hb rfl
                    replace By := By.ext hb rfl
                    replace Bz := Bz.ext hb rfl
                    replace hw := hw.trans (hb.mono hw.size)
                    clear hb
                    obtain ⟨xa, ya, za, va⟩ := Ba.facts
                    obtain ⟨xb, yb, zb, vb⟩ := Bb.facts
                    obtain ⟨xc, yc, zc, vc⟩ := Bc.facts
                    obtain ⟨xp, yp, zp, vp⟩ := Bp.facts
                    obtain ⟨xq, yq, zq, vq⟩ := Bq.facts
                    obtain ⟨xt, yt, zt, vt⟩ := Bt.facts
                    obtain ⟨xx, yx, zx, vx⟩ := Bx.facts
                    obtain ⟨xy, yy, zy, vy⟩ := By.facts
                    obtain ⟨xz, yz, zz, vz⟩ := Bz.facts
                    go_wp2_with fail
                    refine (o1 _).mono ?_
                    rintro e w11 ⟨rfl, hb⟩
                    clear xa ya za va xb yb zb vb xc yc zc vc xp yp zp vp xq yq zq vq xt yt zt vt xx yx zx vx xy yy zy vy xz yz zz vz
                    replace Ba := Ba.ext hb rfl
                    replace Bb := Bb.ext hb rfl
                    replace Bc := Bc.ext hb rfl
                    replace Bp := Bp.ext hb rfl
                    replace Bq := Bq.ext hb rfl
                    replace Bt := Bt.ext hb rfl
                    replace Bx := Bx.ext hb rfl
                    replace By := By.ext hb rfl
                    replace Bz := Bz.ext hb rfl
                    replace hw := hw.trans (hb.mono hw.size)
                    clear hb
                    obtain ⟨xa, ya, za, va⟩ := Ba.facts
                    obtain ⟨xb, yb, zb, vb⟩ := Bb.facts
                    obtain ⟨xc, yc, zc, vc⟩ := Bc.facts
                    obtain ⟨xp, yp, zp, vp⟩ := Bp.facts
                    obtain ⟨xq, yq, zq, vq⟩ := Bq.facts
                    obtain ⟨xt, yt, zt, vt⟩ := Bt.facts
                    obtain ⟨xx, yx, zx, vx⟩ := Bx.facts
                    obtain ⟨xy, yy, zy, vy⟩ := By.facts
                    obtain ⟨xz, yz, zz, vz⟩ := Bz.facts
                    go_wp2_with fail
                    refine (o2 _).mono ?_
                    rintro e w12 ⟨rfl, hb⟩
                    clear xa ya za va xb yb zb vb xc yc zc vc xp yp zp vp xq yq zq vq xt yt zt vt xx yx zx vx xy yy zy vy xz yz zz vz
                    replace Ba := Ba.ext hb rfl
                    replace Bb := Bb.ext hb rfl
                    replace Bc := Bc.ext hb rfl
                    replace Bp := Bp.ext hb rfl
                    replace Bq := Bq.ext hb rfl
                    replace Bt := Bt.ext hb rfl
                    replace Bx := Bx.ext hb rfl
                    replace By := By.ext hb rfl
                    replace Bz := Bz.ext hb rfl
                    replace hw := hw.trans (hb.mono hw.size)
                    clear hb
                    obtain ⟨xa, ya, za, va⟩ := Ba.facts
                    obtain ⟨xb, yb, zb, vb⟩ := Bb.facts
                    obtain ⟨xc, yc, zc, vc⟩ := Bc.facts
                    obtain ⟨xp, yp, zp, vp⟩ := Bp.facts
                    obtain ⟨xq, yq, zq, vq⟩ := Bq.facts
                    obtain ⟨xt, yt, zt, vt⟩ := Bt.facts
                    obtain ⟨xx, yx, zx, vx⟩ := Bx.facts
                    obtain ⟨xy, yy, zy, vy⟩ := By.facts
                    obtain ⟨xz, yz, zz, vz⟩ := Bz.facts
                    go_wp2_with fail
                    refine (i1 _).mono ?_
                    rintro e w13 ⟨rfl, hb⟩
                    clear xa ya za va xb yb zb vb xc yc zc vc xp yp zp vp xq yq zq vq xt yt zt vt xx yx zx vx xy yy zy vy xz yz zz vz
                    replace Ba := Ba.ext hb rfl
                    replace Bb := Bb.ext hb rfl
                    replace Bc := Bc.ext hb rfl
                    replace Bp := Bp.ext hb rfl
                    replace Bq := Bq.ext hb rfl
                    replace Bt := Bt.ext hb rfl
                    replace Bx := Bx.ext hb rfl
                    replace By := By.ext hb rfl
                    replace Bz := Bz.ext hb rfl
                    replace hw := hw.trans (hb.mono hw.size)
                    clear hb
                    obtain ⟨xa, ya, za, va⟩ := Ba.facts
                    obtain ⟨xb, yb, zb, vb⟩ := Bb.facts
                    obtain ⟨xc, yc, zc, vc⟩ := Bc.facts
                    obtain ⟨xp, yp, zp, vp⟩ := Bp.facts
                    obtain ⟨xq, yq, zq, vq⟩ := Bq.facts
                    obtain ⟨xt, yt, zt, vt⟩ := Bt.facts
                    obtain ⟨xx, yx, zx, vx⟩ := Bx.facts
                    obtain ⟨xy, yy, zy, vy⟩ := By.facts
                    obtain ⟨xz, yz, zz, vz⟩ := Bz.facts
                    go_wp2_with fail
                    refine (v2 _).mono ?_
                    rintro e w14 ⟨rfl, hb⟩
                    clear xa ya za va xb yb zb vb xc yc zc vc xp yp zp vp xq yq zq vq xt yt zt vt xx yx zx vx xy yy zy vy xz yz zz vz
                    replace Ba := Ba.ext hb rfl
                    replace Bb := Bb.ext hb rfl
                    replace Bc := Bc.ext hb rfl
                    replace Bp := Bp.ext hb rfl
                    replace Bq := Bq.ext hb rfl
                    replace Bt := Bt.ext hb rfl
                    replace Bx := Bx.ext hb rfl
                    replace By := By.ext hb rfl
                    replace Bz := Bz.ext hb rfl
                    replace hw := hw.trans (hb.mono hw.size)
                    clear hb
                    obtain ⟨xa, ya, za, va⟩ := Ba.facts
                    obtain ⟨xb, yb, zb, vb⟩ := Bb.facts
                    obtain ⟨xc, yc, zc, vc⟩ := Bc.facts
                    obtain ⟨xp, yp, zp, vp⟩ := Bp.facts
                    obtain ⟨xq, yq, zq, vq⟩ := Bq.facts
                    obtain ⟨xt, yt, zt, vt⟩ := Bt.facts
                    obtain ⟨xx, yx, zx, vx⟩ := Bx.facts
                    obtain ⟨xy, yy, zy, vy⟩ := By.facts
                    obtain ⟨xz, yz, zz, vz⟩ := Bz.facts
                    go_wp2_with fail
                    refine (awake4_any _).mono ?_
                    rintro e w15 ⟨rfl, hb⟩
                    clear xa ya za va xb yb zb vb xc yc zc vc xp yp zp vp xq yq zq vq xt yt zt vt xx yx zx vx xy yy zy vy xz yz zz vz
                    replace Ba := Ba.ext hb rfl
                    replace Bb := Bb.ext hb rfl
                    replace Bc := Bc.ext hb rfl
                    replace Bp := Bp.ext hb rfl
                    replace Bq := Bq.ext hb rfl
                    replace Bt := Bt.ext hb rfl
                    replace Bx := Bx.ext hb rfl
                    replace By := By.ext hb rfl
                    replace Bz := Bz.ext hb rfl
                    replace hw := hw.trans (hb.mono hw.size)
                    clear hb
                    go_wp2
                    go_ret
                    exact ⟨rfl, hw⟩
                · cases hz : peqI p.x p.y q.x q.y
                  · have e := F4.out hi hv hq (peqI_ne.1 hz)
                    rw [hi] at i1
                    rw [hq] at v2
                    rw [e] at a3
                    clear e
                    as_aux_lemma =>
                      refine (v1 _).mono ?_
                      rintro e w10 ⟨rfl, hb⟩
                      replace Ba := Ba.ext hb rfl
                      replace Bb := Bb.ext hb rfl
                      replace Bc := Bc.ext hb rfl
                      replace Bp := Bp.ext hb rfl
                      replace Bq := Bq.ext hb rfl
                      replace Bt := Bt.ext hb rfl
                      replace Bx := Bx.ext hb rfl
                      replace By := By.ext hb rfl
                      replace Bz := Bz.ext hb rfl
                      replace hw := hw.trans (hb.mono hw.size)
                      clear hb
                      obtain ⟨xa, ya, za, va⟩ := Ba.facts
                      obtain ⟨xb, yb, zb, vb⟩ := Bb.facts
                      obtain ⟨xc, yc, zc, vc⟩ := Bc.facts
                      obtain ⟨xp, yp, zp, vp⟩ := Bp.facts
                      obtain ⟨xq, yq, zq, vq⟩ := Bq.facts
                      obtain ⟨xt, yt, zt, vt⟩ := Bt.facts
                      obtain ⟨xx, yx, zx, vx⟩ := Bx.facts
                      obtain ⟨xy, yy, zy, vy⟩ := By.facts
                      obtain ⟨xz, yz, zz, vz⟩ := Bz.facts
                      go_wp2_with fail
                      refine (o1 _).mono ?_
                      rintro e w11 ⟨rfl, hb⟩
                      clear xa ya za va xb yb zb vb xc yc zc vc xp yp zp vp xq yq zq vq xt yt zt vt xx yx zx vx xy yy zy vy xz yz zz vz
                      replace Ba := Ba.ext hb rfl
                      replace Bb := Bb.ext hb rfl
                      replace Bc := Bc.ext hb rfl
                      replace Bp := Bp.ext hb rfl
                      replace Bq := Bq.ext hb rfl
                      replace Bt := Bt.ext hb rfl
                      replace Bx := Bx.ext hb rfl
                      replace By := By.ext hb rfl
                      replace Bz := Bz.ext hb rfl
                      replace hw := hw.trans (hb.mono hw.size)
                      clear hb
                      obtain ⟨xa, ya, za, va⟩ := Ba.facts
                      obtain ⟨xb, yb, zb, vb⟩ := Bb.facts
                      obtain ⟨xc, yc, zc, vc⟩ := Bc.facts
                      obtain ⟨xp, yp, zp, vp⟩ := Bp.facts
                      obtain ⟨xq, yq, zq, vq⟩ := Bq.facts
                      obtain ⟨xt, yt, zt, vt⟩ := Bt.facts
                      obtain ⟨xx, yx, zx, vx⟩ := Bx.facts
                      obtain ⟨xy, yy, zy, vy⟩ := By.facts
                      obtain ⟨xz, yz, zz, vz⟩ := Bz.facts
                      go_wp2_with fail
                      refine (o2 _).mono ?_
                      rintro e w12 ⟨rfl, hb⟩
                      clear xa ya za va xb yb zb vb xc yc zc vc xp yp zp vp xq yq zq vq xt yt zt vt xx yx zx vx xy yy zy vy xz yz zz vz
                      replace Ba := Ba.ext hb rfl
                      replace Bb := Bb.ext hb rfl
                      replace Bc := Bc.ext hb rfl
                      replace Bp := Bp.ext hb rfl
                      replace Bq := Bq.ext hb rfl
                      replace Bt := Bt.ext hb rfl
                      replace Bx := Bx.ext hb rfl
                      replace By := By.ext hb rfl
                      replace Bz := Bz.ext hb rfl
                      replace hw := hw.trans (hb.mono hw.size)
                      clear hb
                      obtain ⟨xa, ya, za, va⟩ := Ba.facts
                      obtain ⟨xb, yb, zb, vb⟩ := Bb.facts
                      obtain ⟨xc, yc, zc, vc⟩ := Bc.facts
                      obtain ⟨xp, yp, zp, vp⟩ := Bp.facts
                      obtain ⟨xq, yq, zq, vq⟩ := Bq.facts
                      obtain ⟨xt, yt, zt, vt⟩ := Bt.facts
                      obtain ⟨xx, yx, zx, vx⟩ := Bx.facts
                      obtain ⟨xy, yy, zy, vy⟩ := By.facts
                      obtain ⟨xz, yz, zz, vz⟩ := Bz.facts
                      go_wp2_with fail
                      refine (i1 _).mono ?_
                      rintro e w13 ⟨rfl, hb⟩
                      clear xa ya za va xb yb zb vb xc yc zc vc xp yp zp vp xq yq zq vq xt yt zt vt xx yx zx vx xy yy zy vy xz yz zz vz
                      replace Ba := Ba.ext hb rfl
                      replace Bb := Bb.ext hb rfl
                      replace Bc := Bc.ext hb rfl
                      replace Bp := Bp.ext hb rfl
                      replace Bq := Bq.ext hb rfl
                      replace Bt := Bt.ext hb rfl
                      replace Bx := Bx.ext hb rfl
                      replace By := By.ext hb rfl
                      replace Bz := Bz.ext hb rfl
                      replace hw := hw.trans (hb.mono hw.size)
                      clear hb
                      obtain ⟨xa, ya, za, va⟩ := Ba.facts
                      obtain ⟨xb, yb, zb, vb⟩ := Bb.facts
                      obtain ⟨xc, yc, zc, vc⟩ := Bc.facts
                      obtain ⟨xp, yp, zp, vp⟩ := Bp.facts
                      obtain ⟨xq, yq, zq, vq⟩ := Bq.facts
                      obtain ⟨xt, yt, zt, vt⟩ := Bt.facts
                      obtain ⟨xx, yx, zx, vx⟩ := Bx.facts
                      obtain ⟨xy, yy, zy, vy⟩ := By.facts
                      obtain ⟨xz, yz, zz, vz⟩ := Bz.facts
                      go_wp2_with fail
                      refine (v2 _).mono ?_
                      rintro e w14 ⟨rfl, hb⟩
                      clear xa ya za va xb yb zb vb xc yc zc vc xp yp zp vp xq yq zq vq xt yt zt vt xx yx zx vx xy yy zy vy xz yz zz vz
                      replace Ba := Ba.ext hb rfl
                      replace Bb := Bb.ext hb rfl
                      replace Bc := Bc.ext hb rfl
                      replace Bp := Bp.ext hb rfl
                      replace Bq := Bq.ext hb rfl
                      replace Bt := Bt.ext hb rfl
                      replace Bx := Bx.ext hb rfl
                      replace By := By.ext hb rfl
                      replace Bz := Bz.ext hb rfl
                      replace hw := hw.trans (hb.mono hw.size)
                      clear hb
                      obtain ⟨xa, ya, za, va⟩ := Ba.facts
                      obtain ⟨xb, yb, zb, vb⟩ := Bb.facts
                      obtain ⟨xc, yc, zc, vc⟩ := Bc.facts
                      obtain ⟨xp, yp, zp, vp⟩ := Bp.facts
                      obtain ⟨xq, yq, zq, vq⟩ := Bq.facts
                      obtain ⟨xt, yt, zt, vt⟩ := Bt.facts
                      obtain ⟨xx, yx, zx, vx⟩ := Bx.facts
                      obtain ⟨xy, yy, zy, vy⟩ := By.facts
                      obtain ⟨xz, yz, zz, vz⟩ := Bz.facts
                      go_wp2_with fail
                      refine (a3 _).mono ?_
                      rintro e w15 ⟨rfl, hb⟩
                      clear xa ya za va xb yb zb vb xc yc zc vc xp yp zp vp xq yq zq vq xt yt zt vt xx yx zx vx xy yy zy vy xz yz zz vz
                      replace Ba := Ba.ext hb rfl
                      replace Bb := Bb.ext hb rfl
                      replace Bc := Bc.ext hb rfl
                      replace Bp := Bp.ext hb rfl
                      replace Bq := Bq.ext hb rfl
                      replace Bt := Bt.ext hb rfl
                      replace Bx := Bx.ext hb rfl
                      replace By := By.ext hb rfl
                      replace Bz := Bz.ext hb rfl
                      replace hw := hw.trans (hb.mono hw.size)
                      clear hb
                      obtain ⟨xa, ya, za, va⟩ := Ba.facts
                      obtain ⟨xb, yb, zb, vb⟩ := Bb.facts
                      obtain ⟨xc, yc, zc, vc⟩ := Bc.facts
                      obtain ⟨xp, yp, zp, vp⟩ := Bp.facts
                      obtain ⟨xq, yq, zq, vq⟩ := Bq.facts
                      obtain ⟨xt, yt, zt, vt⟩ := Bt.facts
                      obtain ⟨xx, yx, zx, vx⟩ := Bx.facts
                      obtain ⟨xy, yy, zy, vy⟩ := By.facts
                      obtain ⟨xz, yz, zz, vz⟩ := Bz.facts
                      go_wp2_with fail
                      refine (awake4_any _).mono ?_
                      rintro e w16 ⟨rfl, hb⟩
                      clear xa ya za va xb yb zb vb xc yc zc vc xp yp zp vp xq yq zq vq xt yt zt vt xx yx zx vx xy yy zy vy xz yz zz vz
                      replace Ba := Ba.ext hb rfl
                      replace Bb := Bb.ext hb rfl
                      replace Bc := Bc.ext hb rfl
                      replace Bp := Bp.ext hb rfl
                      replace Bq := Bq.ext hb rfl
                      replace Bt := Bt.ext hb rfl
                      replace Bx := Bx.ext hb rfl
                      replace By := By.ext hb rfl
                      replace Bz := Bz.ext hb rfl
                      replace hw := hw.trans (hb.mono hw.size)
                      clear hb
                      go_wp2
                      go_ret
                      exact ⟨rfl, hw⟩
                  · rw [hi] at i1
                    rw [hq] at v2
                    as_aux_lemma =>
                      refine (v1 _).mono ?_
                      rintro e w10 ⟨rfl, hb⟩
                      replace Ba := Ba.ext hb rfl
                      replace Bb := Bb.ext hb rfl
                      replace Bc := Bc.ext hb rfl
                      replace Bp := Bp.ext hb rfl
                      replace Bq := Bq.ext hb rfl
                      replace Bt := Bt.ext hb rfl
                      replace Bx := Bx.ext hb rfl
                      replace By := By.ext hb rfl
                      replace Bz := Bz.ext hb rfl
                      replace hw := hw.trans (hb.mono hw.size)
                      clear hb
                      obtain ⟨xa, ya, za, va⟩ := Ba.facts
                      obtain ⟨xb, yb, zb, vb⟩ := Bb.facts
                      obtain ⟨xc, yc, zc, vc⟩ := Bc.facts
                      obtain ⟨xp, yp, zp, vp⟩ := Bp.facts
                      obtain ⟨xq, yq, zq, vq⟩ := Bq.facts
                      obtain ⟨xt, yt, zt, vt⟩ := Bt.facts
                      obtain ⟨xx, yx, zx, vx⟩ := Bx.facts
                      obtain ⟨xy, yy, zy, vy⟩ := By.facts
                      obtain ⟨xz, yz, zz, vz⟩ := Bz.facts
                      go_wp2_with fail
                      refine (o1 _).mono ?_
                      rintro e w11 ⟨rfl, hb⟩
                      clear xa ya za va xb yb zb vb xc yc zc vc xp yp zp vp xq yq zq vq xt yt zt vt xx yx zx vx xy yy zy vy xz yz zz vz
                      replace Ba := Ba.ext hb rfl
                      replace Bb := Bb.ext hb rfl
                      replace Bc := Bc.ext hb rfl
                      replace Bp := Bp.ext hb rfl
                      replace Bq := Bq.ext hb rfl
                      replace Bt := Bt.ext hb rfl
                      replace Bx := Bx.ext hb rfl
                      replace By := By.ext hb rfl
                      replace Bz := Bz.ext hb rfl
                      replace hw := hw.trans (hb.mono hw.size)
                      clear hb
                      obtain ⟨xa, ya, za, va⟩ := Ba.facts
                      obtain ⟨xb, yb, zb, vb⟩ := Bb.facts
                      obtain ⟨xc, yc, zc, vc⟩ := Bc.facts
                      obtain ⟨xp, yp, zp, vp⟩ := Bp.facts
                      obtain ⟨xq, yq, zq, vq⟩ := Bq.facts
                      obtain ⟨xt, yt, zt, vt⟩ := Bt.facts
                      obtain ⟨xx, yx, zx, vx⟩ := Bx.facts
                      obtain ⟨xy, yy, zy, vy⟩ := By.facts
                      obtain ⟨xz, yz, zz, vz⟩ := Bz.facts
                      go_wp2_with fail
                      refine (o2 _).mono ?_
                      rintro e w12 ⟨rfl, hb⟩
                      clear xa ya za va xb yb zb vb xc yc zc vc xp yp zp vp xq yq zq vq xt yt zt vt xx yx zx vx xy yy zy vy xz yz zz vz
                      replace Ba := Ba.ext hb rfl
                      replace Bb := Bb.ext hb rfl
                      replace Bc := Bc.ext hb rfl
                      replace Bp := Bp.ext hb rfl
                      replace Bq := Bq.ext hb rfl
                      replace Bt := Bt.ext hb rfl
                      replace Bx := Bx.ext hb rfl
                      replace By := By.ext hb rfl
                      replace Bz := Bz.ext hb rfl
                      replace hw := hw.trans (hb.mono hw.size)
                      clear hb
                      obtain ⟨xa, ya, za, va⟩ := Ba.facts
                      obtain ⟨xb, yb, zb, vb⟩ := Bb.facts
                      obtain ⟨xc, yc, zc, vc⟩ := Bc.facts
                      obtain ⟨xp, yp, zp, vp⟩ := Bp.facts
                      obtain ⟨xq, yq, zq, vq⟩ := Bq.facts
                      obtain ⟨xt, yt, zt, vt⟩ := Bt.facts
                      obtain ⟨xx, yx, zx, vx⟩ := Bx.facts
                      obtain ⟨xy, yy, zy, vy⟩ := By.facts
                      obtain ⟨xz, yz, zz, vz⟩ := Bz.facts
                      go_wp2_with fail
                      refine (i1 _).mono ?_
                      rintro e w13 ⟨rfl, hb⟩
                      clear xa ya za va xb yb zb vb xc yc zc vc xp yp zp vp xq yq zq vq xt yt zt vt xx yx zx vx xy yy zy vy xz yz zz vz
                      replace Ba := Ba.ext hb rfl
                      replace Bb := Bb.ext hb rfl
                      replace Bc := Bc.ext hb rfl
                      replace Bp := Bp.ext hb rfl
                      replace Bq := Bq.ext hb rfl
                      replace Bt := Bt.ext hb rfl
                      replace Bx := Bx.ext hb rfl
                      replace By := By.ext hb rfl
                      replace Bz := Bz.ext hb rfl
                      replace hw := hw.trans (hb.mono hw.size)
                      clear hb
                      obtain ⟨xa, ya, za, va⟩ := Ba.facts
                      obtain ⟨xb, yb, zb, vb⟩ := Bb.facts
                      obtain ⟨xc, yc, zc, vc⟩ := Bc.facts
                      obtain ⟨xp, yp, zp, vp⟩ := Bp.facts
                      obtain ⟨xq, yq, zq, vq⟩ := Bq.facts
                      obtain ⟨xt, yt, zt, vt⟩ := Bt.facts
                      obtain ⟨xx, yx, zx, vx⟩ := Bx.facts
                      obtain ⟨xy, yy, zy, vy⟩ := By.facts
                      obtain ⟨xz, yz, zz, vz⟩ := Bz.facts
                      go_wp2_with fail
                      refine (v2 _).mono ?_
                      rintro e w14 ⟨rfl, hb⟩
                      clear xa ya za va xb yb zb vb xc yc zc vc xp yp zp vp xq yq zq vq xt yt zt vt xx yx zx vx xy yy zy vy xz yz zz vz
                      replace Ba := Ba.ext hb rfl
                      replace Bb := Bb.ext hb rfl
                      replace Bc := Bc.ext hb rfl
                      replace Bp := Bp.ext hb rfl
                      replace Bq := Bq.ext hb rfl
                      replace Bt := Bt.ext hb rfl
                      replace Bx := Bx.ext hb rfl
                      replace By := By.ext hb rfl
                      replace Bz := Bz.ext hb rfl
                      replace hw := hw.trans (hb.mono hw.size)
                      clear hb
                      obtain ⟨xa, ya, za, va⟩ := Ba.facts
                      obtain ⟨xb, yb, zb, vb⟩ := Bb.facts
                      obtain ⟨xc, yc, zc, vc⟩ := Bc.facts
                      obtain ⟨xp, yp, zp, vp⟩ := Bp.facts
                      obtain ⟨xq, yq, zq, vq⟩ := Bq.facts
                      obtain ⟨xt, yt, zt, vt⟩ := Bt.facts
                      obtain ⟨xx, yx, zx, vx⟩ := Bx.facts
                      obtain ⟨xy, yy, zy, vy⟩ := By.facts
                      obtain ⟨xz, yz, zz, vz⟩ := Bz.facts
                      go_wp2_with fail
                      refine (awake4_any _).mono ?_
                      rintro e w15 ⟨rfl, hb⟩
                      clear xa ya za va xb yb zb vb xc yc zc vc xp yp zp vp xq yq zq vq xt yt zt vt xx yx zx vx xy yy zy vy xz yz zz vz
                      replace Ba := Ba.ext hb rfl
                      replace Bb := Bb.ext hb rfl
                      replace Bc := Bc.ext hb rfl
                      replace Bp := Bp.ext hb rfl
                      replace Bq := Bq.ext hb rfl
                      replace Bt := Bt.ext hb rfl
                      replace Bx := Bx.ext hb rfl
                      replace By := By.ext hb rfl
                      replace Bz := Bz.ext hb rfl
                      replace hw := hw.trans (hb.mono hw.size)
                      clear hb
                      go_wp2
                      go_ret
                      exact ⟨rfl, hw⟩
            · have e := F3.out hv (peqI_ne.1 hx) (by simpa using g1) (by simpa using g2)
              rw [e] at a5
              clear e
              generalize ori Y X p = m1 at *
              generalize ori X Z p = m2 at *
              cases hi : insP M p
              · rw [hi] at i1
                as_aux_lemma =>
                  refine (v1 _).mono ?_
                  rintro e w10 ⟨rfl, hb⟩
                  replace Ba := Ba.ext hb rfl
                  replace Bb := Bb.ext hb rfl
                  replace Bc := Bc.ext hb rfl
                  replace Bp := Bp.ext hb rfl
                  replace Bq := Bq.ext hb rfl
                  replace Bt := Bt.ext hb rfl
                  replace Bx := Bx.ext hb rfl
                  replace By := By.ext hb rfl
                  replace Bz := Bz.ext hb rfl
                  replace hw := hw.trans (hb.mono hw.size)
                  clear hb
                  obtain ⟨xa, ya, za, va⟩ := Ba.facts
                  obtain ⟨xb, yb, zb, vb⟩ := Bb.facts
                  obtain ⟨xc, yc, zc, vc⟩ := Bc.facts
                  obtain ⟨xp, yp, zp, vp⟩ := Bp.facts
                  obtain ⟨xq, yq, zq, vq⟩ := Bq.facts
                  obtain ⟨xt, yt, zt, vt⟩ := Bt.facts
                  obtain ⟨xx, yx, zx, vx⟩ := Bx.facts
                  obtain ⟨xy, yy, zy, vy⟩ := By.facts
                  obtain ⟨xz, yz, zz, vz⟩ := Bz.facts
                  go_wp2_with fail
                  refine (o1 _).mono ?_
                  rintro e w11 ⟨rfl, hb⟩
                  clear xa ya za va xb yb zb vb xc yc zc vc xp yp zp vp xq yq zq vq xt yt zt vt xx yx zx vx xy yy zy vy xz yz zz vz
                  replace Ba := Ba.ext hb rfl
                  replace Bb := Bb.ext hb rfl
                  replace Bc := Bc.ext hb rfl
                  replace Bp := Bp.ext hb rfl
                  replace Bq := Bq.ext hb rfl
                  replace Bt := Bt.ext hb rfl
                  replace Bx := Bx.ext hb rfl
                  replace By := By.ext hb rfl
                  replace Bz := Bz.ext hb rfl
                  replace hw := hw.trans (hb.mono hw.size)
                  clear hb
                  obtain ⟨xa, ya, za, va⟩ := Ba.facts
                  obtain ⟨xb, yb, zb, vb⟩ := Bb.facts
                  obtain ⟨xc, yc, zc, vc⟩ := Bc.facts
                  obtain ⟨xp, yp, zp, vp⟩ := Bp.facts
                  obtain ⟨xq, yq, zq, vq⟩ := Bq.facts
                  obtain ⟨xt, yt, zt, vt⟩ := Bt.facts
                  obtain ⟨xx, yx, zx, vx⟩ := Bx.facts
                  obtain ⟨xy, yy, zy, vy⟩ := By.facts
                  obtain ⟨xz, yz, zz, vz⟩ := Bz.facts
                  go_wp2_with fail
                  refine (o2 _).mono ?_
                  rintro e w12 ⟨rfl, hb⟩
                  clear xa ya za va xb yb zb vb xc yc zc vc xp yp zp vp xq yq zq vq xt yt zt vt xx yx zx vx xy yy zy vy xz yz zz vz
                  replace Ba := Ba.ext hb rfl
                  replace Bb := Bb.ext hb rfl
                  replace Bc := Bc.ext hb rfl
                  replace Bp := Bp.ext hb rfl
                  replace Bq := Bq.ext hb rfl
                  replace Bt := Bt.ext hb rfl
                  replace Bx := Bx.ext hb rfl
                  replace By := By.ext hb rfl
                  replace Bz := Bz.ext hb rfl
                  replace hw := hw.trans (hb.mono hw.size)
                  clear hb
                  obtain ⟨xa, ya, za, va⟩ := Ba.facts
                  obtain ⟨xb, yb, zb, vb⟩ := Bb.facts
                  obtain ⟨xc, yc, zc, vc⟩ := Bc.facts
                  obtain ⟨xp, yp, zp, vp⟩ := Bp.facts
                  obtain ⟨xq, yq, zq, vq⟩ := Bq.facts
                  obtain ⟨xt, yt, zt, vt⟩ := Bt.facts
                  obtain ⟨xx, yx, zx, vx⟩ := Bx.facts
                  obtain ⟨xy, yy, zy, vy⟩ := By.facts
                  obtain ⟨xz, yz, zz, vz⟩ := Bz.facts
                  go_wp2_with fail
                  refine (a5 _).mono ?_
                  rintro e w13 ⟨rfl, hb⟩
                  clear xa ya za va xb yb zb vb xc yc zc vc xp yp zp vp xq yq zq vq xt yt zt vt xx yx zx vx xy yy zy vy xz yz zz vz
                  replace Ba := Ba.ext hb rfl
                  replace Bb := Bb.ext hb rfl
                  replace Bc := Bc.ext hb rfl
                  replace Bp := Bp.ext hb rfl
                  replace Bq := Bq.ext hb rfl
                  replace Bt := Bt.ext hb rfl
                  replace Bx := Bx.ext hb rfl
                  replace By := By.ext hb rfl
                  replace Bz := Bz.ext hb rfl
                  replace hw := hw.trans (hb.mono hw.size)
                  clear hb
                  obtain ⟨xa, ya, za, va⟩ := Ba.facts
                  obtain ⟨xb, yb, zb, vb⟩ := Bb.facts
                  obtain ⟨xc, yc, zc, vc⟩ := Bc.facts
                  obtain ⟨xp, yp, zp, vp⟩ := Bp.facts
                  obtain ⟨xq, yq, zq, vq⟩ := Bq.facts
                  obtain ⟨xt, yt, zt, vt⟩ := Bt.facts
                  obtain ⟨xx, yx, zx, vx⟩ := Bx.facts
                  obtain ⟨xy, yy, zy, vy⟩ := By.facts
                  obtain ⟨xz, yz, zz, vz⟩ := Bz.facts
                  go_wp2_with fail
                  refine (i1 _).mono ?_
                  rintro e w14 ⟨rfl, hb⟩
                  clear xa ya za va xb yb zb vb xc yc zc vc xp yp zp vp xq yq zq vq xt yt zt vt xx yx zx vx xy yy zy vy xz yz zz vz
                  replace Ba := Ba.ext hb rfl
                  replace Bb := Bb.ext hb rfl
                  replace Bc := Bc.ext hb rfl
                  replace Bp := Bp.ext hb rfl
                  replace Bq := Bq.ext hb rfl
                  replace Bt := Bt.ext hb rfl
                  replace Bx := Bx.ext hb rfl
                  replace By := By.ext hb rfl
                  replace Bz := Bz.ext hb rfl
                  replace hw := hw.trans (hb.mono hw.size)
                  clear hb
                  obtain ⟨xa, ya, za, va⟩ := Ba.facts
                  obtain ⟨xb, yb, zb, vb⟩ := Bb.facts
                  obtain ⟨xc, yc, zc, vc⟩ := Bc.facts
                  obtain ⟨xp, yp, zp, vp⟩ := Bp.facts
                  obtain ⟨xq, yq, zq, vq⟩ := Bq.facts
                  obtain ⟨xt, yt, zt, vt⟩ := Bt.facts
                  obtain ⟨xx, yx, zx, vx⟩ := Bx.facts
                  obtain ⟨xy, yy, zy, vy⟩ := By.facts
                  obtain ⟨xz, yz, zz, vz⟩ := Bz.facts
                  go_wp2_with fail
                  refine (awake4_any _).mono ?_
                  rintro e w15 ⟨rfl, hb⟩
                  clear xa ya za va xb yb zb vb xc yc zc vc xp yp zp vp xq yq zq vq xt yt zt vt xx yx zx vx xy yy zy vy xz yz zz vz
                  replace Ba := Ba.ext hb rfl
                  replace Bb := Bb.ext hb rfl
                  replace Bc := Bc.ext hb rfl
                  replace Bp := Bp.ext hb rfl
                  replace Bq := Bq.ext hb rfl
                  replace Bt := Bt.ext hb rfl
                  replace Bx := Bx.ext hb rfl
                  replace By := By.ext hb rfl
                  replace Bz := Bz.ext hb rfl
                  replace hw := hw.trans (hb.mono hw.size)
                  clear hb
                  go_wp2
                  go_ret
                  exact ⟨rfl, hw⟩
              · cases hq : vld q
                · rw [hi] at i1
                  rw [hq] at v2
                  as_aux_lemma =>
                    refine (v1 _).mono ?_
                    rintro e w10 ⟨rfl, hb⟩
                    replace Ba := Ba.ext hb rfl
                    replace Bb := Bb.ext hb rfl
                    replace Bc := Bc.ext hb rfl
                    replace Bp := Bp.ext hb rfl
                    replace Bq := Bq.ext hb rfl
                    replace Bt := Bt.ext hb rfl
                    replace Bx := Bx.ext hb rfl
                    replace By := By.ext hb rfl
                    replace Bz := Bz.ext hb rfl
                    replace hw := hw.trans (hb.mono hw.size)
                    clear hb
                    obtain ⟨xa, ya, za, va⟩ := Ba.facts
                    obtain ⟨xb, yb, zb, vb⟩ := Bb.facts
                    obtain ⟨xc, yc, zc, vc⟩ := Bc.facts
                    obtain ⟨xp, yp, zp, vp⟩ := Bp.facts
                    obtain ⟨xq, yq, zq, vq⟩ := Bq.facts
                    obtain ⟨xt, yt, zt, vt⟩ := Bt.facts
                    obtain ⟨xx, yx, zx, vx⟩ := Bx.facts
                    obtain ⟨xy, yy, zy, vy⟩ := By.facts
                    obtain ⟨xz, yz, zz, vz⟩ := Bz.facts
                    go_wp2_with fail
                    refine (o1 _).mono ?_
                    rintro e w11 ⟨rfl, hb⟩
                    clear xa ya za va xb yb zb vb xc yc zc vc xp yp zp vp xq yq zq vq xt yt zt vt xx yx zx vx xy yy zy vy xz yz zz vz
                    replace Ba := Ba.ext hb rfl
                    replace Bb := Bb.ext hb rfl
                    replace Bc := Bc.ext hb rfl
                    replace Bp := Bp.ext hb rfl
                    replace Bq := Bq.ext hb rfl
                    replace Bt := Bt.ext hb rfl
                    replace Bx := Bx.ext hb rfl
                    replace By := By.ext hb rfl
                    replace Bz := Bz.ext hb rfl
                    replace hw := hw.trans (hb.mono hw.size)
                    clear hb
                    obtain ⟨xa, ya, za, va⟩ := Ba.facts
                    obtain ⟨xb, yb, zb, vb⟩ := Bb.facts
                    obtain ⟨xc, yc, zc, vc⟩ := Bc.facts
                    obtain ⟨xp, yp, zp, vp⟩ := Bp.facts
                    obtain ⟨xq, yq, zq, vq⟩ := Bq.facts
                    obtain ⟨xt, yt, zt, vt⟩ := Bt.facts
                    obtain ⟨xx, yx, zx, vx⟩ := Bx.facts
                    obtain ⟨xy, yy, zy, vy⟩ := By.facts
                    obtain ⟨xz, yz, zz, vz⟩ := Bz.facts
                    go_wp2_with fail
                    refine (o2 _).mono ?_
                    rintro e w12 ⟨rfl, hb⟩
                    clear xa ya za va xb yb zb vb xc yc zc vc xp yp zp vp xq yq zq vq xt yt zt vt xx yx zx vx xy yy zy vy xz yz zz vz
                    replace Ba := Ba.ext hb rfl
                    replace Bb := Bb.ext hb rfl
                    replace Bc := Bc.ext hb rfl
                    replace Bp := Bp.ext hb rfl
                    replace Bq := Bq.ext hb rfl
                    replace Bt := Bt.ext hb rfl
                    replace Bx := Bx.ext hb rfl
                    replace By := By.ext hb rfl
                    replace Bz := Bz.ext hb rfl
                    replace hw := hw.trans (hb.mono hw.size)
                    clear hb
                    obtain ⟨xa, ya, za, va⟩ := Ba.facts
                    obtain ⟨xb, yb, zb, vb⟩ := Bb.facts
                    obtain ⟨xc, yc, zc, vc⟩ := Bc.facts
                    obtain ⟨xp, yp, zp, vp⟩ := Bp.facts
                    obtain ⟨xq, yq, zq, vq⟩ := Bq.facts
                    obtain ⟨xt, yt, zt, vt⟩ := Bt.facts
                    obtain ⟨xx, yx, zx, vx⟩ := Bx.facts
                    obtain ⟨xy, yy, zy, vy⟩ := By.facts
                    obtain ⟨xz, yz, zz, vz⟩ := Bz.facts
                    go_wp2_with fail
                    refine (a5 _).mono ?_
                    rintro e w13 ⟨rfl, hb⟩
                    clear xa ya za va xb yb zb vb xc yc zc vc xp yp zp vp xq yq zq vq xt yt zt vt xx yx zx vx xy yy zy vy xz yz zz vz
                    replace Ba := Ba.ext hb rfl
                    replace Bb := Bb.ext hb rfl
                    replace Bc := Bc.ext hb rfl
                    replace Bp := Bp.ext hb rfl
                    replace Bq := Bq.ext hb rfl
                    replace Bt := Bt.ext hb rfl
                    replace Bx := Bx.ext hb rfl
                    replace By := By.ext hb rfl
                    replace Bz := Bz.ext hb rfl
                    replace hw := hw.trans (hb.mono hw.size)
                    clear hb
                    obtain ⟨xa, ya, za, va⟩ := Ba.facts
                    obtain ⟨xb, yb, zb, vb⟩ := Bb.facts
                    obtain ⟨xc, yc, zc, vc⟩ := Bc.facts
                    obtain ⟨xp, yp, zp, vp⟩ := Bp.facts
                    obtain ⟨xq, yq, zq, vq⟩ := Bq.facts
                    obtain ⟨xt, yt, zt, vt⟩ := Bt.facts
                    obtain ⟨xx, yx, zx, vx⟩ := Bx.facts
                    obtain ⟨xy, yy, zy, vy⟩ := By.facts
                    obtain ⟨xz, yz, zz, vz⟩ := Bz.facts
                    go_wp2_with fail
                    refine (i1 _).mono ?_
                    rintro e w14 ⟨rfl, hb⟩
                    clear xa ya za va xb yb zb vb xc yc zc vc xp yp zp vp xq yq zq vq xt yt zt vt xx yx zx vx xy yy zy vy xz yz zz vz
                    replace Ba := Ba.ext hb rfl
                    replace Bb := Bb.ext hb rfl
                    replace Bc := Bc.ext hb rfl
                    replace Bp := Bp.ext hb rfl
                    replace Bq := Bq.ext hb rfl
                    replace Bt := Bt.ext hb rfl
                    replace Bx := Bx.ext hb rfl
                    replace By := By.ext hb rfl
                    replace Bz := Bz.ext hb rfl
                    replace hw := hw.trans (hb.mono hw.size)
                    clear hb
                    obtain ⟨xa, ya, za, va⟩ := Ba.facts
                    obtain ⟨xb, yb, zb, vb⟩ := Bb.facts
                    obtain ⟨xc, yc, zc, vc⟩ := Bc.facts
                    obtain ⟨xp, yp, zp, vp⟩ := Bp.facts
                    obtain ⟨xq, yq, zq, vq⟩ := Bq.facts
                    obtain ⟨xt, yt, zt, vt⟩ := Bt.facts
                    obtain ⟨xx, yx, zx, vx⟩ := Bx.facts
                    obtain ⟨xy, yy, zy, vy⟩ := By.facts
                    obtain ⟨xz, yz, zz, vz⟩ := Bz.facts
                    go_wp2_with fail
                    refine (v2 _).mono ?_
                    rintro e w15 ⟨rfl, hb⟩
                    clear xa ya za va xb yb zb vb xc yc zc vc xp yp zp vp xq yq zq vq xt yt zt vt xx yx zx vx xy yy zy vy xz yz zz vz
                    replace Ba := Ba.ext hb rfl
                    replace Bb := Bb.ext hb rfl
                    replace Bc := Bc.ext hb rfl
                    replace Bp := Bp.ext hb rfl
                    replace Bq := Bq.ext hb rfl
                    replace Bt := Bt.ext hb rfl
                    replace Bx := Bx.ext hb rfl
                    replace By := By.ext hb rfl
                    replace Bz := Bz.ext hb rfl
                    replace hw := hw.trans (hb.mono hw.size)
                    clear hb
                    obtain ⟨xa, ya, za, va⟩ := Ba.facts
                    obtain ⟨xb, yb, zb, vb⟩ := Bb.facts
                    obtain ⟨xc, yc, zc, vc⟩ := Bc.facts
                    obtain ⟨xp, yp, zp, vp⟩ := Bp.facts
                    obtain ⟨xq, yq, zq, vq⟩ := Bq.facts
                    obtain ⟨xt, yt, zt, vt⟩ := Bt.facts
                    obtain ⟨xx, yx, zx, vx⟩ := Bx.facts
                    obtain ⟨xy, yy, zy, vy⟩ := By.facts
                    obtain ⟨xz, yz, zz, vz⟩ := Bz.facts
                    go_wp2_with fail
                    refine (awake4_any _).mono ?_
                    rintro e w16 ⟨rfl, hb⟩
                    clear xa ya za va xb yb zb vb xc yc zc vc xp yp zp vp xq yq zq vq xt yt zt vt xx yx zx vx xy yy zy vy xz yz zz vz
                    replace Ba := Ba.ext hb rfl
                    replace Bb := Bb.ext hb rfl
                    replace Bc := Bc.ext hb rfl
                    replace Bp := Bp.ext hb rfl
                    replace Bq := Bq.ext hb rfl
                    replace Bt := Bt.ext hb rfl
                    replace Bx := Bx.ext hb rfl
                    replace By := By.ext hb rfl
                    replace Bz := Bz.ext hb rfl
                    replace hw := hw.trans (hb.mono hw.size)
                    clear hb
                    go_wp2
                    go_ret
                    exact ⟨rfl, hw⟩
                · cases hz : peqI p.x p.y q.x q.y
                  · have e := F4.out hi hv hq (peqI_ne.1 hz)
                    rw [hi] at i1
                    rw [hq] at v2
                    rw [e] at a3
                    clear e
                    as_aux_lemma =>
                      refine (v1 _).mono ?_
                      rintro e w10 ⟨rfl, hb⟩
                      replace Ba := Ba.ext hb rfl
                      replace Bb := Bb.ext hb rfl
                      replace Bc := Bc.ext hb rfl
                      replace Bp := Bp.ext hb rfl
                      replace Bq := Bq.ext hb rfl
                      replace Bt := Bt.ext hb rfl
                      replace Bx := Bx.ext hb rfl
                      replace By := By.ext hb rfl
                      replace Bz := Bz.ext hb rfl
                      replace hw := hw.trans (hb.mono hw.size)
                      clear hb
                      obtain ⟨xa, ya, za, va⟩ := Ba.facts
                      obtain ⟨xb, yb, zb, vb⟩ := Bb.facts
                      obtain ⟨xc, yc, zc, vc⟩ := Bc.facts
                      obtain ⟨xp, yp, zp, vp⟩ := Bp.facts
                      obtain ⟨xq, yq, zq, vq⟩ := Bq.facts
                      obtain ⟨xt, yt, zt, vt⟩ := Bt.facts
                      obtain ⟨xx, yx, zx, vx⟩ := Bx.facts
                      obtain ⟨xy, yy, zy, vy⟩ := By.facts
                      obtain ⟨xz, yz, zz, vz⟩ := Bz.facts
                      go_wp2_with fail
                      refine (o1 _).mono ?_
                      rintro e w11 ⟨rfl, hb⟩
                      clear xa ya za va xb yb zb vb xc yc zc vc xp yp zp vp xq yq zq vq xt yt zt vt xx yx zx vx xy yy zy vy xz yz zz vz
                      replace Ba := Ba.ext hb rfl
                      replace Bb := Bb.ext hb rfl
                      replace Bc := Bc.ext hb rfl
                      replace Bp := Bp.ext hb rfl
                      replace Bq := Bq.ext hb rfl
                      replace Bt := Bt.ext hb rfl
                      replace Bx := Bx.ext hb rfl
                      replace By := By.ext hb rfl
                      replace Bz := Bz.ext hb rfl
                      replace hw := hw.trans (hb.mono hw.size)
                      clear hb
                      obtain ⟨xa, ya, za, va⟩ := Ba.facts
                      obtain ⟨xb, yb, zb, vb⟩ := Bb.facts
                      obtain ⟨xc, yc, zc, vc⟩ := Bc.facts
                      obtain ⟨xp, yp, zp, vp⟩ := Bp.facts
                      obtain ⟨xq, yq, zq, vq⟩ := Bq.facts
                      obtain ⟨xt, yt, zt, vt⟩ := Bt.facts
                      obtain ⟨xx, yx, zx, vx⟩ := Bx.facts
                      obtain ⟨xy, yy, zy, vy⟩ := By.facts
                      obtain ⟨xz, yz, zz, vz⟩ := Bz.facts
                      go_wp2_with fail
                      refine (o2 _).mono ?_
                      rintro e w12 ⟨rfl, hb⟩
                      clear xa ya za va xb yb zb vb xc yc zc vc xp yp zp vp xq yq zq vq xt yt zt vt xx yx zx vx xy yy zy vy xz yz zz vz
                      replace Ba := Ba.ext hb rfl
                      replace Bb := Bb.ext hb rfl
                      replace Bc := Bc.ext hb rfl
                      replace Bp := Bp.ext hb rfl
                      replace Bq := Bq.ext hb rfl
                      replace Bt := Bt.ext hb rfl
                      replace Bx := Bx.ext hb rfl
                      replace By := By.ext hb rfl
                      replace Bz := Bz.ext hb rfl
                      replace hw := hw.trans (hb.mono hw.size)
                      clear hb
                      obtain ⟨xa, ya, za, va⟩ := Ba.facts
                      obtain ⟨xb, yb, zb, vb⟩ := Bb.facts
                      obtain ⟨xc, yc, zc, vc⟩ := Bc.facts
                      obtain ⟨xp, yp, zp, vp⟩ := Bp.facts
                      obtain ⟨xq, yq, zq, vq⟩ := Bq.facts
                      obtain ⟨xt, yt, zt, vt⟩ := Bt.facts
                      obtain ⟨xx, yx, zx, vx⟩ := Bx.facts
                      obtain ⟨xy, yy, zy, vy⟩ := By.facts
                      obtain ⟨xz, yz, zz, vz⟩ := Bz.facts
                      go_wp2_with fail
                      refine (a5 _).mono ?_
                      rintro e w13 ⟨rfl, hb⟩
                      clear xa ya za va xb yb zb vb xc yc zc vc xp yp zp vp xq yq zq vq xt yt zt vt xx yx zx vx xy yy zy vy xz yz zz vz
                      replace Ba := Ba.ext hb rfl
                      replace Bb := Bb.ext hb rfl
                      replace Bc := Bc.ext hb rfl
                      replace Bp := Bp.ext hb rfl
                      replace Bq := Bq.ext hb rfl
                      replace Bt := Bt.ext hb rfl
                      replace Bx := Bx.ext hb rfl
                      replace By := By.ext hb rfl
                      replace Bz := Bz.ext hb rfl
                      replace hw := hw.trans (hb.mono hw.size)
                      clear hb
                      obtain ⟨xa, ya, za, va⟩ := Ba.facts
                      obtain ⟨xb, yb, zb, vb⟩ := Bb.facts
                      obtain ⟨xc, yc, zc, vc⟩ := Bc.facts
                      obtain ⟨xp, yp, zp, vp⟩ := Bp.facts
                      obtain ⟨xq, yq, zq, vq⟩ := Bq.facts
                      obtain ⟨xt, yt, zt, vt⟩ := Bt.facts
                      obtain ⟨xx, yx, zx, vx⟩ := Bx.facts
                      obtain ⟨xy, yy, zy, vy⟩ := By.facts
                      obtain ⟨xz, yz, zz, vz⟩ := Bz.facts
                      go_wp2_with fail
                      refine (i1 _).mono ?_
                      rintro e w14 ⟨rfl, hb⟩
                      clear xa ya za va xb yb zb vb xc yc zc vc xp yp zp vp xq yq zq vq xt yt zt vt xx yx zx vx xy yy zy vy xz yz zz vz
                      replace Ba := Ba.ext hb rfl
                      replace Bb := Bb.ext hb rfl
                      replace Bc := Bc.ext hb rfl
                      replace Bp := Bp.ext hb rfl
                      replace Bq := Bq.ext hb rfl
                      replace Bt := Bt.ext hb rfl
                      replace Bx := Bx.ext hb rfl
                      replace By := By.ext hb rfl
                      replace Bz := Bz.ext hb rfl
                      replace hw := hw.trans (hb.mono hw.size)
                      clear hb
                      obtain ⟨xa, ya, za, va⟩ := Ba.facts
                      obtain ⟨xb, yb, zb, vb⟩ := Bb.facts
                      obtain ⟨xc, yc, zc, vc⟩ := Bc.facts
                      obtain ⟨xp, yp, zp, vp⟩ := Bp.facts
                      obtain ⟨xq, yq, zq, vq⟩ := Bq.facts
                      obtain ⟨xt, yt, zt, vt⟩ := Bt.facts
                      obtain ⟨xx, yx, zx, vx⟩ := Bx.facts
                      obtain ⟨xy, yy, zy, vy⟩ := By.facts
                      obtain ⟨xz, yz, zz, vz⟩ := Bz.facts
                      go_wp2_with fail
                      refine (v2 _).mono ?_
                      rintro e w15 ⟨rfl, hb⟩
                      clear xa ya za va xb yb zb vb xc yc zc vc xp yp zp vp xq yq zq vq xt yt zt vt xx yx zx vx xy yy zy vy xz yz zz vz
                      replace Ba := Ba.ext hb rfl
                      replace Bb := Bb.ext hb rfl
                      replace Bc := Bc.ext hb rfl
                      replace Bp := Bp.ext hb rfl
                      replace Bq := Bq.ext hb rfl
                      replace Bt := Bt.ext hb rfl
                      replace Bx := Bx.ext hb rfl
                      replace By := By.ext hb rfl
                      replace Bz := Bz.ext hb rfl
                      replace hw := hw.trans (hb.mono hw.size)
                      clear hb
                      obtain ⟨xa, ya, za, va⟩ := Ba.facts
                      obtain ⟨xb, yb, zb, vb⟩ := Bb.facts
                      obtain ⟨xc, yc, zc, vc⟩ := Bc.facts
                      obtain ⟨xp, yp, zp, vp⟩ := Bp.facts
                      obtain ⟨xq, yq, zq, vq⟩ := Bq.facts
                      obtain ⟨xt, yt, zt, vt⟩ := Bt.facts
                      obtain ⟨xx, yx, zx, vx⟩ := Bx.facts
                      obtain ⟨xy, yy, zy, vy⟩ := By.facts
                      obtain ⟨xz, yz, zz, vz⟩ := Bz.facts
                      go_wp2_with fail
                      refine (a3 _).mono ?_
                      rintro e w16 ⟨rfl, hb⟩
                      clear xa ya za va xb yb zb vb xc yc zc vc xp yp zp vp xq yq zq vq xt yt zt vt xx yx zx vx xy yy zy vy xz yz zz vz
                      replace Ba := Ba.ext hb rfl
                      replace Bb := Bb.ext hb rfl
                      replace Bc := Bc.ext hb rfl
                      replace Bp := Bp.ext hb rfl
                      replace Bq := Bq.ext hb rfl
                      replace Bt := Bt.ext hb rfl
                      replace Bx := Bx.ext hb rfl
                      replace By := By.ext hb rfl
                      replace Bz := Bz.ext hb rfl
                      replace hw := hw.trans (hb.mono hw.size)
                      clear hb
                      obtain ⟨xa, ya, za, va⟩ := Ba.facts
                      obtain ⟨xb, yb, zb, vb⟩ := Bb.facts
                      obtain ⟨xc, yc, zc, vc⟩ := Bc.facts
                      obtain ⟨xp, yp, zp, vp⟩ := Bp.facts
                      obtain ⟨xq, yq, zq, vq⟩ := Bq.facts
                      obtain ⟨xt, yt, zt, vt⟩ := Bt.facts
                      obtain ⟨xx, yx, zx, vx⟩ := Bx.facts
                      obtain ⟨xy, yy, zy, vy⟩ := By.facts
                      obtain ⟨xz, yz, zz, vz⟩ := Bz.facts
                      go_wp2_with fail
                      refine (awake4_any _).mono ?_
                      rintro e w17 ⟨rfl, hb⟩
                      clear xa ya za va xb yb zb vb xc yc zc vc xp yp zp vp xq yq zq vq xt yt zt vt xx yx zx vx xy yy zy vy xz yz zz vz
                      replace Ba := Ba.ext hb rfl
                      replace Bb := Bb.ext hb rfl
                      replace Bc := Bc.ext hb rfl
                      replace Bp := Bp.ext hb rfl
                      replace Bq := Bq.ext hb rfl
                      replace Bt := Bt.ext hb rfl
                      replace Bx := Bx.ext hb rfl
                      replace By := By.ext hb rfl
                      replace Bz := Bz.ext hb rfl
                      replace hw := hw.trans (hb.mono hw.size)
                      clear hb
                      go_wp2
                      go_ret
                      exact ⟨rfl, hw⟩
                  · rw [hi] at i1
                    rw [hq] at v2
                    as_aux_lemma =>
                      refine (v1 _).mono ?_
                      rintro e w10 ⟨rfl, hb⟩
                      replace Ba := Ba.ext hb rfl
                      replace Bb := Bb.ext hb rfl
                      replace Bc := Bc.ext hb rfl
                      replace Bp := Bp.ext hb rfl
                      replace Bq := Bq.ext hb rfl
                      replace Bt := Bt.ext hb rfl
                      replace Bx := Bx.ext hb rfl
                      replace By := By.ext hb rfl
                      replace Bz := Bz.ext hb rfl
                      replace hw := hw.trans (hb.mono hw.size)
                      clear hb
                      obtain ⟨xa, ya, za, va⟩ := Ba.facts
                      obtain ⟨xb, yb, zb, vb⟩ := Bb.facts
                      obtain ⟨xc, yc, zc, vc⟩ := Bc.facts
                      obtain ⟨xp, yp, zp, vp⟩ := Bp.facts
                      obtain ⟨xq, yq, zq, vq⟩ := Bq.facts
                      obtain ⟨xt, yt, zt, vt⟩ := Bt.facts
                      obtain ⟨xx, yx, zx, vx⟩ := Bx.facts
                      obtain ⟨xy, yy, zy, vy⟩ := By.facts
                      obtain ⟨xz, yz, zz, vz⟩ := Bz.facts
                      go_wp2_with fail
                      refine (o1 _).mono ?_
                      rintro e w11 ⟨rfl, hb⟩
                      clear xa ya za va xb yb zb vb xc yc zc vc xp yp zp vp xq yq zq vq xt yt zt vt xx yx zx vx xy yy zy vy xz yz zz vz
                      replace Ba := Ba.ext hb rfl
                      replace Bb := Bb.ext hb rfl
                      replace Bc := Bc.ext hb rfl
                      replace Bp := Bp.ext hb rfl
                      replace Bq := Bq.ext hb rfl
                      replace Bt := Bt.ext hb rfl
                      replace Bx := Bx.ext hb rfl
                      replace By := By.ext hb rfl
                      replace Bz := Bz.ext hb rfl
                      replace hw := hw.trans (hb.mono hw.size)
                      clear hb
                      obtain ⟨xa, ya, za, va⟩ := Ba.facts
                      obtain ⟨xb, yb, zb, vb⟩ := Bb.facts
                      obtain ⟨xc, yc, zc, vc⟩ := Bc.facts
                      obtain ⟨xp, yp, zp, vp⟩ := Bp.facts
                      obtain ⟨xq, yq, zq, vq⟩ := Bq.facts
                      obtain ⟨xt, yt, zt, vt⟩ := Bt.facts
                      obtain ⟨xx, yx, zx, vx⟩ := Bx.facts
                      obtain ⟨xy, yy, zy, vy⟩ := By.facts
                      obtain ⟨xz, yz, zz, vz⟩ := Bz.facts
                      go_wp2_with fail
                      refine (o2 _).mono ?_
                      rintro e w12 ⟨rfl, hb⟩
                      clear xa ya za va xb yb zb vb xc yc zc vc xp yp zp vp xq yq zq vq xt yt zt vt xx yx zx vx xy yy zy vy xz yz zz vz
                      replace Ba := Ba.ext hb rfl
                      replace Bb := Bb.ext hb rfl
                      replace Bc := Bc.ext hb rfl
                      replace Bp := Bp.ext hb rfl
                      replace Bq := Bq.ext hb rfl
                      replace Bt := Bt.ext hb rfl
                      replace Bx := Bx.ext hb rfl
                      replace By := By.ext hb rfl
                      replace Bz := Bz.ext hb rfl
                      replace hw := hw.trans (hb.mono hw.size)
                      clear hb
                      obtain ⟨xa, ya, za, va⟩ := Ba.facts
                      obtain ⟨xb, yb, zb, vb⟩ := Bb.facts
                      obtain ⟨xc, yc, zc, vc⟩ := Bc.facts
                      obtain ⟨xp, yp, zp, vp⟩ := Bp.facts
                      obtain ⟨xq, yq, zq, vq⟩ := Bq.facts
                      obtain ⟨xt, yt, zt, vt⟩ := Bt.facts
                      obtain ⟨xx, yx, zx, vx⟩ := Bx.facts
                      obtain ⟨xy, yy, zy, vy⟩ := By.facts
                      obtain ⟨xz, yz, zz, vz⟩ := Bz.facts
                      go_wp2_with fail
                      refine (a5 _).mono ?_
                      rintro e w13 ⟨rfl, hb⟩
                      clear xa ya za va xb yb zb vb xc yc zc vc xp yp zp vp xq yq zq vq xt yt zt vt xx yx zx vx xy yy zy vy xz yz zz vz
                      replace Ba := Ba.ext hb rfl
                      replace Bb := Bb.ext hb rfl
                      replace Bc := Bc.ext hb rfl
                      replace Bp := Bp.ext hb rfl
                      replace Bq := Bq.ext hb rfl
                      replace Bt := Bt.ext hb rfl
                      replace Bx := Bx.ext hb rfl
                      replace By := By.ext hb rfl
                      replace Bz := Bz.ext hb rfl
                      replace hw := hw.trans (hb.mono hw.size)
                      clear hb
                      obtain ⟨xa, ya, za, va⟩ := Ba.facts
                      obtain ⟨xb, yb, zb, vb⟩ := Bb.facts
                      obtain ⟨xc, yc, zc, vc⟩ := Bc.facts
                      obtain ⟨xp, yp, zp, vp⟩ := Bp.facts
                      obtain ⟨xq, yq, zq, vq⟩ := Bq.facts
                      obtain ⟨xt, yt, zt, vt⟩ := Bt.facts
                      obtain ⟨xx, yx, zx, vx⟩ := Bx.facts
                      obtain ⟨xy, yy, zy, vy⟩ := By.facts
                      obtain ⟨xz, yz, zz, vz⟩ := Bz.facts
                      go_wp2_with fail
                      refine (i1 _).mono ?_
                      rintro e w14 ⟨rfl, hb⟩
                      clear xa ya za va xb yb zb vb xc yc zc vc xp yp zp vp xq yq zq vq xt yt zt vt xx yx zx vx xy yy zy vy xz yz zz vz
                      replace Ba := Ba.ext hb rfl
                      replace Bb := Bb.ext hb rfl
                      replace Bc := Bc.ext hb rfl
                      replace Bp := Bp.ext hb rfl
                      replace Bq := Bq.ext hb rfl
                      replace Bt := Bt.ext hb rfl
                      replace Bx := Bx.ext hb rfl
                      replace By := By.ext hb rfl
                      replace Bz := Bz.ext hb rfl
                      replace hw := hw.trans (hb.mono hw.size)
                      clear hb
                      obtain ⟨xa, ya, za, va⟩ := Ba.facts
                      obtain ⟨xb, yb, zb, vb⟩ := Bb.facts
                      obtain ⟨xc, yc, zc, vc⟩ := Bc.facts
                      obtain ⟨xp, yp, zp, vp⟩ := Bp.facts
                      obtain ⟨xq, yq, zq, vq⟩ := Bq.facts
                      obtain ⟨xt, yt, zt, vt⟩ := Bt.facts
                      obtain ⟨xx, yx, zx, vx⟩ := Bx.facts
                      obtain ⟨xy, yy, zy, vy⟩ := By.facts
                      obtain ⟨xz, yz, zz, vz⟩ := Bz.facts
                      go_wp2_with fail
                      refine (v2 _).mono ?_
                      rintro e w15 ⟨rfl, hb⟩
                      clear xa ya za va xb yb zb vb xc yc zc vc xp yp zp vp xq yq zq vq xt yt zt vt xx yx zx vx xy yy zy vy xz yz zz vz
                      replace Ba := Ba.ext hb rfl
                      replace Bb := Bb.ext hb rfl
                      replace Bc := Bc.ext hb rfl
                      replace Bp := Bp.ext hb rfl
                      replace Bq := Bq.ext hb rfl
                      replace Bt := Bt.ext hb rfl
                      replace Bx := Bx.ext hb rfl
                      replace By := By.ext hb rfl
                      replace Bz := Bz.ext hb rfl
                      replace hw := hw.trans (hb.mono hw.size)
                      clear hb
                      obtain ⟨xa, ya, za, va⟩ := Ba.facts
                      obtain ⟨xb, yb, zb, vb⟩ := Bb.facts
                      obtain ⟨xc, yc, zc, vc⟩ := Bc.facts
                      obtain ⟨xp, yp, zp, vp⟩ := Bp.facts
                      obtain ⟨xq, yq, zq, vq⟩ := Bq.facts
                      obtain ⟨xt, yt, zt, vt⟩ := Bt.facts
                      obtain ⟨xx, yx, zx, vx⟩ := Bx.facts
                      obtain ⟨xy, yy, zy, vy⟩ := By.facts
                      obtain ⟨xz, yz, zz, vz⟩ := Bz.facts
                      go_wp2_with fail
                      refine (awake4_any _).mono ?_
                      rintro e w16 ⟨rfl, hb⟩
                      clear xa ya za va xb yb zb vb xc yc zc vc xp yp zp vp xq yq zq vq xt yt zt vt xx yx zx vx xy yy zy vy xz yz zz vz
                      replace Ba := Ba.ext hb rfl
                      replace Bb := Bb.ext hb rfl
                      replace Bc := Bc.ext hb rfl
                      replace Bp := Bp.ext hb rfl
                      replace Bq := Bq.ext hb rfl
                      replace Bt := Bt.ext hb rfl
                      replace Bx := Bx.ext hb rfl
                      replace By := By.ext hb rfl
                      replace Bz := Bz.ext hb rfl
                      replace hw := hw.trans (hb.mono hw.size)
                      clear hb
                      go_wp2
                      go_ret
                      exact ⟨rfl, hw⟩
        · cases hi : insP M p
          · rw [hi] at i1
            as_aux_lemma =>
              refine (v1 _).mono ?_
              rintro e w10 ⟨rfl, hb⟩
              replace Ba := Ba.ext hb rfl
              replace Bb := Bb.ext hb rfl
              replace Bc := Bc.ext hb rfl
              replace Bp := Bp.ext hb rfl
              replace Bq := Bq.ext hb rfl
              replace Bt := Bt.ext hb rfl
              replace Bx := Bx.ext hb rfl
              replace By := By.ext hb rfl
              replace Bz := Bz.ext hb rfl
              replace hw := hw.trans (hb.mono hw.size)
              clear hb
              obtain ⟨xa, ya, za, va⟩ := Ba.facts
              obtain ⟨xb, yb, zb, vb⟩ := Bb.facts
              obtain ⟨xc, yc, zc, vc⟩ := Bc.facts
              obtain ⟨xp, yp, zp, vp⟩ := Bp.facts
              obtain ⟨xq, yq, zq, vq⟩ := Bq.facts
              obtain ⟨xt, yt, zt, vt⟩ := Bt.facts
              obtain ⟨xx, yx, zx, vx⟩ := Bx.facts
              obtain ⟨xy, yy, zy, vy⟩ := By.facts
              obtain ⟨xz, yz, zz, vz⟩ := Bz.facts
              go_wp2_with fail
              refine (i1 _).mono ?_
              rintro e w11 ⟨rfl, hb⟩
              clear xa ya za va xb yb zb vb xc yc zc vc xp yp zp vp xq yq zq vq xt yt zt vt xx yx zx vx xy yy zy vy xz yz zz vz
              replace Ba := Ba.ext hb rfl
              replace Bb := Bb.ext hb rfl
              replace Bc := Bc.ext hb rfl
              replace Bp := Bp.ext hb rfl
              replace Bq := Bq.ext hb rfl
              replace Bt := Bt.ext hb rfl
              replace Bx := Bx.ext hb rfl
              replace By := By.ext hb rfl
              replace Bz := Bz.ext hb rfl
              replace hw := hw.trans (hb.mono hw.size)
              clear hb
              obtain ⟨xa, ya, za, va⟩ := Ba.facts
              obtain ⟨xb, yb, zb, vb⟩ := Bb.facts
              obtain ⟨xc, yc, zc, vc⟩ := Bc.facts
              obtain ⟨xp, yp, zp, vp⟩ := Bp.facts
              obtain ⟨xq, yq, zq, vq⟩ := Bq.facts
              obtain ⟨xt, yt, zt, vt⟩ := Bt.facts
              obtain ⟨xx, yx, zx, vx⟩ := Bx.facts
              obtain ⟨xy, yy, zy, vy⟩ := By.facts
              obtain ⟨xz, yz, zz, vz⟩ := Bz.facts
              go_wp2_with fail
              refine (awake4_any _).mono ?_
              rintro e w12 ⟨rfl, hb⟩
              clear xa ya za va xb yb zb vb xc yc zc vc xp yp zp vp xq yq zq vq xt yt zt vt xx yx zx vx xy yy zy vy xz yz zz vz
              replace Ba := Ba.ext hb rfl
              replace Bb := Bb.ext hb rfl
              replace Bc := Bc.ext hb rfl
              replace Bp := Bp.ext hb rfl
              replace Bq := Bq.ext hb rfl
              replace Bt := Bt.ext hb rfl
              replace Bx := Bx.ext hb rfl
              replace By := By.ext hb rfl
              replace Bz := Bz.ext hb rfl
              replace hw := hw.trans (hb.mono hw.size)
              clear hb
              go_wp2
              go_ret
              exact ⟨rfl, hw⟩
          · cases hq : vld q
            · rw [hi] at i1
              rw [hq] at v2
              as_aux_lemma =>
                refine (v1 _).mono ?_
                rintro e w10 ⟨rfl, hb⟩
                replace Ba := Ba.ext hb rfl
                replace Bb := Bb.ext hb rfl
                replace Bc := Bc.ext hb rfl
                replace Bp := Bp.ext hb rfl
                replace Bq := Bq.ext hb rfl
                replace Bt := Bt.ext hb rfl
                replace Bx := Bx.ext hb rfl
                replace By := By.ext hb rfl
                replace Bz := Bz.ext hb rfl
                replace hw := hw.trans (hb.mono hw.size)
                clear hb
                obtain ⟨xa, ya, za, va⟩ := Ba.facts
                obtain ⟨xb, yb, zb, vb⟩ := Bb.facts
                obtain ⟨xc, yc, zc, vc⟩ := Bc.facts
                obtain ⟨xp, yp, zp, vp⟩ := Bp.facts
                obtain ⟨xq, yq, zq, vq⟩ := Bq.facts
                obtain ⟨xt, yt, zt, vt⟩ := Bt.facts
                obtain ⟨xx, yx, zx, vx⟩ := Bx.facts
                obtain ⟨xy, yy, zy, vy⟩ := By.facts
                obtain ⟨xz, yz, zz, vz⟩ := Bz.facts
                go_wp2_with fail
                refine (i1 _).mono ?_
                rintro e w11 ⟨rfl, hb⟩
                clear xa ya za va xb yb zb vb xc yc zc vc xp yp zp vp xq yq zq vq xt yt zt vt xx yx zx vx xy yy zy vy xz yz zz vz
                replace Ba := Ba.ext hb rfl
                replace Bb := Bb.ext hb rfl
                replace Bc := Bc.ext hb rfl
                replace Bp := Bp.ext hb rfl
                replace Bq := Bq.ext hb rfl
                replace Bt := Bt.ext hb rfl
                replace Bx := Bx.ext hb rfl
                replace By := By.ext hb rfl
                replace Bz := Bz.ext hb rfl
                replace hw := hw.trans (hb.mono hw.size)
                clear hb
                obtain ⟨xa, ya, za, va⟩ := Ba.facts
                obtain ⟨xb, yb, zb, vb⟩ := Bb.facts
                obtain ⟨xc, yc, zc, vc⟩ := Bc.facts
                obtain ⟨xp, yp, zp, vp⟩ := Bp.facts
                obtain ⟨xq, yq, zq, vq⟩ := Bq.facts
                obtain ⟨xt, yt, zt, vt⟩ := Bt.facts
                obtain ⟨xx, yx, zx, vx⟩ := Bx.facts
                obtain ⟨xy, yy, zy, vy⟩ := By.facts
                obtain ⟨xz, yz, zz, vz⟩ := Bz.facts
                go_wp2_with fail
                refine (v2 _).mono ?_
                rintro e w12 ⟨rfl, hb⟩
                clear xa ya za va xb yb zb vb xc yc zc vc xp yp zp vp xq yq zq vq xt yt zt vt xx yx zx vx xy yy zy vy xz yz zz vz
                replace Ba := Ba.ext hb rfl
                replace Bb := Bb.ext hb rfl
                replace Bc := Bc.ext hb rfl
                replace Bp := Bp.ext hb rfl
                replace Bq := Bq.ext hb rfl
                replace Bt := Bt.ext hb rfl
                replace Bx := Bx.ext hb rfl
                replace By := By.ext hb rfl
                replace Bz := Bz.ext hb rfl
                replace hw := hw.trans (hb.mono hw.size)
                clear hb
                obtain ⟨xa, ya, za, va⟩ := Ba.facts
                obtain ⟨xb, yb, zb, vb⟩ := Bb.facts
                obtain ⟨xc, yc, zc, vc⟩ := Bc.facts
                obtain ⟨xp, yp, zp, vp⟩ := Bp.facts
                obtain ⟨xq, yq, zq, vq⟩ := Bq.facts
                obtain ⟨xt, yt, zt, vt⟩ := Bt.facts
                obtain ⟨xx, yx, zx, vx⟩ := Bx.facts
                obtain ⟨xy, yy, zy, vy⟩ := By.facts
                obtain ⟨xz, yz, zz, vz⟩ := Bz.facts
                go_wp2_with fail
                refine (awake4_any _).mono ?_
                rintro e w13 ⟨rfl, hb⟩
                clear xa ya za va xb yb zb vb xc yc zc vc xp yp zp vp xq yq zq vq xt yt zt vt xx yx zx vx xy yy zy vy xz yz zz vz
                replace Ba := Ba.ext hb rfl
                replace Bb := Bb.ext hb rfl
                replace Bc := Bc.ext hb rfl
                replace Bp := Bp.ext hb rfl
                replace Bq := Bq.ext hb rfl
                replace Bt := Bt.ext hb rfl
                replace Bx := Bx.ext hb rfl
                replace By := By.ext hb rfl
                replace Bz := Bz.ext hb rfl
                replace hw := hw.trans (hb.mono hw.size)
                clear hb
                go_wp2
                go_ret
                exact ⟨rfl, hw⟩
            · cases hz : peqI p.x p.y q.x q.y
              · have e := F4.out hi hv hq (peqI_ne.1 hz)
                rw [hi] at i1
                rw [hq] at v2
                rw [e] at a3
                clear e
                as_aux_lemma =>
                  refine (v1 _).mono ?_
                  rintro e w10 ⟨rfl, hb⟩
                  replace Ba := Ba.ext hb rfl
                  replace Bb := Bb.ext hb rfl
                  replace Bc := Bc.ext hb rfl
                  replace Bp := Bp.ext hb rfl
                  replace Bq := Bq.ext hb rfl
                  replace Bt := Bt.ext hb rfl
                  replace Bx := Bx.ext hb rfl
                  replace By := By.ext hb rfl
                  replace Bz := Bz.ext hb rfl
                  replace hw := hw.trans (hb.mono hw.size)
                  clear hb
                  obtain ⟨xa, ya, za, va⟩ := Ba.facts
                  obtain ⟨xb, yb, zb, vb⟩ := Bb.facts
                  obtain ⟨xc, yc, zc, vc⟩ := Bc.facts
                  obtain ⟨xp, yp, zp, vp⟩ := Bp.facts
                  obtain ⟨xq, yq, zq, vq⟩ := Bq.facts
                  obtain ⟨xt, yt, zt, vt⟩ := Bt.facts
                  obtain ⟨xx, yx, zx, vx⟩ := Bx.facts
                  obtain ⟨xy, yy, zy, vy⟩ := By.facts
                  obtain ⟨xz, yz, zz, vz⟩ := Bz.facts
                  go_wp2_with fail
                  refine (i1 _).mono ?_
                  rintro e w11 ⟨rfl, hb⟩
                  clear xa ya za va xb yb zb vb xc yc zc vc xp yp zp vp xq yq zq vq xt yt zt vt xx yx zx vx xy yy zy vy xz yz zz vz
                  replace Ba := Ba.ext hb rfl
                  replace Bb := Bb.ext hb rfl
                  replace Bc := Bc.ext hb rfl
                  replace Bp := Bp.ext hb rfl
                  replace Bq := Bq.ext hb rfl
                  replace Bt := Bt.ext hb rfl
                  replace Bx := Bx.ext hb rfl
                  replace By := By.ext hb rfl
                  replace Bz := Bz.ext hb rfl
                  replace hw := hw.trans (hb.mono hw.size)
                  clear hb
                  obtain ⟨xa, ya, za, va⟩ := Ba.facts
                  obtain ⟨xb, yb, zb, vb⟩ := Bb.facts
                  obtain ⟨xc, yc, zc, vc⟩ := Bc.facts
                  obtain ⟨xp, yp, zp, vp⟩ := Bp.facts
                  obtain ⟨xq, yq, zq, vq⟩ := Bq.facts
                  obtain ⟨xt, yt, zt, vt⟩ := Bt.facts
                  obtain ⟨xx, yx, zx, vx⟩ := Bx.facts
                  obtain ⟨xy, yy, zy, vy⟩ := By.facts
                  obtain ⟨xz, yz, zz, vz⟩ := Bz.facts
                  go_wp2_with fail
                  refine (v2 _).mono ?_
                  rintro e w12 ⟨rfl, hb⟩
                  clear xa ya za va xb yb zb vb xc yc zc vc xp yp zp vp xq yq zq vq xt yt zt vt xx yx zx vx xy yy zy vy xz yz zz vz
                  replace Ba := Ba.ext hb rfl
                  replace Bb := Bb.ext hb rfl
                  replace Bc := Bc.ext hb rfl
                  replace Bp := Bp.ext hb rfl
                  replace Bq := Bq.ext hb rfl
                  replace Bt := Bt.ext hb rfl
                  replace Bx := Bx.ext hb rfl
                  replace By := By.ext hb rfl
                  replace Bz := Bz.ext hb rfl
                  replace hw := hw.trans (hb.mono hw.size)
                  clear hb
                  obtain ⟨xa, ya, za, va⟩ := Ba.facts
                  obtain ⟨xb, yb, zb, vb⟩ := Bb.facts
                  obtain ⟨xc, yc, zc, vc⟩ := Bc.facts
                  obtain ⟨xp, yp, zp, vp⟩ := Bp.facts
                  obtain ⟨xq, yq, zq, vq⟩ := Bq.facts
                  obtain ⟨xt, yt, zt, vt⟩ := Bt.facts
                  obtain ⟨xx, yx, zx, vx⟩ := Bx.facts
                  obtain ⟨xy, yy, zy, vy⟩ := By.facts
                  obtain ⟨xz, yz, zz, vz⟩ := Bz.facts
                  go_wp2_with fail
                  refine (a3 _).mono ?_
                  rintro e w13 ⟨rfl, hb⟩
                  clear xa ya za va xb yb zb vb xc yc zc vc xp yp zp vp xq yq zq vq xt yt zt vt xx yx zx vx xy yy zy vy xz yz zz vz
                  replace Ba := Ba.ext hb rfl
                  replace Bb := Bb.ext hb rfl
                  replace Bc := Bc.ext hb rfl
                  replace Bp := Bp.ext hb rfl
                  replace Bq := Bq.ext hb rfl
                  replace Bt := Bt.ext hb rfl
                  replace Bx := Bx.ext hb rfl
                  replace By := By.ext hb rfl
                  replace Bz := Bz.ext hb rfl
                  replace hw := hw.trans (hb.mono hw.size)
                  clear hb
                  obtain ⟨xa, ya, za, va⟩ := Ba.facts
                  obtain ⟨xb, yb, zb, vb⟩ := Bb.facts
                  obtain ⟨xc, yc, zc, vc⟩ := Bc.facts
                  obtain ⟨xp, yp, zp, vp⟩ := Bp.facts
                  obtain ⟨xq, yq, zq, vq⟩ := Bq.facts
                  obtain ⟨xt, yt, zt, vt⟩ := Bt.facts
                  obtain ⟨xx, yx, zx, vx⟩ := Bx.facts
                  obtain ⟨xy, yy, zy, vy⟩ := By.facts
                  obtain ⟨xz, yz, zz, vz⟩ := Bz.facts
                  go_wp2_with fail
                  refine (awake4_any _).mono ?_
                  rintro e w14 ⟨rfl, hb⟩
                  clear xa ya za va xb yb zb vb xc yc zc vc xp yp zp vp xq yq zq vq xt yt zt vt xx yx zx vx xy yy zy vy xz yz zz vz
                  replace Ba := Ba.ext hb rfl
                  replace Bb := Bb.ext hb rfl
                  replace Bc := Bc.ext hb rfl
                  replace Bp := Bp.ext hb rfl
                  replace Bq := Bq.ext hb rfl
                  replace Bt := Bt.ext hb rfl
                  replace Bx := Bx.ext hb rfl
                  replace By := By.ext hb rfl
                  replace Bz := Bz.ext hb rfl
                  replace hw := hw.trans (hb.mono hw.size)
                  clear hb
                  go_wp2
                  go_ret
                  exact ⟨rfl, hw⟩
              · rw [hi] at i1
                rw [hq] at v2
                as_aux_lemma =>
                  refine (v1 _).mono ?_
                  rintro e w10 ⟨rfl, hb⟩
                  replace Ba := Ba.ext hb rfl
                  replace Bb := Bb.ext hb rfl
                  replace Bc := Bc.ext hb rfl
                  replace Bp := Bp.ext hb rfl
                  replace Bq := Bq.ext hb rfl
                  replace Bt := Bt.ext hb rfl
                  replace Bx := Bx.ext hb rfl
                  replace By := By.ext hb rfl
                  replace Bz := Bz.ext hb rfl
                  replace hw := hw.trans (hb.mono hw.size)
                  clear hb
                  obtain ⟨xa, ya, za, va⟩ := Ba.facts
                  obtain ⟨xb, yb, zb, vb⟩ := Bb.facts
                  obtain ⟨xc, yc, zc, vc⟩ := Bc.facts
                  obtain ⟨xp, yp, zp, vp⟩ := Bp.facts
                  obtain ⟨xq, yq, zq, vq⟩ := Bq.facts
                  obtain ⟨xt, yt, zt, vt⟩ := Bt.facts
                  obtain ⟨xx, yx, zx, vx⟩ := Bx.facts
                  obtain ⟨xy, yy, zy, vy⟩ := By.facts
                  obtain ⟨xz, yz, zz, vz⟩ := Bz.facts
                  go_wp2_with fail
                  refine (i1 _).mono ?_
                  rintro e w11 ⟨rfl, hb⟩
                  clear xa ya za va xb yb zb vb xc yc zc vc xp yp zp vp xq yq zq vq xt yt zt vt xx yx zx vx xy yy zy vy xz yz zz vz
                  replace Ba := Ba.ext hb rfl
                  replace Bb := Bb.ext hb rfl
                  replace Bc := Bc.ext hb rfl
                  replace Bp := Bp.ext hb rfl
                  replace Bq := Bq.ext hb rfl
                  replace Bt := Bt.ext hb rfl
                  replace Bx := Bx.ext hb rfl
                  replace By := By.ext hb rfl
                  replace Bz := Bz.ext hb rfl
                  replace hw := hw.trans (hb.mono hw.size)
                  clear hb
                  obtain ⟨xa, ya, za, va⟩ := Ba.facts
                  obtain ⟨xb, yb, zb, vb⟩ := Bb.facts
                  obtain ⟨xc, yc, zc, vc⟩ := Bc.facts
                  obtain ⟨xp, yp, zp, vp⟩ := Bp.facts
                  obtain ⟨xq, yq, zq, vq⟩ := Bq.facts
                  obtain ⟨xt, yt, zt, vt⟩ := Bt.facts
                  obtain ⟨xx, yx, zx, vx⟩ := Bx.facts
                  obtain ⟨xy, yy, zy, vy⟩ := By.facts
                  obtain ⟨xz, yz, zz, vz⟩ := Bz.facts
                  go_wp2_with fail
                  refine (v2 _).mono ?_
                  rintro e w12 ⟨rfl, hb⟩
                  clear xa ya za va xb yb zb vb xc yc zc vc xp yp zp vp xq yq zq vq xt yt zt vt xx yx zx vx xy yy zy vy xz yz zz vz
                  replace Ba := Ba.ext hb rfl
                  replace Bb := Bb.ext hb rfl
                  replace Bc := Bc.ext hb rfl
                  replace Bp := Bp.ext hb rfl
                  replace Bq := Bq.ext hb rfl
                  replace Bt := Bt.ext hb rfl
                  replace Bx := Bx.ext hb rfl
                  replace By := By.ext hb rfl
                  replace Bz := Bz.ext hb rfl
                  replace hw := hw.trans (hb.mono hw.size)
                  clear hb
                  obtain ⟨xa, ya, za, va⟩ := Ba.facts
                  obtain ⟨xb, yb, zb, vb⟩ := Bb.facts
                  obtain ⟨xc, yc, zc, vc⟩ := Bc.facts
                  obtain ⟨xp, yp, zp, vp⟩ := Bp.facts
                  obtain ⟨xq, yq, zq, vq⟩ := Bq.facts
                  obtain ⟨xt, yt, zt, vt⟩ := Bt.facts
                  obtain ⟨xx, yx, zx, vx⟩ := Bx.facts
                  obtain ⟨xy, yy, zy, vy⟩ := By.facts
                  obtain ⟨xz, yz, zz, vz⟩ := Bz.facts
                  go_wp2_with fail
                  refine (awake4_any _).mono ?_
                  rintro e w13 ⟨rfl, hb⟩
                  clear xa ya za va xb yb zb vb xc yc zc vc xp yp zp vp xq yq zq vq xt yt zt vt xx yx zx vx xy yy zy vy xz yz zz vz
                  replace Ba := Ba.ext hb rfl
                  replace Bb := Bb.ext hb rfl
                  replace Bc := Bc.ext hb rfl
                  replace Bp := Bp.ext hb rfl
                  replace Bq := Bq.ext hb rfl
                  replace Bt := Bt.ext hb rfl
                  replace Bx := Bx.ext hb rfl
                  replace By := By.ext hb rfl
                  replace Bz := Bz.ext hb rfl
                  replace hw := hw.trans (hb.mono hw.size)
                  clear hb
                  go_wp2
                  go_ret
                  exact ⟨rfl, hw⟩

theorem redg_law (a b c p q : Pt) (i : Int) (w : World) :
    Calls Try.prog 5 #[.agg #[.int .i64 a.x, .int .i64 a.y], .agg #[.int .i64 b.x, .int .i64 b.y], .agg #[.int .i64 c.x, .int .i64 c.y], .agg #[.int .i64 p.x, .int .i64 p.y], .agg #[.int .i64 q.x, .int .i64 q.y], .int .i64 i] w fun e w' => e = .returned (.bool true) ∧ Below w.heap.size w w' := by
  cases h0 : (!decide (ori a b c = 0)) with
  | false => exact redg_0 a b c p q i h0 w
  | true => exact redg_1 a b c p q i h0 w
set_option maxRecDepth 100000 in
theorem reachEdges_lifted (os : Os) (started : os.Started) (H : Type) (enc : TypeId × Value → H) :
    ReturnsInHanded {} Try.checked os 5 .any (Rows.reachEdgesSpec.pre6 enc Try.prog Try.f5 Rows.reachEdgesRow.domain false) (Rows.reachEdgesSpec.post enc Try.prog Try.f5 false true false false) := by
  refine returnsInHanded_of_change (C := Try.checked) Try.own started (by kernel_rfl) Try.func5
    (ChangeSpec.witness6 (enc := enc) (C := Try.checked) false ⟨#[], #[.agg #[.int .i64 0, .int .i64 0], .agg #[.int .i64 0, .int .i64 0], .agg #[.int .i64 0, .int .i64 0], .agg #[.int .i64 0, .int .i64 0], .agg #[.int .i64 0, .int .i64 0], .int .i64 0], []⟩ 8 (by kernel_rfl) (by kernel_rfl) (by kernel_rfl) (by kernel_rfl)) ?_
  intro W base args ds gs before hval0 hW hcnd _
  have hval : ∀ (j : Nat) t v, Try.f5.params[j]? = some t → args[j]? = some v → Value.okWide Try.prog W .any base t v := hval0
  have hW' := hW
  obtain ⟨p, q, hA0, hV, rfl, hfz, hnd⟩ := hW
  have hA : DataW.TrodAll enc Try.prog W 0 (fun _ => true) true Try.f5.params.toList args.toList ds p := hA0
  rw [Try.params5] at hA hval
  obtain ⟨v0, v1, v2, v3, v4, v5, d0, d1, d2, d3, d4, d5, q0, q1, q2, q3, q4, q5, rfl, rfl, rfl, p0, p1, p2, p3, p4, p5⟩ := trodAll_six hA
  obtain ⟨rfl, rfl⟩ := trodVars_none hV
  obtain ⟨c0, e0, y0, z0, m0, rfl, rfl, rfl, hy0, hz0⟩ := Joins.open_agg2 Try.underlying23 (by kernel_rfl) (by kernel_rfl) (hval 0 23 v0 rfl rfl) p0
  obtain ⟨xa, f0, rfl, wxa⟩ := DataW.trod_int Try.underlying3 hy0
  obtain ⟨ya, g0, rfl, wya⟩ := DataW.trod_int Try.underlying3 hz0
  simp at f0 g0
  subst f0 g0
  obtain ⟨c1, e1, y1, z1, m1, rfl, rfl, rfl, hy1, hz1⟩ := Joins.open_agg2 Try.underlying23 (by kernel_rfl) (by kernel_rfl) (hval 1 23 v1 rfl rfl) p1
  obtain ⟨xb, f1, rfl, wxb⟩ := DataW.trod_int Try.underlying3 hy1
  obtain ⟨yb, g1, rfl, wyb⟩ := DataW.trod_int Try.underlying3 hz1
  simp at f1 g1
  subst f1 g1
  obtain ⟨c2, e2, y2, z2, m2, rfl, rfl, rfl, hy2, hz2⟩ := Joins.open_agg2 Try.underlying23 (by kernel_rfl) (by kernel_rfl) (hval 2 23 v2 rfl rfl) p2
  obtain ⟨xc, f2, rfl, wxc⟩ := DataW.trod_int Try.underlying3 hy2
  obtain ⟨yc, g2, rfl, wyc⟩ := DataW.trod_int Try.underlying3 hz2
  simp at f2 g2
  subst f2 g2
  obtain ⟨c3, e3, y3, z3, m3, rfl, rfl, rfl, hy3, hz3⟩ := Joins.open_agg2 Try.underlying23 (by kernel_rfl) (by kernel_rfl) (hval 3 23 v3 rfl rfl) p3
  obtain ⟨xp, f3, rfl, wxp⟩ := DataW.trod_int Try.underlying3 hy3
  obtain ⟨yp, g3, rfl, wyp⟩ := DataW.trod_int Try.underlying3 hz3
  simp at f3 g3
  subst f3 g3
  obtain ⟨c4, e4, y4, z4, m4, rfl, rfl, rfl, hy4, hz4⟩ := Joins.open_agg2 Try.underlying23 (by kernel_rfl) (by kernel_rfl) (hval 4 23 v4 rfl rfl) p4
  obtain ⟨xq, f4, rfl, wxq⟩ := DataW.trod_int Try.underlying3 hy4
  obtain ⟨yq, g4, rfl, wyq⟩ := DataW.trod_int Try.underlying3 hz4
  simp at f4 g4
  subst f4 g4
  obtain ⟨i, rfl, rfl, rfl, wi⟩ := open_int Try.underlying3 (hval 5 3 v5 rfl rfl) p5
  clear hA0 hval0
  simp only [List.append_nil] at hW'
  refine (redg_law ⟨xa, ya⟩ ⟨xb, yb⟩ ⟨xc, yc⟩ ⟨xp, yp⟩ ⟨xq, yq⟩ i W).mono fun e W' ⟨he, hb⟩ => ?_
  subst he
  exact ⟨_, rfl, post_of_below (pa := []) (pv := []) hW' (fun _ _ _ => trodAll_mk1 (shut_bool Try.underlying4 true)) (fun sp _ => trodAll_mk6 (Joins.shut_agg2 (y0 := (.lit (.int .i64 xa), [])) (y1 := (.lit (.int .i64 ya), [])) Try.underlying23 (by kernel_rfl) (by kernel_rfl) ⟨1, by simp [DataW.trod, Try.underlying3, wxa]⟩ ⟨1, by simp [DataW.trod, Try.underlying3, wya]⟩) (Joins.shut_agg2 (y0 := (.lit (.int .i64 xb), [])) (y1 := (.lit (.int .i64 yb), [])) Try.underlying23 (by kernel_rfl) (by kernel_rfl) ⟨1, by simp [DataW.trod, Try.underlying3, wxb]⟩ ⟨1, by simp [DataW.trod, Try.underlying3, wyb]⟩) (Joins.shut_agg2 (y0 := (.lit (.int .i64 xc), [])) (y1 := (.lit (.int .i64 yc), [])) Try.underlying23 (by kernel_rfl) (by kernel_rfl) ⟨1, by simp [DataW.trod, Try.underlying3, wxc]⟩ ⟨1, by simp [DataW.trod, Try.underlying3, wyc]⟩) (Joins.shut_agg2 (y0 := (.lit (.int .i64 xp), [])) (y1 := (.lit (.int .i64 yp), [])) Try.underlying23 (by kernel_rfl) (by kernel_rfl) ⟨1, by simp [DataW.trod, Try.underlying3, wxp]⟩ ⟨1, by simp [DataW.trod, Try.underlying3, wyp]⟩) (Joins.shut_agg2 (y0 := (.lit (.int .i64 xq), [])) (y1 := (.lit (.int .i64 yq), [])) Try.underlying23 (by kernel_rfl) (by kernel_rfl) ⟨1, by simp [DataW.trod, Try.underlying3, wxq]⟩ ⟨1, by simp [DataW.trod, Try.underlying3, wyq]⟩) (shut_int Try.underlying3 wi)) (fun _ _ => rfl) rfl hb (ok_one (by kernel_rfl) rfl (okWide_bool_mk Try.underlying4 true))⟩
/-- The law ReachEdges holds of every input. -/
theorem reachEdges_holds : Rows.ReachEdgesSaid :=
  OpenClaim.holds_of_wide 5 Try.f5 rfl rfl rfl rfl rfl rfl rfl ⟨rfl, rfl, rfl, rfl, rfl⟩ rfl rfl rfl rfl rfl (by kernel_rfl) Try.func5 (by kernel_rfl)
    (of_decide_eq_true (by kernel_rfl)) (by unfold Func.isWrapper; rw [if_neg (of_decide_eq_false (by kernel_rfl))]; exact ⟨rfl, rfl⟩)
    (fun os started H enc _ => reachEdges_lifted os started H enc)
end Go.Proofs.Ytomdlhdpbdkdhaa
