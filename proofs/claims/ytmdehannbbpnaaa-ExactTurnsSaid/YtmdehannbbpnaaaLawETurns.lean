/- Turned round, the same is told of sides and circles; the other way round the opposite; moved along the grid nothing is changed: the law ExactTurns of package hectarelaw2 answers true at every input; no conditions. -/
import Derived.Test.YtmdehannbbpnaaaRows
import Derived.Test.YtmdehannbbpnaaaExS
import Derived.Test.YtmdehannbbpnaaaExT
import Derived.Test.YtmdehannbbpnaaaPost
import Derived.WalkKit
import Derived.WalkSpells
import Derived.WalkLawsBesides
import Derived.Deep.QuietTactic
import Derived.BigQuiet
import Derived.Lib.Hide
import Derived.Handy
import Derived.LoopN
import Derived.RegionTactic
import Derived.Carry
import Derived.ProofKit
import Derived.Lib.SmallJoins
namespace Go.Proofs.Ytmdehannbbpnaaa
open Go.RowKit Go.Sort Go.ChangeShapes Go.WideShapes Go.ChangeAt
attribute [local go_sem] rOper rAt rUpon cell_set sg_i64 sg_u64 alloc_cell alloc_frozen
attribute [local go_sem 10000] pt_eql pt_neq
attribute [local irreducible] rWalk

section
variable {H : Type} {enc : TypeId × Value → H} {P : Program} {w : World} {base : Nat} {spare : Nat → Bool} {held : Bool}
theorem trodAll_six {t0 t1 t2 t3 t4 t5 : TypeId} {args : Array Value} {ds : List (DataW H)} {ps : List MemPlace} (h : DataW.TrodAll enc P w base spare held [t0, t1, t2, t3, t4, t5] args.toList ds ps) :
    ∃ v0 v1 v2 v3 v4 v5 d0 d1 d2 d3 d4 d5 q0 q1 q2 q3 q4 q5, args = #[v0, v1, v2, v3, v4, v5] ∧ ds = [d0, d1, d2, d3, d4, d5] ∧ ps = q0 ++ (q1 ++ (q2 ++ (q3 ++ (q4 ++ q5)))) ∧ DataW.Trod enc P w base spare held t0 v0 d0 q0 ∧ DataW.Trod enc P w base spare held t1 v1 d1 q1 ∧ DataW.Trod enc P w base spare held t2 v2 d2 q2 ∧ DataW.Trod enc P w base spare held t3 v3 d3 q3 ∧ DataW.Trod enc P w base spare held t4 v4 d4 q4 ∧ DataW.Trod enc P w base spare held t5 v5 d5 q5 := by
  obtain ⟨v0, vs0, d0, ds0, q0, r0, hargs, rfl, rfl, h0, k0⟩ := trodAll_cons h
  obtain ⟨v1, vs1, d1, ds1, q1, r1, rfl, rfl, rfl, h1, k1⟩ := trodAll_cons k0
  obtain ⟨v2, vs2, d2, ds2, q2, r2, rfl, rfl, rfl, h2, k2⟩ := trodAll_cons k1
  obtain ⟨v3, vs3, d3, ds3, q3, r3, rfl, rfl, rfl, h3, k3⟩ := trodAll_cons k2
  obtain ⟨v4, vs4, d4, ds4, q4, r4, rfl, rfl, rfl, h4, k4⟩ := trodAll_cons k3
  obtain ⟨v5, vs5, d5, ds5, q5, r5, rfl, rfl, rfl, h5, k5⟩ := trodAll_cons k4
  obtain ⟨rfl, rfl, rfl⟩ := trodAll_nil k5
  exact ⟨v0, v1, v2, v3, v4, v5, d0, d1, d2, d3, d4, d5, q0, q1, q2, q3, q4, q5, by cases args; simp_all, rfl, by simp, h0, h1, h2, h3, h4, h5⟩
theorem trodAll_mk6 {t0 t1 t2 t3 t4 t5 : TypeId} {v0 v1 v2 v3 v4 v5 : Value} {d0 d1 d2 d3 d4 d5 : DataW H} {q0 q1 q2 q3 q4 q5 : List MemPlace} (h0 : DataW.Trod enc P w base spare held t0 v0 d0 q0) (h1 : DataW.Trod enc P w base spare held t1 v1 d1 q1) (h2 : DataW.Trod enc P w base spare held t2 v2 d2 q2) (h3 : DataW.Trod enc P w base spare held t3 v3 d3 q3) (h4 : DataW.Trod enc P w base spare held t4 v4 d4 q4) (h5 : DataW.Trod enc P w base spare held t5 v5 d5 q5) :
    DataW.TrodAll enc P w base spare held [t0, t1, t2, t3, t4, t5] [v0, v1, v2, v3, v4, v5] [d0, d1, d2, d3, d4, d5] (q0 ++ (q1 ++ (q2 ++ (q3 ++ (q4 ++ q5))))) := ⟨q0, _, h0, ⟨q1, _, h1, trodAll_mk4 h2 h3 h4 h5, rfl⟩, rfl⟩
end
theorem Box.drew {w : World} {b : Nat} {cs : List Value} {T : TypeId} (h : Box w b cs T) : Box w.drew b cs T := h
theorem circ_bd (a b c d : Pt) : -1 ≤ circ a b c d ∧ circ a b c d ≤ 1 := by
  by_cases h0 : ori a b c = 0
  · rw [circ_none (.inl h0)]; omega
  cases hv : vld d with
  | false => rw [circ_none (.inr (.inl hv))]; omega
  | true =>
  by_cases e1 : d = a
  · rw [circ_none (.inr (.inr (.inl e1)))]; omega
  by_cases e2 : d = b
  · rw [circ_none (.inr (.inr (.inr (.inl e2))))]; omega
  by_cases e3 : d = c
  · rw [circ_none (.inr (.inr (.inr (.inr e3))))]; omega
  have := circ_sign h0 hv e1 e2 e3
  omega
theorem mv_wrap {p : Pt} {x y : Int} (h : vld p = true) (t0 : decide (x < -1073741824) = false) (t1 : decide (1073741824 < x) = false) (t2 : decide (y < -1073741824) = false) (t3 : decide (1073741824 < y) = false) :
    IntKind.i64.wrap (p.x + x) = (mv p x y).x ∧ IntKind.i64.wrap (p.y + y) = (mv p x y).y := by
  rw [vld_iff] at h
  simp only [decide_eq_false_iff_not] at t0 t1 t2 t3
  rw [IntKind.wrap_i64, IntKind.wrap_i64]; unfold mv; simp only; omega
set_option maxRecDepth 100000 in
set_option maxHeartbeats 4000000 in
theorem turns_v0 (a b c d : Pt) (x y : Int) (h0 : vld a = false) (w : World) :
    Calls Try.prog 4 #[.agg #[.int .i64 a.x, .int .i64 a.y], .agg #[.int .i64 b.x, .int .i64 b.y], .agg #[.int .i64 c.x, .int .i64 c.y], .agg #[.int .i64 d.x, .int .i64 d.y], .int .i64 x, .int .i64 y] w fun e w' => e = .returned (.bool true) ∧ Below w.heap.size w w' := by
  have r1 := orient_any a b c
  have r2 := circle_any a b c d
  have r3 := orient_any b c a
  have r4 := orient_any b a c
  have r5 := circle_any b c a d
  have r6 := circle_any b a c d
  rw [ori_cyc] at r3
  rw [ori_swap] at r4
  rw [circ_cyc] at r5
  rw [circ_swap] at r6
  have bo := ori_bd a b c
  have bk := circ_bd a b c d
  have cv0 := rvalid_any a
  rw [h0] at cv0
  generalize ori a b c = O at *
  generalize circ a b c d = K at *
  clear h0
  go_enter Try.func4, Try.ntmps4
  go_wp2_with fail
  refine at_world fun W1 hW => ?_
  have Ba : Box W1 (w.heap.size) [.int .i64 a.x, .int .i64 a.y] 23 := by rw [hW]; exact (((Box.new rfl).old _).old _).old _
  have Bb : Box W1 (w.heap.size + 1) [.int .i64 b.x, .int .i64 b.y] 23 := by rw [hW]; exact ((Box.new (by simp)).old _).old _
  have Bc : Box W1 (w.heap.size + 1 + 1) [.int .i64 c.x, .int .i64 c.y] 23 := by rw [hW]; exact (Box.new (by simp)).old _
  have Bd : Box W1 (w.heap.size + 1 + 1 + 1) [.int .i64 d.x, .int .i64 d.y] 23 := by rw [hW]; exact Box.new (by simp)
  have hw : Below w.heap.size w W1 := by rw [hW]; go_grown
  clear hW
  have ga := Ba.cells
  have gb := Bb.cells
  have gc := Bc.cells
  have gd := Bd.cells
  refine wp_region_tail 9 (by kernel_rfl) (by kernel_rfl) (C := fun w' => ∃ p : Regrown, w' = grow (redrawn W1 p.d) p.os) (fun w' h => regrown_of_below h) ?_
  simp only [List.take_succ_cons, List.take_zero, List.drop_succ_cons, List.drop_zero]
  repeat (first | (refine rWalk_skip (Eq.refl false) ?_; simp only [Act.put, List.setIfInBounds_toArray, List.set_cons_succ, List.set_cons_zero]) | (refine rWalk_step (fun K hK => ?_); go_simp; first | (refine hK _ ?_; clear hK K) | (apply Exists.intro; refine ⟨fun _ => ?_, hK _ ?_⟩; (first | with_reducible exact toExt r1 _ | with_reducible exact toExt r2 _); clear hK K)))
  refine rWalk_nil ?_
  intro w2 hb
  clear ga gb gc gd
  replace Ba := Ba.ext hb rfl
  replace Bb := Bb.ext hb rfl
  replace Bc := Bc.ext hb rfl
  replace Bd := Bd.ext hb rfl
  replace hw := hw.trans (hb.mono hw.size)
  obtain ⟨xa, ya, za, va⟩ := Ba.facts
  obtain ⟨xb, yb, zb, vb⟩ := Bb.facts
  obtain ⟨xc, yc, zc, vc⟩ := Bc.facts
  obtain ⟨xd, yd, zd, vd⟩ := Bd.facts
  go_wp2_with fail
  refine (r3 _).mono ?_
  rintro e w3 ⟨rfl, hb⟩
  clear xa ya za va xb yb zb vb xc yc zc vc xd yd zd vd
  replace Ba := Ba.ext hb rfl
  replace Bb := Bb.ext hb rfl
  replace Bc := Bc.ext hb rfl
  replace Bd := Bd.ext hb rfl
  replace hw := hw.trans (hb.mono hw.size)
  clear hb
  obtain ⟨xa, ya, za, va⟩ := Ba.facts
  obtain ⟨xb, yb, zb, vb⟩ := Bb.facts
  obtain ⟨xc, yc, zc, vc⟩ := Bc.facts
  obtain ⟨xd, yd, zd, vd⟩ := Bd.facts
  go_wp2_with fail
  refine (r4 _).mono ?_
  rintro e w4 ⟨rfl, hb⟩
  clear xa ya za va xb yb zb vb xc yc zc vc xd yd zd vd
  replace Ba := Ba.ext hb rfl
  replace Bb := Bb.ext hb rfl
  replace Bc := Bc.ext hb rfl
  replace Bd := Bd.ext hb rfl
  replace hw := hw.trans (hb.mono hw.size)
  clear hb
  obtain ⟨xa, ya, za, va⟩ := Ba.facts
  obtain ⟨xb, yb, zb, vb⟩ := Bb.facts
  obtain ⟨xc, yc, zc, vc⟩ := Bc.facts
  obtain ⟨xd, yd, zd, vd⟩ := Bd.facts
  go_wp2_with fail
  refine (r5 _).mono ?_
  rintro e w5 ⟨rfl, hb⟩
  clear xa ya za va xb yb zb vb xc yc zc vc xd yd zd vd
  replace Ba := Ba.ext hb rfl
  replace Bb := Bb.ext hb rfl
  replace Bc := Bc.ext hb rfl
  replace Bd := Bd.ext hb rfl
  replace hw := hw.trans (hb.mono hw.size)
  clear hb
  obtain ⟨xa, ya, za, va⟩ := Ba.facts
  obtain ⟨xb, yb, zb, vb⟩ := Bb.facts
  obtain ⟨xc, yc, zc, vc⟩ := Bc.facts
  obtain ⟨xd, yd, zd, vd⟩ := Bd.facts
  go_wp2_with fail
  refine (r6 _).mono ?_
  rintro e w6 ⟨rfl, hb⟩
  clear xa ya za va xb yb zb vb xc yc zc vc xd yd zd vd
  replace Ba := Ba.ext hb rfl
  replace Bb := Bb.ext hb rfl
  replace Bc := Bc.ext hb rfl
  replace Bd := Bd.ext hb rfl
  replace hw := hw.trans (hb.mono hw.size)
  clear hb
  obtain ⟨xa, ya, za, va⟩ := Ba.facts
  obtain ⟨xb, yb, zb, vb⟩ := Bb.facts
  obtain ⟨xc, yc, zc, vc⟩ := Bc.facts
  obtain ⟨xd, yd, zd, vd⟩ := Bd.facts
  go_wp2_with fail
  refine at_world fun W7 hW => ?_
  obtain ⟨bkp, hbp⟩ : ∃ b, w6.heap.size = b := ⟨_, rfl⟩
  rw [hbp]
  have lap := Ba.lt
  rw [hbp] at lap
  have lbp := Bb.lt
  rw [hbp] at lbp
  have lcp := Bc.lt
  rw [hbp] at lcp
  have ldp := Bd.lt
  rw [hbp] at ldp
  have fp := hw.size
  rw [hbp] at fp
  have Bp : Box W7 bkp [.int .i64 a.x, .int .i64 a.y, .int .i64 b.x, .int .i64 b.y, .int .i64 c.x, .int .i64 c.y, .int .i64 d.x, .int .i64 d.y] 31 := by rw [hW]; exact Box.new hbp.symm
  replace Ba : Box W7 (w.heap.size) [.int .i64 a.x, .int .i64 a.y] 23 := by rw [hW]; exact Ba.old _
  replace Bb : Box W7 (w.heap.size + 1) [.int .i64 b.x, .int .i64 b.y] 23 := by rw [hW]; exact Bb.old _
  replace Bc : Box W7 (w.heap.size + 1 + 1) [.int .i64 c.x, .int .i64 c.y] 23 := by rw [hW]; exact Bc.old _
  replace Bd : Box W7 (w.heap.size + 1 + 1 + 1) [.int .i64 d.x, .int .i64 d.y] 23 := by rw [hW]; exact Bd.old _
  replace hw : Below w.heap.size w W7 := by have hl := hw.size; rw [hW]; go_grown
  clear hW hbp
  refine wp_loop_rounds 5 ?_
  rw [rounds_succ]
  obtain ⟨xa, ya, za, va⟩ := Ba.facts
  obtain ⟨xb, yb, zb, vb⟩ := Bb.facts
  obtain ⟨xc, yc, zc, vc⟩ := Bc.facts
  obtain ⟨xd, yd, zd, vd⟩ := Bd.facts
  obtain ⟨xp, yp, zp, vp⟩ := Bp.facts
  go_wp2_with fail
  refine (cv0 _).mono ?_
  rintro e w8 ⟨rfl, hb⟩
  clear xa ya za va xb yb zb vb xc yc zc vc xd yd zd vd xp yp zp vp
  replace Ba := Ba.ext hb rfl
  replace Bb := Bb.ext hb rfl
  replace Bc := Bc.ext hb rfl
  replace Bd := Bd.ext hb rfl
  replace Bp := Bp.ext hb rfl
  replace hw := hw.trans (hb.mono hw.size)
  clear hb
  obtain ⟨xa, ya, za, va⟩ := Ba.facts
  obtain ⟨xb, yb, zb, vb⟩ := Bb.facts
  obtain ⟨xc, yc, zc, vc⟩ := Bc.facts
  obtain ⟨xd, yd, zd, vd⟩ := Bd.facts
  obtain ⟨xp, yp, zp, vp⟩ := Bp.facts
  go_wp2_with fail
  refine (awake_any _).mono ?_
  rintro e w9 ⟨rfl, hb⟩
  clear xa ya za va xb yb zb vb xc yc zc vc xd yd zd vd xp yp zp vp
  replace Ba := Ba.ext hb rfl
  replace Bb := Bb.ext hb rfl
  replace Bc := Bc.ext hb rfl
  replace Bd := Bd.ext hb rfl
  replace Bp := Bp.ext hb rfl
  replace hw := hw.trans (hb.mono hw.size)
  clear hb
  go_wp2
  go_ret
  exact ⟨rfl, hw⟩

set_option maxRecDepth 100000 in
set_option maxHeartbeats 4000000 in
theorem turns_v1 (a b c d : Pt) (x y : Int) (h0 : vld a = true) (k0 : vld (mv a x y) = true) (h1 : vld b = false) (t0 : decide (x < -1073741824) = false) (t1 : decide (1073741824 < x) = false) (t2 : decide (y < -1073741824) = false) (t3 : decide (1073741824 < y) = false) (w : World) :
    Calls Try.prog 4 #[.agg #[.int .i64 a.x, .int .i64 a.y], .agg #[.int .i64 b.x, .int .i64 b.y], .agg #[.int .i64 c.x, .int .i64 c.y], .agg #[.int .i64 d.x, .int .i64 d.y], .int .i64 x, .int .i64 y] w fun e w' => e = .returned (.bool true) ∧ Below w.heap.size w w' := by
  have r1 := orient_any a b c
  have r2 := circle_any a b c d
  have r3 := orient_any b c a
  have r4 := orient_any b a c
  have r5 := circle_any b c a d
  have r6 := circle_any b a c d
  rw [ori_cyc] at r3
  rw [ori_swap] at r4
  rw [circ_cyc] at r5
  rw [circ_swap] at r6
  have bo := ori_bd a b c
  have bk := circ_bd a b c d
  have cv0 := rvalid_any a
  rw [h0] at cv0
  have cv1 := rvalid_any b
  rw [h1] at cv1
  have cm0 := rvalid_any (mv a x y)
  rw [k0] at cm0
  obtain ⟨wa0, wb0⟩ := mv_wrap h0 t0 t1 t2 t3
  generalize ori a b c = O at *
  generalize circ a b c d = K at *
  clear h0 h1 k0
  generalize mv a x y = m0 at *
  go_enter Try.func4, Try.ntmps4
  go_wp2_with fail
  refine at_world fun W1 hW => ?_
  have Ba : Box W1 (w.heap.size) [.int .i64 a.x, .int .i64 a.y] 23 := by rw [hW]; exact (((Box.new rfl).old _).old _).old _
  have Bb : Box W1 (w.heap.size + 1) [.int .i64 b.x, .int .i64 b.y] 23 := by rw [hW]; exact ((Box.new (by simp)).old _).old _
  have Bc : Box W1 (w.heap.size + 1 + 1) [.int .i64 c.x, .int .i64 c.y] 23 := by rw [hW]; exact (Box.new (by simp)).old _
  have Bd : Box W1 (w.heap.size + 1 + 1 + 1) [.int .i64 d.x, .int .i64 d.y] 23 := by rw [hW]; exact Box.new (by simp)
  have hw : Below w.heap.size w W1 := by rw [hW]; go_grown
  clear hW
  have ga := Ba.cells
  have gb := Bb.cells
  have gc := Bc.cells
  have gd := Bd.cells
  refine wp_region_tail 9 (by kernel_rfl) (by kernel_rfl) (C := fun w' => ∃ p : Regrown, w' = grow (redrawn W1 p.d) p.os) (fun w' h => regrown_of_below h) ?_
  simp only [List.take_succ_cons, List.take_zero, List.drop_succ_cons, List.drop_zero]
  repeat (first | (refine rWalk_skip (Eq.refl false) ?_; simp only [Act.put, List.setIfInBounds_toArray, List.set_cons_succ, List.set_cons_zero]) | (refine rWalk_step (fun K hK => ?_); go_simp; first | (refine hK _ ?_; clear hK K) | (apply Exists.intro; refine ⟨fun _ => ?_, hK _ ?_⟩; (first | with_reducible exact toExt r1 _ | with_reducible exact toExt r2 _); clear hK K)))
  refine rWalk_nil ?_
  intro w2 hb
  clear ga gb gc gd
  replace Ba := Ba.ext hb rfl
  replace Bb := Bb.ext hb rfl
  replace Bc := Bc.ext hb rfl
  replace Bd := Bd.ext hb rfl
  replace hw := hw.trans (hb.mono hw.size)
  obtain ⟨xa, ya, za, va⟩ := Ba.facts
  obtain ⟨xb, yb, zb, vb⟩ := Bb.facts
  obtain ⟨xc, yc, zc, vc⟩ := Bc.facts
  obtain ⟨xd, yd, zd, vd⟩ := Bd.facts
  go_wp2_with fail
  refine (r3 _).mono ?_
  rintro e w3 ⟨rfl, hb⟩
  clear xa ya za va xb yb zb vb xc yc zc vc xd yd zd vd
  replace Ba := Ba.ext hb rfl
  replace Bb := Bb.ext hb rfl
  replace Bc := Bc.ext hb rfl
  replace Bd := Bd.ext hb rfl
  replace hw := hw.trans (hb.mono hw.size)
  clear hb
  obtain ⟨xa, ya, za, va⟩ := Ba.facts
  obtain ⟨xb, yb, zb, vb⟩ := Bb.facts
  obtain ⟨xc, yc, zc, vc⟩ := Bc.facts
  obtain ⟨xd, yd, zd, vd⟩ := Bd.facts
  go_wp2_with fail
  refine (r4 _).mono ?_
  rintro e w4 ⟨rfl, hb⟩
  clear xa ya za va xb yb zb vb xc yc zc vc xd yd zd vd
  replace Ba := Ba.ext hb rfl
  replace Bb := Bb.ext hb rfl
  replace Bc := Bc.ext hb rfl
  replace Bd := Bd.ext hb rfl
  replace hw := hw.trans (hb.mono hw.size)
  clear hb
  obtain ⟨xa, ya, za, va⟩ := Ba.facts
  obtain ⟨xb, yb, zb, vb⟩ := Bb.facts
  obtain ⟨xc, yc, zc, vc⟩ := Bc.facts
  obtain ⟨xd, yd, zd, vd⟩ := Bd.facts
  go_wp2_with fail
  refine (r5 _).mono ?_
  rintro e w5 ⟨rfl, hb⟩
  clear xa ya za va xb yb zb vb xc yc zc vc xd yd zd vd
  replace Ba := Ba.ext hb rfl
  replace Bb := Bb.ext hb rfl
  replace Bc := Bc.ext hb rfl
  replace Bd := Bd.ext hb rfl
  replace hw := hw.trans (hb.mono hw.size)
  clear hb
  obtain ⟨xa, ya, za, va⟩ := Ba.facts
  obtain ⟨xb, yb, zb, vb⟩ := Bb.facts
  obtain ⟨xc, yc, zc, vc⟩ := Bc.facts
  obtain ⟨xd, yd, zd, vd⟩ := Bd.facts
  go_wp2_with fail
  refine (r6 _).mono ?_
  rintro e w6 ⟨rfl, hb⟩
  clear xa ya za va xb yb zb vb xc yc zc vc xd yd zd vd
  replace Ba := Ba.ext hb rfl
  replace Bb := Bb.ext hb rfl
  replace Bc := Bc.ext hb rfl
  replace Bd := Bd.ext hb rfl
  replace hw := hw.trans (hb.mono hw.size)
  clear hb
  obtain ⟨xa, ya, za, va⟩ := Ba.facts
  obtain ⟨xb, yb, zb, vb⟩ := Bb.facts
  obtain ⟨xc, yc, zc, vc⟩ := Bc.facts
  obtain ⟨xd, yd, zd, vd⟩ := Bd.facts
  go_wp2_with fail
  refine at_world fun W7 hW => ?_
  obtain ⟨bkp, hbp⟩ : ∃ b, w6.heap.size = b := ⟨_, rfl⟩
  rw [hbp]
  have lap := Ba.lt
  rw [hbp] at lap
  have lbp := Bb.lt
  rw [hbp] at lbp
  have lcp := Bc.lt
  rw [hbp] at lcp
  have ldp := Bd.lt
  rw [hbp] at ldp
  have fp := hw.size
  rw [hbp] at fp
  have Bp : Box W7 bkp [.int .i64 a.x, .int .i64 a.y, .int .i64 b.x, .int .i64 b.y, .int .i64 c.x, .int .i64 c.y, .int .i64 d.x, .int .i64 d.y] 31 := by rw [hW]; exact Box.new hbp.symm
  replace Ba : Box W7 (w.heap.size) [.int .i64 a.x, .int .i64 a.y] 23 := by rw [hW]; exact Ba.old _
  replace Bb : Box W7 (w.heap.size + 1) [.int .i64 b.x, .int .i64 b.y] 23 := by rw [hW]; exact Bb.old _
  replace Bc : Box W7 (w.heap.size + 1 + 1) [.int .i64 c.x, .int .i64 c.y] 23 := by rw [hW]; exact Bc.old _
  replace Bd : Box W7 (w.heap.size + 1 + 1 + 1) [.int .i64 d.x, .int .i64 d.y] 23 := by rw [hW]; exact Bd.old _
  replace hw : Below w.heap.size w W7 := by have hl := hw.size; rw [hW]; go_grown
  clear hW hbp
  refine wp_loop_rounds 5 ?_
  rw [rounds_succ]
  obtain ⟨xa, ya, za, va⟩ := Ba.facts
  obtain ⟨xb, yb, zb, vb⟩ := Bb.facts
  obtain ⟨xc, yc, zc, vc⟩ := Bc.facts
  obtain ⟨xd, yd, zd, vd⟩ := Bd.facts
  obtain ⟨xp, yp, zp, vp⟩ := Bp.facts
  go_wp2_with fail
  refine (cv0 _).mono ?_
  rintro e w8 ⟨rfl, hb⟩
  clear xa ya za va xb yb zb vb xc yc zc vc xd yd zd vd xp yp zp vp
  replace Ba := Ba.ext hb rfl
  replace Bb := Bb.ext hb rfl
  replace Bc := Bc.ext hb rfl
  replace Bd := Bd.ext hb rfl
  replace Bp := Bp.ext hb rfl
  replace hw := hw.trans (hb.mono hw.size)
  clear hb
  obtain ⟨xa, ya, za, va⟩ := Ba.facts
  obtain ⟨xb, yb, zb, vb⟩ := Bb.facts
  obtain ⟨xc, yc, zc, vc⟩ := Bc.facts
  obtain ⟨xd, yd, zd, vd⟩ := Bd.facts
  obtain ⟨xp, yp, zp, vp⟩ := Bp.facts
  go_wp2_with fail
  go_region
  go_wp2_with fail
  refine at_call fun W9 hW => ?_
  have Ca : Box W9 (w.heap.size) [.int .i64 a.x, .int .i64 a.y] 23 := by rw [hW]; exact (((Ba.set_ne ⟨bkp, 0, none⟩ (.int .i64 m0.x) (by show bkp ≠ _; omega)).set_ne ⟨bkp, 1, none⟩ (.int .i64 m0.y) (by show bkp ≠ _; omega))).drew
  have Cb : Box W9 (w.heap.size + 1) [.int .i64 b.x, .int .i64 b.y] 23 := by rw [hW]; exact (((Bb.set_ne ⟨bkp, 0, none⟩ (.int .i64 m0.x) (by show bkp ≠ _; omega)).set_ne ⟨bkp, 1, none⟩ (.int .i64 m0.y) (by show bkp ≠ _; omega))).drew
  have Cc : Box W9 (w.heap.size + 1 + 1) [.int .i64 c.x, .int .i64 c.y] 23 := by rw [hW]; exact (((Bc.set_ne ⟨bkp, 0, none⟩ (.int .i64 m0.x) (by show bkp ≠ _; omega)).set_ne ⟨bkp, 1, none⟩ (.int .i64 m0.y) (by show bkp ≠ _; omega))).drew
  have Cd : Box W9 (w.heap.size + 1 + 1 + 1) [.int .i64 d.x, .int .i64 d.y] 23 := by rw [hW]; exact (((Bd.set_ne ⟨bkp, 0, none⟩ (.int .i64 m0.x) (by show bkp ≠ _; omega)).set_ne ⟨bkp, 1, none⟩ (.int .i64 m0.y) (by show bkp ≠ _; omega))).drew
  have Cp : Box W9 (bkp) [.int .i64 m0.x, .int .i64 m0.y, .int .i64 b.x, .int .i64 b.y, .int .i64 c.x, .int .i64 c.y, .int .i64 d.x, .int .i64 d.y] 31 := by rw [hW]; exact (((Bp.set 0 (.int .i64 m0.x)).set 1 (.int .i64 m0.y))).drew
  replace hw : Below w.heap.size w W9 := by have hl := hw.size; rw [hW]; go_grown
  clear xa ya za va xb yb zb vb xc yc zc vc xd yd zd vd xp yp zp vp
  clear hW Ba Bb Bc Bd Bp
  have Ba := Ca
  have Bb := Cb
  have Bc := Cc
  have Bd := Cd
  have Bp := Cp
  clear Ca Cb Cc Cd Cp
  refine (cm0 _).mono ?_
  rintro e w10 ⟨rfl, hb⟩
  replace Ba := Ba.ext hb rfl
  replace Bb := Bb.ext hb rfl
  replace Bc := Bc.ext hb rfl
  replace Bd := Bd.ext hb rfl
  replace Bp := Bp.ext hb rfl
  replace hw := hw.trans (hb.mono hw.size)
  clear hb
  obtain ⟨xa, ya, za, va⟩ := Ba.facts
  obtain ⟨xb, yb, zb, vb⟩ := Bb.facts
  obtain ⟨xc, yc, zc, vc⟩ := Bc.facts
  obtain ⟨xd, yd, zd, vd⟩ := Bd.facts
  obtain ⟨xp, yp, zp, vp⟩ := Bp.facts
  go_wp2_with fail
  rw [rounds_succ]
  obtain ⟨xa, ya, za, va⟩ := Ba.facts
  obtain ⟨xb, yb, zb, vb⟩ := Bb.facts
  obtain ⟨xc, yc, zc, vc⟩ := Bc.facts
  obtain ⟨xd, yd, zd, vd⟩ := Bd.facts
  obtain ⟨xp, yp, zp, vp⟩ := Bp.facts
  go_wp2_with fail
  refine (cv1 _).mono ?_
  rintro e w11 ⟨rfl, hb⟩
  clear xa ya za va xb yb zb vb xc yc zc vc xd yd zd vd xp yp zp vp
  replace Ba := Ba.ext hb rfl
  replace Bb := Bb.ext hb rfl
  replace Bc := Bc.ext hb rfl
  replace Bd := Bd.ext hb rfl
  replace Bp := Bp.ext hb rfl
  replace hw := hw.trans (hb.mono hw.size)
  clear hb
  obtain ⟨xa, ya, za, va⟩ := Ba.facts
  obtain ⟨xb, yb, zb, vb⟩ := Bb.facts
  obtain ⟨xc, yc, zc, vc⟩ := Bc.facts
  obtain ⟨xd, yd, zd, vd⟩ := Bd.facts
  obtain ⟨xp, yp, zp, vp⟩ := Bp.facts
  go_wp2_with fail
  refine (awake_any _).mono ?_
  rintro e w12 ⟨rfl, hb⟩
  clear xa ya za va xb yb zb vb xc yc zc vc xd yd zd vd xp yp zp vp
  replace Ba := Ba.ext hb rfl
  replace Bb := Bb.ext hb rfl
  replace Bc := Bc.ext hb rfl
  replace Bd := Bd.ext hb rfl
  replace Bp := Bp.ext hb rfl
  replace hw := hw.trans (hb.mono hw.size)
  clear hb
  go_wp2
  go_ret
  exact ⟨rfl, hw⟩

set_option maxRecDepth 100000 in
set_option maxHeartbeats 4000000 in
theorem turns_v2 (a b c d : Pt) (x y : Int) (h0 : vld a = true) (k0 : vld (mv a x y) = true) (h1 : vld b = true) (k1 : vld (mv b x y) = true) (h2 : vld c = false) (t0 : decide (x < -1073741824) = false) (t1 : decide (1073741824 < x) = false) (t2 : decide (y < -1073741824) = false) (t3 : decide (1073741824 < y) = false) (w : World) :
    Calls Try.prog 4 #[.agg #[.int .i64 a.x, .int .i64 a.y], .agg #[.int .i64 b.x, .int .i64 b.y], .agg #[.int .i64 c.x, .int .i64 c.y], .agg #[.int .i64 d.x, .int .i64 d.y], .int .i64 x, .int .i64 y] w fun e w' => e = .returned (.bool true) ∧ Below w.heap.size w w' := by
  have r1 := orient_any a b c
  have r2 := circle_any a b c d
  have r3 := orient_any b c a
  have r4 := orient_any b a c
  have r5 := circle_any b c a d
  have r6 := circle_any b a c d
  rw [ori_cyc] at r3
  rw [ori_swap] at r4
  rw [circ_cyc] at r5
  rw [circ_swap] at r6
  have bo := ori_bd a b c
  have bk := circ_bd a b c d
  have cv0 := rvalid_any a
  rw [h0] at cv0
  have cv1 := rvalid_any b
  rw [h1] at cv1
  have cv2 := rvalid_any c
  rw [h2] at cv2
  have cm0 := rvalid_any (mv a x y)
  rw [k0] at cm0
  obtain ⟨wa0, wb0⟩ := mv_wrap h0 t0 t1 t2 t3
  have cm1 := rvalid_any (mv b x y)
  rw [k1] at cm1
  obtain ⟨wa1, wb1⟩ := mv_wrap h1 t0 t1 t2 t3
  generalize ori a b c = O at *
  generalize circ a b c d = K at *
  clear h0 h1 h2 k0 k1
  generalize mv a x y = m0 at *
  generalize mv b x y = m1 at *
  go_enter Try.func4, Try.ntmps4
  go_wp2_with fail
  refine at_world fun W1 hW => ?_
  have Ba : Box W1 (w.heap.size) [.int .i64 a.x, .int .i64 a.y] 23 := by rw [hW]; exact (((Box.new rfl).old _).old _).old _
  have Bb : Box W1 (w.heap.size + 1) [.int .i64 b.x, .int .i64 b.y] 23 := by rw [hW]; exact ((Box.new (by simp)).old _).old _
  have Bc : Box W1 (w.heap.size + 1 + 1) [.int .i64 c.x, .int .i64 c.y] 23 := by rw [hW]; exact (Box.new (by simp)).old _
  have Bd : Box W1 (w.heap.size + 1 + 1 + 1) [.int .i64 d.x, .int .i64 d.y] 23 := by rw [hW]; exact Box.new (by simp)
  have hw : Below w.heap.size w W1 := by rw [hW]; go_grown
  clear hW
  have ga := Ba.cells
  have gb := Bb.cells
  have gc := Bc.cells
  have gd := Bd.cells
  refine wp_region_tail 9 (by kernel_rfl) (by kernel_rfl) (C := fun w' => ∃ p : Regrown, w' = grow (redrawn W1 p.d) p.os) (fun w' h => regrown_of_below h) ?_
  simp only [List.take_succ_cons, List.take_zero, List.drop_succ_cons, List.drop_zero]
  repeat (first | (refine rWalk_skip (Eq.refl false) ?_; simp only [Act.put, List.setIfInBounds_toArray, List.set_cons_succ, List.set_cons_zero]) | (refine rWalk_step (fun K hK => ?_); go_simp; first | (refine hK _ ?_; clear hK K) | (apply Exists.intro; refine ⟨fun _ => ?_, hK _ ?_⟩; (first | with_reducible exact toExt r1 _ | with_reducible exact toExt r2 _); clear hK K)))
  refine rWalk_nil ?_
  intro w2 hb
  clear ga gb gc gd
  replace Ba := Ba.ext hb rfl
  replace Bb := Bb.ext hb rfl
  replace Bc := Bc.ext hb rfl
  replace Bd := Bd.ext hb rfl
  replace hw := hw.trans (hb.mono hw.size)
  obtain ⟨xa, ya, za, va⟩ := Ba.facts
  obtain ⟨xb, yb, zb, vb⟩ := Bb.facts
  obtain ⟨xc, yc, zc, vc⟩ := Bc.facts
  obtain ⟨xd, yd, zd, vd⟩ := Bd.facts
  go_wp2_with fail
  refine (r3 _).mono ?_
  rintro e w3 ⟨rfl, hb⟩
  clear xa ya za va xb yb zb vb xc yc zc vc xd yd zd vd
  replace Ba := Ba.ext hb rfl
  replace Bb := Bb.ext hb rfl
  replace Bc := Bc.ext hb rfl
  replace Bd := Bd.ext hb rfl
  replace hw := hw.trans (hb.mono hw.size)
  clear hb
  obtain ⟨xa, ya, za, va⟩ := Ba.facts
  obtain ⟨xb, yb, zb, vb⟩ := Bb.facts
  obtain ⟨xc, yc, zc, vc⟩ := Bc.facts
  obtain ⟨xd, yd, zd, vd⟩ := Bd.facts
  go_wp2_with fail
  refine (r4 _).mono ?_
  rintro e w4 ⟨rfl, hb⟩
  clear xa ya za va xb yb zb vb xc yc zc vc xd yd zd vd
  replace Ba := Ba.ext hb rfl
  replace Bb := Bb.ext hb rfl
  replace Bc := Bc.ext hb rfl
  replace Bd := Bd.ext hb rfl
  replace hw := hw.trans (hb.mono hw.size)
  clear hb
  obtain ⟨xa, ya, za, va⟩ := Ba.facts
  obtain ⟨xb, yb, zb, vb⟩ := Bb.facts
  obtain ⟨xc, yc, zc, vc⟩ := Bc.facts
  obtain ⟨xd, yd, zd, vd⟩ := Bd.facts
  go_wp2_with fail
  refine (r5 _).mono ?_
  rintro e w5 ⟨rfl, hb⟩
  clear xa ya za va xb yb zb vb xc yc zc vc xd yd zd vd
  replace Ba := Ba.ext hb rfl
  replace Bb := Bb.ext hb rfl
  replace Bc := Bc.ext hb rfl
  replace Bd := Bd.ext hb rfl
  replace hw := hw.trans (hb.mono hw.size)
  clear hb
  obtain ⟨xa, ya, za, va⟩ := Ba.facts
  obtain ⟨xb, yb, zb, vb⟩ := Bb.facts
  obtain ⟨xc, yc, zc, vc⟩ := Bc.facts
  obtain ⟨xd, yd, zd, vd⟩ := Bd.facts
  go_wp2_with fail
  refine (r6 _).mono ?_
  rintro e w6 ⟨rfl, hb⟩
  clear xa ya za va xb yb zb vb xc yc zc vc xd yd zd vd
  replace Ba := Ba.ext hb rfl
  replace Bb := Bb.ext hb rfl
  replace Bc := Bc.ext hb rfl
  replace Bd := Bd.ext hb rfl
  replace hw := hw.trans (hb.mono hw.size)
  clear hb
  obtain ⟨xa, ya, za, va⟩ := Ba.facts
  obtain ⟨xb, yb, zb, vb⟩ := Bb.facts
  obtain ⟨xc, yc, zc, vc⟩ := Bc.facts
  obtain ⟨xd, yd, zd, vd⟩ := Bd.facts
  go_wp2_with fail
  refine at_world fun W7 hW => ?_
  obtain ⟨bkp, hbp⟩ : ∃ b, w6.heap.size = b := ⟨_, rfl⟩
  rw [hbp]
  have lap := Ba.lt
  rw [hbp] at lap
  have lbp := Bb.lt
  rw [hbp] at lbp
  have lcp := Bc.lt
  rw [hbp] at lcp
  have ldp := Bd.lt
  rw [hbp] at ldp
  have fp := hw.size
  rw [hbp] at fp
  have Bp : Box W7 bkp [.int .i64 a.x, .int .i64 a.y, .int .i64 b.x, .int .i64 b.y, .int .i64 c.x, .int .i64 c.y, .int .i64 d.x, .int .i64 d.y] 31 := by rw [hW]; exact Box.new hbp.symm
  replace Ba : Box W7 (w.heap.size) [.int .i64 a.x, .int .i64 a.y] 23 := by rw [hW]; exact Ba.old _
  replace Bb : Box W7 (w.heap.size + 1) [.int .i64 b.x, .int .i64 b.y] 23 := by rw [hW]; exact Bb.old _
  replace Bc : Box W7 (w.heap.size + 1 + 1) [.int .i64 c.x, .int .i64 c.y] 23 := by rw [hW]; exact Bc.old _
  replace Bd : Box W7 (w.heap.size + 1 + 1 + 1) [.int .i64 d.x, .int .i64 d.y] 23 := by rw [hW]; exact Bd.old _
  replace hw : Below w.heap.size w W7 := by have hl := hw.size; rw [hW]; go_grown
  clear hW hbp
  refine wp_loop_rounds 5 ?_
  rw [rounds_succ]
  obtain ⟨xa, ya, za, va⟩ := Ba.facts
  obtain ⟨xb, yb, zb, vb⟩ := Bb.facts
  obtain ⟨xc, yc, zc, vc⟩ := Bc.facts
  obtain ⟨xd, yd, zd, vd⟩ := Bd.facts
  obtain ⟨xp, yp, zp, vp⟩ := Bp.facts
  go_wp2_with fail
  refine (cv0 _).mono ?_
  rintro e w8 ⟨rfl, hb⟩
  clear xa ya za va xb yb zb vb xc yc zc vc xd yd zd vd xp yp zp vp
  replace Ba := Ba.ext hb rfl
  replace Bb := Bb.ext hb rfl
  replace Bc := Bc.ext hb rfl
  replace Bd := Bd.ext hb rfl
  replace Bp := Bp.ext hb rfl
  replace hw := hw.trans (hb.mono hw.size)
  clear hb
  obtain ⟨xa, ya, za, va⟩ := Ba.facts
  obtain ⟨xb, yb, zb, vb⟩ := Bb.facts
  obtain ⟨xc, yc, zc, vc⟩ := Bc.facts
  obtain ⟨xd, yd, zd, vd⟩ := Bd.facts
  obtain ⟨xp, yp, zp, vp⟩ := Bp.facts
  go_wp2_with fail
  go_region
  go_wp2_with fail
  refine at_call fun W9 hW => ?_
  have Ca : Box W9 (w.heap.size) [.int .i64 a.x, .int .i64 a.y] 23 := by rw [hW]; exact (((Ba.set_ne ⟨bkp, 0, none⟩ (.int .i64 m0.x) (by show bkp ≠ _; omega)).set_ne ⟨bkp, 1, none⟩ (.int .i64 m0.y) (by show bkp ≠ _; omega))).drew
  have Cb : Box W9 (w.heap.size + 1) [.int .i64 b.x, .int .i64 b.y] 23 := by rw [hW]; exact (((Bb.set_ne ⟨bkp, 0, none⟩ (.int .i64 m0.x) (by show bkp ≠ _; omega)).set_ne ⟨bkp, 1, none⟩ (.int .i64 m0.y) (by show bkp ≠ _; omega))).drew
  have Cc : Box W9 (w.heap.size + 1 + 1) [.int .i64 c.x, .int .i64 c.y] 23 := by rw [hW]; exact (((Bc.set_ne ⟨bkp, 0, none⟩ (.int .i64 m0.x) (by show bkp ≠ _; omega)).set_ne ⟨bkp, 1, none⟩ (.int .i64 m0.y) (by show bkp ≠ _; omega))).drew
  have Cd : Box W9 (w.heap.size + 1 + 1 + 1) [.int .i64 d.x, .int .i64 d.y] 23 := by rw [hW]; exact (((Bd.set_ne ⟨bkp, 0, none⟩ (.int .i64 m0.x) (by show bkp ≠ _; omega)).set_ne ⟨bkp, 1, none⟩ (.int .i64 m0.y) (by show bkp ≠ _; omega))).drew
  have Cp : Box W9 (bkp) [.int .i64 m0.x, .int .i64 m0.y, .int .i64 b.x, .int .i64 b.y, .int .i64 c.x, .int .i64 c.y, .int .i64 d.x, .int .i64 d.y] 31 := by rw [hW]; exact (((Bp.set 0 (.int .i64 m0.x)).set 1 (.int .i64 m0.y))).drew
  replace hw : Below w.heap.size w W9 := by have hl := hw.size; rw [hW]; go_grown
  clear xa ya za va xb yb zb vb xc yc zc vc xd yd zd vd xp yp zp vp
  clear hW Ba Bb Bc Bd Bp
  have Ba := Ca
  have Bb := Cb
  have Bc := Cc
  have Bd := Cd
  have Bp := Cp
  clear Ca Cb Cc Cd Cp
  refine (cm0 _).mono ?_
  rintro e w10 ⟨rfl, hb⟩
  replace Ba := Ba.ext hb rfl
  replace Bb := Bb.ext hb rfl
  replace Bc := Bc.ext hb rfl
  replace Bd := Bd.ext hb rfl
  replace Bp := Bp.ext hb rfl
  replace hw := hw.trans (hb.mono hw.size)
  clear hb
  obtain ⟨xa, ya, za, va⟩ := Ba.facts
  obtain ⟨xb, yb, zb, vb⟩ := Bb.facts
  obtain ⟨xc, yc, zc, vc⟩ := Bc.facts
  obtain ⟨xd, yd, zd, vd⟩ := Bd.facts
  obtain ⟨xp, yp, zp, vp⟩ := Bp.facts
  go_wp2_with fail
  rw [rounds_succ]
  obtain ⟨xa, ya, za, va⟩ := Ba.facts
  obtain ⟨xb, yb, zb, vb⟩ := Bb.facts
  obtain ⟨xc, yc, zc, vc⟩ := Bc.facts
  obtain ⟨xd, yd, zd, vd⟩ := Bd.facts
  obtain ⟨xp, yp, zp, vp⟩ := Bp.facts
  go_wp2_with fail
  refine (cv1 _).mono ?_
  rintro e w11 ⟨rfl, hb⟩
  clear xa ya za va xb yb zb vb xc yc zc vc xd yd zd vd xp yp zp vp
  replace Ba := Ba.ext hb rfl
  replace Bb := Bb.ext hb rfl
  replace Bc := Bc.ext hb rfl
  replace Bd := Bd.ext hb rfl
  replace Bp := Bp.ext hb rfl
  replace hw := hw.trans (hb.mono hw.size)
  clear hb
  obtain ⟨xa, ya, za, va⟩ := Ba.facts
  obtain ⟨xb, yb, zb, vb⟩ := Bb.facts
  obtain ⟨xc, yc, zc, vc⟩ := Bc.facts
  obtain ⟨xd, yd, zd, vd⟩ := Bd.facts
  obtain ⟨xp, yp, zp, vp⟩ := Bp.facts
  go_wp2_with fail
  go_region
  go_wp2_with fail
  refine at_call fun W12 hW => ?_
  have Ca : Box W12 (w.heap.size) [.int .i64 a.x, .int .i64 a.y] 23 := by rw [hW]; exact (((Ba.set_ne ⟨bkp, 2, none⟩ (.int .i64 m1.x) (by show bkp ≠ _; omega)).set_ne ⟨bkp, 3, none⟩ (.int .i64 m1.y) (by show bkp ≠ _; omega))).drew
  have Cb : Box W12 (w.heap.size + 1) [.int .i64 b.x, .int .i64 b.y] 23 := by rw [hW]; exact (((Bb.set_ne ⟨bkp, 2, none⟩ (.int .i64 m1.x) (by show bkp ≠ _; omega)).set_ne ⟨bkp, 3, none⟩ (.int .i64 m1.y) (by show bkp ≠ _; omega))).drew
  have Cc : Box W12 (w.heap.size + 1 + 1) [.int .i64 c.x, .int .i64 c.y] 23 := by rw [hW]; exact (((Bc.set_ne ⟨bkp, 2, none⟩ (.int .i64 m1.x) (by show bkp ≠ _; omega)).set_ne ⟨bkp, 3, none⟩ (.int .i64 m1.y) (by show bkp ≠ _; omega))).drew
  have Cd : Box W12 (w.heap.size + 1 + 1 + 1) [.int .i64 d.x, .int .i64 d.y] 23 := by rw [hW]; exact (((Bd.set_ne ⟨bkp, 2, none⟩ (.int .i64 m1.x) (by show bkp ≠ _; omega)).set_ne ⟨bkp, 3, none⟩ (.int .i64 m1.y) (by show bkp ≠ _; omega))).drew
  have Cp : Box W12 (bkp) [.int .i64 m0.x, .int .i64 m0.y, .int .i64 m1.x, .int .i64 m1.y, .int .i64 c.x, .int .i64 c.y, .int .i64 d.x, .int .i64 d.y] 31 := by rw [hW]; exact (((Bp.set 2 (.int .i64 m1.x)).set 3 (.int .i64 m1.y))).drew
  replace hw : Below w.heap.size w W12 := by have hl := hw.size; rw [hW]; go_grown
  clear xa ya za va xb yb zb vb xc yc zc vc xd yd zd vd xp yp zp vp
  clear hW Ba Bb Bc Bd Bp
  have Ba := Ca
  have Bb := Cb
  have Bc := Cc
  have Bd := Cd
  have Bp := Cp
  clear Ca Cb Cc Cd Cp
  refine (cm1 _).mono ?_
  rintro e w13 ⟨rfl, hb⟩
  replace Ba := Ba.ext hb rfl
  replace Bb := Bb.ext hb rfl
  replace Bc := Bc.ext hb rfl
  replace Bd := Bd.ext hb rfl
  replace Bp := Bp.ext hb rfl
  replace hw := hw.trans (hb.mono hw.size)
  clear hb
  obtain ⟨xa, ya, za, va⟩ := Ba.facts
  obtain ⟨xb, yb, zb, vb⟩ := Bb.facts
  obtain ⟨xc, yc, zc, vc⟩ := Bc.facts
  obtain ⟨xd, yd, zd, vd⟩ := Bd.facts
  obtain ⟨xp, yp, zp, vp⟩ := Bp.facts
  go_wp2_with fail
  rw [rounds_succ]
  obtain ⟨xa, ya, za, va⟩ := Ba.facts
  obtain ⟨xb, yb, zb, vb⟩ := Bb.facts
  obtain ⟨xc, yc, zc, vc⟩ := Bc.facts
  obtain ⟨xd, yd, zd, vd⟩ := Bd.facts
  obtain ⟨xp, yp, zp, vp⟩ := Bp.facts
  go_wp2_with fail
  refine (cv2 _).mono ?_
  rintro e w14 ⟨rfl, hb⟩
  clear xa ya za va xb yb zb vb xc yc zc vc xd yd zd vd xp yp zp vp
  replace Ba := Ba.ext hb rfl
  replace Bb := Bb.ext hb rfl
  replace Bc := Bc.ext hb rfl
  replace Bd := Bd.ext hb rfl
  replace Bp := Bp.ext hb rfl
  replace hw := hw.trans (hb.mono hw.size)
  clear hb
  obtain ⟨xa, ya, za, va⟩ := Ba.facts
  obtain ⟨xb, yb, zb, vb⟩ := Bb.facts
  obtain ⟨xc, yc, zc, vc⟩ := Bc.facts
  obtain ⟨xd, yd, zd, vd⟩ := Bd.facts
  obtain ⟨xp, yp, zp, vp⟩ := Bp.facts
  go_wp2_with fail
  refine (awake_any _).mono ?_
  rintro e w15 ⟨rfl, hb⟩
  clear xa ya za va xb yb zb vb xc yc zc vc xd yd zd vd xp yp zp vp
  replace Ba := Ba.ext hb rfl
  replace Bb := Bb.ext hb rfl
  replace Bc := Bc.ext hb rfl
  replace Bd := Bd.ext hb rfl
  replace Bp := Bp.ext hb rfl
  replace hw := hw.trans (hb.mono hw.size)
  clear hb
  go_wp2
  go_ret
  exact ⟨rfl, hw⟩

set_option maxRecDepth 100000 in
set_option maxHeartbeats 4000000 in
theorem turns_v3 (a b c d : Pt) (x y : Int) (h0 : vld a = true) (k0 : vld (mv a x y) = true) (h1 : vld b = true) (k1 : vld (mv b x y) = true) (h2 : vld c = true) (k2 : vld (mv c x y) = true) (h3 : vld d = false) (t0 : decide (x < -1073741824) = false) (t1 : decide (1073741824 < x) = false) (t2 : decide (y < -1073741824) = false) (t3 : decide (1073741824 < y) = false) (w : World) :
    Calls Try.prog 4 #[.agg #[.int .i64 a.x, .int .i64 a.y], .agg #[.int .i64 b.x, .int .i64 b.y], .agg #[.int .i64 c.x, .int .i64 c.y], .agg #[.int .i64 d.x, .int .i64 d.y], .int .i64 x, .int .i64 y] w fun e w' => e = .returned (.bool true) ∧ Below w.heap.size w w' := by
  have r1 := orient_any a b c
  have r2 := circle_any a b c d
  have r3 := orient_any b c a
  have r4 := orient_any b a c
  have r5 := circle_any b c a d
  have r6 := circle_any b a c d
  rw [ori_cyc] at r3
  rw [ori_swap] at r4
  rw [circ_cyc] at r5
  rw [circ_swap] at r6
  have bo := ori_bd a b c
  have bk := circ_bd a b c d
  have cv0 := rvalid_any a
  rw [h0] at cv0
  have cv1 := rvalid_any b
  rw [h1] at cv1
  have cv2 := rvalid_any c
  rw [h2] at cv2
  have cv3 := rvalid_any d
  rw [h3] at cv3
  have cm0 := rvalid_any (mv a x y)
  rw [k0] at cm0
  obtain ⟨wa0, wb0⟩ := mv_wrap h0 t0 t1 t2 t3
  have cm1 := rvalid_any (mv b x y)
  rw [k1] at cm1
  obtain ⟨wa1, wb1⟩ := mv_wrap h1 t0 t1 t2 t3
  have cm2 := rvalid_any (mv c x y)
  rw [k2] at cm2
  obtain ⟨wa2, wb2⟩ := mv_wrap h2 t0 t1 t2 t3
  generalize ori a b c = O at *
  generalize circ a b c d = K at *
  clear h0 h1 h2 h3 k0 k1 k2
  generalize mv a x y = m0 at *
  generalize mv b x y = m1 at *
  generalize mv c x y = m2 at *
  go_enter Try.func4, Try.ntmps4
  go_wp2_with fail
  refine at_world fun W1 hW => ?_
  have Ba : Box W1 (w.heap.size) [.int .i64 a.x, .int .i64 a.y] 23 := by rw [hW]; exact (((Box.new rfl).old _).old _).old _
  have Bb : Box W1 (w.heap.size + 1) [.int .i64 b.x, .int .i64 b.y] 23 := by rw [hW]; exact ((Box.new (by simp)).old _).old _
  have Bc : Box W1 (w.heap.size + 1 + 1) [.int .i64 c.x, .int .i64 c.y] 23 := by rw [hW]; exact (Box.new (by simp)).old _
  have Bd : Box W1 (w.heap.size + 1 + 1 + 1) [.int .i64 d.x, .int .i64 d.y] 23 := by rw [hW]; exact Box.new (by simp)
  have hw : Below w.heap.size w W1 := by rw [hW]; go_grown
  clear hW
  have ga := Ba.cells
  have gb := Bb.cells
  have gc := Bc.cells
  have gd := Bd.cells
  refine wp_region_tail 9 (by kernel_rfl) (by kernel_rfl) (C := fun w' => ∃ p : Regrown, w' = grow (redrawn W1 p.d) p.os) (fun w' h => regrown_of_below h) ?_
  simp only [List.take_succ_cons, List.take_zero, List.drop_succ_cons, List.drop_zero]
  repeat (first | (refine rWalk_skip (Eq.refl false) ?_; simp only [Act.put, List.setIfInBounds_toArray, List.set_cons_succ, List.set_cons_zero]) | (refine rWalk_step (fun K hK => ?_); go_simp; first | (refine hK _ ?_; clear hK K) | (apply Exists.intro; refine ⟨fun _ => ?_, hK _ ?_⟩; (first | with_reducible exact toExt r1 _ | with_reducible exact toExt r2 _); clear hK K)))
  refine rWalk_nil ?_
  intro w2 hb
  clear ga gb gc gd
  replace Ba := Ba.ext hb rfl
  replace Bb := Bb.ext hb rfl
  replace Bc := Bc.ext hb rfl
  replace Bd := Bd.ext hb rfl
  replace hw := hw.trans (hb.mono hw.size)
  obtain ⟨xa, ya, za, va⟩ := Ba.facts
  obtain ⟨xb, yb, zb, vb⟩ := Bb.facts
  obtain ⟨xc, yc, zc, vc⟩ := Bc.facts
  obtain ⟨xd, yd, zd, vd⟩ := Bd.facts
  go_wp2_with fail
  refine (r3 _).mono ?_
  rintro e w3 ⟨rfl, hb⟩
  clear xa ya za va xb yb zb vb xc yc zc vc xd yd zd vd
  replace Ba := Ba.ext hb rfl
  replace Bb := Bb.ext hb rfl
  replace Bc := Bc.ext hb rfl
  replace Bd := Bd.ext hb rfl
  replace hw := hw.trans (hb.mono hw.size)
  clear hb
  obtain ⟨xa, ya, za, va⟩ := Ba.facts
  obtain ⟨xb, yb, zb, vb⟩ := Bb.facts
  obtain ⟨xc, yc, zc, vc⟩ := Bc.facts
  obtain ⟨xd, yd, zd, vd⟩ := Bd.facts
  go_wp2_with fail
  refine (r4 _).mono ?_
  rintro e w4 ⟨rfl, hb⟩
  clear xa ya za va xb yb zb vb xc yc zc vc xd yd zd vd
  replace Ba := Ba.ext hb rfl
  replace Bb := Bb.ext hb rfl
  replace Bc := Bc.ext hb rfl
  replace Bd := Bd.ext hb rfl
  replace hw := hw.trans (hb.mono hw.size)
  clear hb
  obtain ⟨xa, ya, za, va⟩ := Ba.facts
  obtain ⟨xb, yb, zb, vb⟩ := Bb.facts
  obtain ⟨xc, yc, zc, vc⟩ := Bc.facts
  obtain ⟨xd, yd, zd, vd⟩ := Bd.facts
  go_wp2_with fail
  refine (r5 _).mono ?_
  rintro e w5 ⟨rfl, hb⟩
  clear xa ya za va xb yb zb vb xc yc zc vc xd yd zd vd
  replace Ba := Ba.ext hb rfl
  replace Bb := Bb.ext hb rfl
  replace Bc := Bc.ext hb rfl
  replace Bd := Bd.ext hb rfl
  replace hw := hw.trans (hb.mono hw.size)
  clear hb
  obtain ⟨xa, ya, za, va⟩ := Ba.facts
  obtain ⟨xb, yb, zb, vb⟩ := Bb.facts
  obtain ⟨xc, yc, zc, vc⟩ := Bc.facts
  obtain ⟨xd, yd, zd, vd⟩ := Bd.facts
  go_wp2_with fail
  refine (r6 _).mono ?_
  rintro e w6 ⟨rfl, hb⟩
  clear xa ya za va xb yb zb vb xc yc zc vc xd yd zd vd
  replace Ba := Ba.ext hb rfl
  replace Bb := Bb.ext hb rfl
  replace Bc := Bc.ext hb rfl
  replace Bd := Bd.ext hb rfl
  replace hw := hw.trans (hb.mono hw.size)
  clear hb
  obtain ⟨xa, ya, za, va⟩ := Ba.facts
  obtain ⟨xb, yb, zb, vb⟩ := Bb.facts
  obtain ⟨xc, yc, zc, vc⟩ := Bc.facts
  obtain ⟨xd, yd, zd, vd⟩ := Bd.facts
  go_wp2_with fail
  refine at_world fun W7 hW => ?_
  obtain ⟨bkp, hbp⟩ : ∃ b, w6.heap.size = b := ⟨_, rfl⟩
  rw [hbp]
  have lap := Ba.lt
  rw [hbp] at lap
  have lbp := Bb.lt
  rw [hbp] at lbp
  have lcp := Bc.lt
  rw [hbp] at lcp
  have ldp := Bd.lt
  rw [hbp] at ldp
  have fp := hw.size
  rw [hbp] at fp
  have Bp : Box W7 bkp [.int .i64 a.x, .int .i64 a.y, .int .i64 b.x, .int .i64 b.y, .int .i64 c.x, .int .i64 c.y, .int .i64 d.x, .int .i64 d.y] 31 := by rw [hW]; exact Box.new hbp.symm
  replace Ba : Box W7 (w.heap.size) [.int .i64 a.x, .int .i64 a.y] 23 := by rw [hW]; exact Ba.old _
  replace Bb : Box W7 (w.heap.size + 1) [.int .i64 b.x, .int .i64 b.y] 23 := by rw [hW]; exact Bb.old _
  replace Bc : Box W7 (w.heap.size + 1 + 1) [.int .i64 c.x, .int .i64 c.y] 23 := by rw [hW]; exact Bc.old _
  replace Bd : Box W7 (w.heap.size + 1 + 1 + 1) [.int .i64 d.x, .int .i64 d.y] 23 := by rw [hW]; exact Bd.old _
  replace hw : Below w.heap.size w W7 := by have hl := hw.size; rw [hW]; go_grown
  clear hW hbp
  refine wp_loop_rounds 5 ?_
  rw [rounds_succ]
  obtain ⟨xa, ya, za, va⟩ := Ba.facts
  obtain ⟨xb, yb, zb, vb⟩ := Bb.facts
  obtain ⟨xc, yc, zc, vc⟩ := Bc.facts
  obtain ⟨xd, yd, zd, vd⟩ := Bd.facts
  obtain ⟨xp, yp, zp, vp⟩ := Bp.facts
  go_wp2_with fail
  refine (cv0 _).mono ?_
  rintro e w8 ⟨rfl, hb⟩
  clear xa ya za va xb yb zb vb xc yc zc vc xd yd zd vd xp yp zp vp
  replace Ba := Ba.ext hb rfl
  replace Bb := Bb.ext hb rfl
  replace Bc := Bc.ext hb rfl
  replace Bd := Bd.ext hb rfl
  replace Bp := Bp.ext hb rfl
  replace hw := hw.trans (hb.mono hw.size)
  clear hb
  obtain ⟨xa, ya, za, va⟩ := Ba.facts
  obtain ⟨xb, yb, zb, vb⟩ := Bb.facts
  obtain ⟨xc, yc, zc, vc⟩ := Bc.facts
  obtain ⟨xd, yd, zd, vd⟩ := Bd.facts
  obtain ⟨xp, yp, zp, vp⟩ := Bp.facts
  go_wp2_with fail
  go_region
  go_wp2_with fail
  refine at_call fun W9 hW => ?_
  have Ca : Box W9 (w.heap.size) [.int .i64 a.x, .int .i64 a.y] 23 := by rw [hW]; exact (((Ba.set_ne ⟨bkp, 0, none⟩ (.int .i64 m0.x) (by show bkp ≠ _; omega)).set_ne ⟨bkp, 1, none⟩ (.int .i64 m0.y) (by show bkp ≠ _; omega))).drew
  have Cb : Box W9 (w.heap.size + 1) [.int .i64 b.x, .int .i64 b.y] 23 := by rw [hW]; exact (((Bb.set_ne ⟨bkp, 0, none⟩ (.int .i64 m0.x) (by show bkp ≠ _; omega)).set_ne ⟨bkp, 1, none⟩ (.int .i64 m0.y) (by show bkp ≠ _; omega))).drew
  have Cc : Box W9 (w.heap.size + 1 + 1) [.int .i64 c.x, .int .i64 c.y] 23 := by rw [hW]; exact (((Bc.set_ne ⟨bkp, 0, none⟩ (.int .i64 m0.x) (by show bkp ≠ _; omega)).set_ne ⟨bkp, 1, none⟩ (.int .i64 m0.y) (by show bkp ≠ _; omega))).drew
  have Cd : Box W9 (w.heap.size + 1 + 1 + 1) [.int .i64 d.x, .int .i64 d.y] 23 := by rw [hW]; exact (((Bd.set_ne ⟨bkp, 0, none⟩ (.int .i64 m0.x) (by show bkp ≠ _; omega)).set_ne ⟨bkp, 1, none⟩ (.int .i64 m0.y) (by show bkp ≠ _; omega))).drew
  have Cp : Box W9 (bkp) [.int .i64 m0.x, .int .i64 m0.y, .int .i64 b.x, .int .i64 b.y, .int .i64 c.x, .int .i64 c.y, .int .i64 d.x, .int .i64 d.y] 31 := by rw [hW]; exact (((Bp.set 0 (.int .i64 m0.x)).set 1 (.int .i64 m0.y))).drew
  replace hw : Below w.heap.size w W9 := by have hl := hw.size; rw [hW]; go_grown
  clear xa ya za va xb yb zb vb xc yc zc vc xd yd zd vd xp yp zp vp
  clear hW Ba Bb Bc Bd Bp
  have Ba := Ca
  have Bb := Cb
  have Bc := Cc
  have Bd := Cd
  have Bp := Cp
  clear Ca Cb Cc Cd Cp
  refine (cm0 _).mono ?_
  rintro e w10 ⟨rfl, hb⟩
  replace Ba := Ba.ext hb rfl
  replace Bb := Bb.ext hb rfl
  replace Bc := Bc.ext hb rfl
  replace Bd := Bd.ext hb rfl
  replace Bp := Bp.ext hb rfl
  replace hw := hw.trans (hb.mono hw.size)
  clear hb
  obtain ⟨xa, ya, za, va⟩ := Ba.facts
  obtain ⟨xb, yb, zb, vb⟩ := Bb.facts
  obtain ⟨xc, yc, zc, vc⟩ := Bc.facts
  obtain ⟨xd, yd, zd, vd⟩ := Bd.facts
  obtain ⟨xp, yp, zp, vp⟩ := Bp.facts
  go_wp2_with fail
  rw [rounds_succ]
  obtain ⟨xa, ya, za, va⟩ := Ba.facts
  obtain ⟨xb, yb, zb, vb⟩ := Bb.facts
  obtain ⟨xc, yc, zc, vc⟩ := Bc.facts
  obtain ⟨xd, yd, zd, vd⟩ := Bd.facts
  obtain ⟨xp, yp, zp, vp⟩ := Bp.facts
  go_wp2_with fail
  refine (cv1 _).mono ?_
  rintro e w11 ⟨rfl, hb⟩
  clear xa ya za va xb yb zb vb xc yc zc vc xd yd zd vd xp yp zp vp
  replace Ba := Ba.ext hb rfl
  replace Bb := Bb.ext hb rfl
  replace Bc := Bc.ext hb rfl
  replace Bd := Bd.ext hb rfl
  replace Bp := Bp.ext hb rfl
  replace hw := hw.trans (hb.mono hw.size)
  clear hb
  obtain ⟨xa, ya, za, va⟩ := Ba.facts
  obtain ⟨xb, yb, zb, vb⟩ := Bb.facts
  obtain ⟨xc, yc, zc, vc⟩ := Bc.facts
  obtain ⟨xd, yd, zd, vd⟩ := Bd.facts
  obtain ⟨xp, yp, zp, vp⟩ := Bp.facts
  go_wp2_with fail
  go_region
  go_wp2_with fail
  refine at_call fun W12 hW => ?_
  have Ca : Box W12 (w.heap.size) [.int .i64 a.x, .int .i64 a.y] 23 := by rw [hW]; exact (((Ba.set_ne ⟨bkp, 2, none⟩ (.int .i64 m1.x) (by show bkp ≠ _; omega)).set_ne ⟨bkp, 3, none⟩ (.int .i64 m1.y) (by show bkp ≠ _; omega))).drew
  have Cb : Box W12 (w.heap.size + 1) [.int .i64 b.x, .int .i64 b.y] 23 := by rw [hW]; exact (((Bb.set_ne ⟨bkp, 2, none⟩ (.int .i64 m1.x) (by show bkp ≠ _; omega)).set_ne ⟨bkp, 3, none⟩ (.int .i64 m1.y) (by show bkp ≠ _; omega))).drew
  have Cc : Box W12 (w.heap.size + 1 + 1) [.int .i64 c.x, .int .i64 c.y] 23 := by rw [hW]; exact (((Bc.set_ne ⟨bkp, 2, none⟩ (.int .i64 m1.x) (by show bkp ≠ _; omega)).set_ne ⟨bkp, 3, none⟩ (.int .i64 m1.y) (by show bkp ≠ _; omega))).drew
  have Cd : Box W12 (w.heap.size + 1 + 1 + 1) [.int .i64 d.x, .int .i64 d.y] 23 := by rw [hW]; exact (((Bd.set_ne ⟨bkp, 2, none⟩ (.int .i64 m1.x) (by show bkp ≠ _; omega)).set_ne ⟨bkp, 3, none⟩ (.int .i64 m1.y) (by show bkp ≠ _; omega))).drew
  have Cp : Box W12 (bkp) [.int .i64 m0.x, .int .i64 m0.y, .int .i64 m1.x, .int .i64 m1.y, .int .i64 c.x, .int .i64 c.y, .int .i64 d.x, .int .i64 d.y] 31 := by rw [hW]; exact (((Bp.set 2 (.int .i64 m1.x)).set 3 (.int .i64 m1.y))).drew
  replace hw : Below w.heap.size w W12 := by have hl := hw.size; rw [hW]; go_grown
  clear xa ya za va xb yb zb vb xc yc zc vc xd yd zd vd xp yp zp vp
  clear hW Ba Bb Bc Bd Bp
  have Ba := Ca
  have Bb := Cb
  have Bc := Cc
  have Bd := Cd
  have Bp := Cp
  clear Ca Cb Cc Cd Cp
  refine (cm1 _).mono ?_
  rintro e w13 ⟨rfl, hb⟩
  replace Ba := Ba.ext hb rfl
  replace Bb := Bb.ext hb rfl
  replace Bc := Bc.ext hb rfl
  replace Bd := Bd.ext hb rfl
  replace Bp := Bp.ext hb rfl
  replace hw := hw.trans (hb.mono hw.size)
  clear hb
  obtain ⟨xa, ya, za, va⟩ := Ba.facts
  obtain ⟨xb, yb, zb, vb⟩ := Bb.facts
  obtain ⟨xc, yc, zc, vc⟩ := Bc.facts
  obtain ⟨xd, yd, zd, vd⟩ := Bd.facts
  obtain ⟨xp, yp, zp, vp⟩ := Bp.facts
  go_wp2_with fail
  rw [rounds_succ]
  obtain ⟨xa, ya, za, va⟩ := Ba.facts
  obtain ⟨xb, yb, zb, vb⟩ := Bb.facts
  obtain ⟨xc, yc, zc, vc⟩ := Bc.facts
  obtain ⟨xd, yd, zd, vd⟩ := Bd.facts
  obtain ⟨xp, yp, zp, vp⟩ := Bp.facts
  go_wp2_with fail
  refine (cv2 _).mono ?_
  rintro e w14 ⟨rfl, hb⟩
  clear xa ya za va xb yb zb vb xc yc zc vc xd yd zd vd xp yp zp vp
  replace Ba := Ba.ext hb rfl
  replace Bb := Bb.ext hb rfl
  replace Bc := Bc.ext hb rfl
  replace Bd := Bd.ext hb rfl
  replace Bp := Bp.ext hb rfl
  replace hw := hw.trans (hb.mono hw.size)
  clear hb
  obtain ⟨xa, ya, za, va⟩ := Ba.facts
  obtain ⟨xb, yb, zb, vb⟩ := Bb.facts
  obtain ⟨xc, yc, zc, vc⟩ := Bc.facts
  obtain ⟨xd, yd, zd, vd⟩ := Bd.facts
  obtain ⟨xp, yp, zp, vp⟩ := Bp.facts
  go_wp2_with fail
  go_region
  go_wp2_with fail
  refine at_call fun W15 hW => ?_
  have Ca : Box W15 (w.heap.size) [.int .i64 a.x, .int .i64 a.y] 23 := by rw [hW]; exact (((Ba.set_ne ⟨bkp, 4, none⟩ (.int .i64 m2.x) (by show bkp ≠ _; omega)).set_ne ⟨bkp, 5, none⟩ (.int .i64 m2.y) (by show bkp ≠ _; omega))).drew
  have Cb : Box W15 (w.heap.size + 1) [.int .i64 b.x, .int .i64 b.y] 23 := by rw [hW]; exact (((Bb.set_ne ⟨bkp, 4, none⟩ (.int .i64 m2.x) (by show bkp ≠ _; omega)).set_ne ⟨bkp, 5, none⟩ (.int .i64 m2.y) (by show bkp ≠ _; omega))).drew
  have Cc : Box W15 (w.heap.size + 1 + 1) [.int .i64 c.x, .int .i64 c.y] 23 := by rw [hW]; exact (((Bc.set_ne ⟨bkp, 4, none⟩ (.int .i64 m2.x) (by show bkp ≠ _; omega)).set_ne ⟨bkp, 5, none⟩ (.int .i64 m2.y) (by show bkp ≠ _; omega))).drew
  have Cd : Box W15 (w.heap.size + 1 + 1 + 1) [.int .i64 d.x, .int .i64 d.y] 23 := by rw [hW]; exact (((Bd.set_ne ⟨bkp, 4, none⟩ (.int .i64 m2.x) (by show bkp ≠ _; omega)).set_ne ⟨bkp, 5, none⟩ (.int .i64 m2.y) (by show bkp ≠ _; omega))).drew
  have Cp : Box W15 (bkp) [.int .i64 m0.x, .int .i64 m0.y, .int .i64 m1.x, .int .i64 m1.y, .int .i64 m2.x, .int .i64 m2.y, .int .i64 d.x, .int .i64 d.y] 31 := by rw [hW]; exact (((Bp.set 4 (.int .i64 m2.x)).set 5 (.int .i64 m2.y))).drew
  replace hw : Below w.heap.size w W15 := by have hl := hw.size; rw [hW]; go_grown
  clear xa ya za va xb yb zb vb xc yc zc vc xd yd zd vd xp yp zp vp
  clear hW Ba Bb Bc Bd Bp
  have Ba := Ca
  have Bb := Cb
  have Bc := Cc
  have Bd := Cd
  have Bp := Cp
  clear Ca Cb Cc Cd Cp
  refine (cm2 _).mono ?_
  rintro e w16 ⟨rfl, hb⟩
  replace Ba := Ba.ext hb rfl
  replace Bb := Bb.ext hb rfl
  replace Bc := Bc.ext hb rfl
  replace Bd := Bd.ext hb rfl
  replace Bp := Bp.ext hb rfl
  replace hw := hw.trans (hb.mono hw.size)
  clear hb
  obtain ⟨xa, ya, za, va⟩ := Ba.facts
  obtain ⟨xb, yb, zb, vb⟩ := Bb.facts
  obtain ⟨xc, yc, zc, vc⟩ := Bc.facts
  obtain ⟨xd, yd, zd, vd⟩ := Bd.facts
  obtain ⟨xp, yp, zp, vp⟩ := Bp.facts
  go_wp2_with fail
  rw [rounds_succ]
  obtain ⟨xa, ya, za, va⟩ := Ba.facts
  obtain ⟨xb, yb, zb, vb⟩ := Bb.facts
  obtain ⟨xc, yc, zc, vc⟩ := Bc.facts
  obtain ⟨xd, yd, zd, vd⟩ := Bd.facts
  obtain ⟨xp, yp, zp, vp⟩ := Bp.facts
  go_wp2_with fail
  refine (cv3 _).mono ?_
  rintro e w17 ⟨rfl, hb⟩
  clear xa ya za va xb yb zb vb xc yc zc vc xd yd zd vd xp yp zp vp
  replace Ba := Ba.ext hb rfl
  replace Bb := Bb.ext hb rfl
  replace Bc := Bc.ext hb rfl
  replace Bd := Bd.ext hb rfl
  replace Bp := Bp.ext hb rfl
  replace hw := hw.trans (hb.mono hw.size)
  clear hb
  obtain ⟨xa, ya, za, va⟩ := Ba.facts
  obtain ⟨xb, yb, zb, vb⟩ := Bb.facts
  obtain ⟨xc, yc, zc, vc⟩ := Bc.facts
  obtain ⟨xd, yd, zd, vd⟩ := Bd.facts
  obtain ⟨xp, yp, zp, vp⟩ := Bp.facts
  go_wp2_with fail
  refine (awake_any _).mono ?_
  rintro e w18 ⟨rfl, hb⟩
  clear xa ya za va xb yb zb vb xc yc zc vc xd yd zd vd xp yp zp vp
  replace Ba := Ba.ext hb rfl
  replace Bb := Bb.ext hb rfl
  replace Bc := Bc.ext hb rfl
  replace Bd := Bd.ext hb rfl
  replace Bp := Bp.ext hb rfl
  replace hw := hw.trans (hb.mono hw.size)
  clear hb
  go_wp2
  go_ret
  exact ⟨rfl, hw⟩

set_option maxRecDepth 100000 in
set_option maxHeartbeats 4000000 in
theorem turns_r0 (a b c d : Pt) (x y : Int) (h0 : vld a = true) (t0 : decide (x < -1073741824) = true) (w : World) :
    Calls Try.prog 4 #[.agg #[.int .i64 a.x, .int .i64 a.y], .agg #[.int .i64 b.x, .int .i64 b.y], .agg #[.int .i64 c.x, .int .i64 c.y], .agg #[.int .i64 d.x, .int .i64 d.y], .int .i64 x, .int .i64 y] w fun e w' => e = .returned (.bool true) ∧ Below w.heap.size w w' := by
  have r1 := orient_any a b c
  have r2 := circle_any a b c d
  have r3 := orient_any b c a
  have r4 := orient_any b a c
  have r5 := circle_any b c a d
  have r6 := circle_any b a c d
  rw [ori_cyc] at r3
  rw [ori_swap] at r4
  rw [circ_cyc] at r5
  rw [circ_swap] at r6
  have bo := ori_bd a b c
  have bk := circ_bd a b c d
  have cv0 := rvalid_any a
  rw [h0] at cv0
  generalize ori a b c = O at *
  generalize circ a b c d = K at *
  clear h0
  go_enter Try.func4, Try.ntmps4
  go_wp2_with fail
  refine at_world fun W1 hW => ?_
  have Ba : Box W1 (w.heap.size) [.int .i64 a.x, .int .i64 a.y] 23 := by rw [hW]; exact (((Box.new rfl).old _).old _).old _
  have Bb : Box W1 (w.heap.size + 1) [.int .i64 b.x, .int .i64 b.y] 23 := by rw [hW]; exact ((Box.new (by simp)).old _).old _
  have Bc : Box W1 (w.heap.size + 1 + 1) [.int .i64 c.x, .int .i64 c.y] 23 := by rw [hW]; exact (Box.new (by simp)).old _
  have Bd : Box W1 (w.heap.size + 1 + 1 + 1) [.int .i64 d.x, .int .i64 d.y] 23 := by rw [hW]; exact Box.new (by simp)
  have hw : Below w.heap.size w W1 := by rw [hW]; go_grown
  clear hW
  have ga := Ba.cells
  have gb := Bb.cells
  have gc := Bc.cells
  have gd := Bd.cells
  refine wp_region_tail 9 (by kernel_rfl) (by kernel_rfl) (C := fun w' => ∃ p : Regrown, w' = grow (redrawn W1 p.d) p.os) (fun w' h => regrown_of_below h) ?_
  simp only [List.take_succ_cons, List.take_zero, List.drop_succ_cons, List.drop_zero]
  repeat (first | (refine rWalk_skip (Eq.refl false) ?_; simp only [Act.put, List.setIfInBounds_toArray, List.set_cons_succ, List.set_cons_zero]) | (refine rWalk_step (fun K hK => ?_); go_simp; first | (refine hK _ ?_; clear hK K) | (apply Exists.intro; refine ⟨fun _ => ?_, hK _ ?_⟩; (first | with_reducible exact toExt r1 _ | with_reducible exact toExt r2 _); clear hK K)))
  refine rWalk_nil ?_
  intro w2 hb
  clear ga gb gc gd
  replace Ba := Ba.ext hb rfl
  replace Bb := Bb.ext hb rfl
  replace Bc := Bc.ext hb rfl
  replace Bd := Bd.ext hb rfl
  replace hw := hw.trans (hb.mono hw.size)
  obtain ⟨xa, ya, za, va⟩ := Ba.facts
  obtain ⟨xb, yb, zb, vb⟩ := Bb.facts
  obtain ⟨xc, yc, zc, vc⟩ := Bc.facts
  obtain ⟨xd, yd, zd, vd⟩ := Bd.facts
  go_wp2_with fail
  refine (r3 _).mono ?_
  rintro e w3 ⟨rfl, hb⟩
  clear xa ya za va xb yb zb vb xc yc zc vc xd yd zd vd
  replace Ba := Ba.ext hb rfl
  replace Bb := Bb.ext hb rfl
  replace Bc := Bc.ext hb rfl
  replace Bd := Bd.ext hb rfl
  replace hw := hw.trans (hb.mono hw.size)
  clear hb
  obtain ⟨xa, ya, za, va⟩ := Ba.facts
  obtain ⟨xb, yb, zb, vb⟩ := Bb.facts
  obtain ⟨xc, yc, zc, vc⟩ := Bc.facts
  obtain ⟨xd, yd, zd, vd⟩ := Bd.facts
  go_wp2_with fail
  refine (r4 _).mono ?_
  rintro e w4 ⟨rfl, hb⟩
  clear xa ya za va xb yb zb vb xc yc zc vc xd yd zd vd
  replace Ba := Ba.ext hb rfl
  replace Bb := Bb.ext hb rfl
  replace Bc := Bc.ext hb rfl
  replace Bd := Bd.ext hb rfl
  replace hw := hw.trans (hb.mono hw.size)
  clear hb
  obtain ⟨xa, ya, za, va⟩ := Ba.facts
  obtain ⟨xb, yb, zb, vb⟩ := Bb.facts
  obtain ⟨xc, yc, zc, vc⟩ := Bc.facts
  obtain ⟨xd, yd, zd, vd⟩ := Bd.facts
  go_wp2_with fail
  refine (r5 _).mono ?_
  rintro e w5 ⟨rfl, hb⟩
  clear xa ya za va xb yb zb vb xc yc zc vc xd yd zd vd
  replace Ba := Ba.ext hb rfl
  replace Bb := Bb.ext hb rfl
  replace Bc := Bc.ext hb rfl
  replace Bd := Bd.ext hb rfl
  replace hw := hw.trans (hb.mono hw.size)
  clear hb
  obtain ⟨xa, ya, za, va⟩ := Ba.facts
  obtain ⟨xb, yb, zb, vb⟩ := Bb.facts
  obtain ⟨xc, yc, zc, vc⟩ := Bc.facts
  obtain ⟨xd, yd, zd, vd⟩ := Bd.facts
  go_wp2_with fail
  refine (r6 _).mono ?_
  rintro e w6 ⟨rfl, hb⟩
  clear xa ya za va xb yb zb vb xc yc zc vc xd yd zd vd
  replace Ba := Ba.ext hb rfl
  replace Bb := Bb.ext hb rfl
  replace Bc := Bc.ext hb rfl
  replace Bd := Bd.ext hb rfl
  replace hw := hw.trans (hb.mono hw.size)
  clear hb
  obtain ⟨xa, ya, za, va⟩ := Ba.facts
  obtain ⟨xb, yb, zb, vb⟩ := Bb.facts
  obtain ⟨xc, yc, zc, vc⟩ := Bc.facts
  obtain ⟨xd, yd, zd, vd⟩ := Bd.facts
  go_wp2_with fail
  refine at_world fun W7 hW => ?_
  obtain ⟨bkp, hbp⟩ : ∃ b, w6.heap.size = b := ⟨_, rfl⟩
  rw [hbp]
  have lap := Ba.lt
  rw [hbp] at lap
  have lbp := Bb.lt
  rw [hbp] at lbp
  have lcp := Bc.lt
  rw [hbp] at lcp
  have ldp := Bd.lt
  rw [hbp] at ldp
  have fp := hw.size
  rw [hbp] at fp
  have Bp : Box W7 bkp [.int .i64 a.x, .int .i64 a.y, .int .i64 b.x, .int .i64 b.y, .int .i64 c.x, .int .i64 c.y, .int .i64 d.x, .int .i64 d.y] 31 := by rw [hW]; exact Box.new hbp.symm
  replace Ba : Box W7 (w.heap.size) [.int .i64 a.x, .int .i64 a.y] 23 := by rw [hW]; exact Ba.old _
  replace Bb : Box W7 (w.heap.size + 1) [.int .i64 b.x, .int .i64 b.y] 23 := by rw [hW]; exact Bb.old _
  replace Bc : Box W7 (w.heap.size + 1 + 1) [.int .i64 c.x, .int .i64 c.y] 23 := by rw [hW]; exact Bc.old _
  replace Bd : Box W7 (w.heap.size + 1 + 1 + 1) [.int .i64 d.x, .int .i64 d.y] 23 := by rw [hW]; exact Bd.old _
  replace hw : Below w.heap.size w W7 := by have hl := hw.size; rw [hW]; go_grown
  clear hW hbp
  refine wp_loop_rounds 5 ?_
  rw [rounds_succ]
  obtain ⟨xa, ya, za, va⟩ := Ba.facts
  obtain ⟨xb, yb, zb, vb⟩ := Bb.facts
  obtain ⟨xc, yc, zc, vc⟩ := Bc.facts
  obtain ⟨xd, yd, zd, vd⟩ := Bd.facts
  obtain ⟨xp, yp, zp, vp⟩ := Bp.facts
  go_wp2_with fail
  refine (cv0 _).mono ?_
  rintro e w8 ⟨rfl, hb⟩
  clear xa ya za va xb yb zb vb xc yc zc vc xd yd zd vd xp yp zp vp
  replace Ba := Ba.ext hb rfl
  replace Bb := Bb.ext hb rfl
  replace Bc := Bc.ext hb rfl
  replace Bd := Bd.ext hb rfl
  replace Bp := Bp.ext hb rfl
  replace hw := hw.trans (hb.mono hw.size)
  clear hb
  obtain ⟨xa, ya, za, va⟩ := Ba.facts
  obtain ⟨xb, yb, zb, vb⟩ := Bb.facts
  obtain ⟨xc, yc, zc, vc⟩ := Bc.facts
  obtain ⟨xd, yd, zd, vd⟩ := Bd.facts
  obtain ⟨xp, yp, zp, vp⟩ := Bp.facts
  go_wp2_with fail
  refine (awake_any _).mono ?_
  rintro e w9 ⟨rfl, hb⟩
  clear xa ya za va xb yb zb vb xc yc zc vc xd yd zd vd xp yp zp vp
  replace Ba := Ba.ext hb rfl
  replace Bb := Bb.ext hb rfl
  replace Bc := Bc.ext hb rfl
  replace Bd := Bd.ext hb rfl
  replace Bp := Bp.ext hb rfl
  replace hw := hw.trans (hb.mono hw.size)
  clear hb
  go_wp2
  go_ret
  exact ⟨rfl, hw⟩

set_option maxRecDepth 100000 in
set_option maxHeartbeats 4000000 in
theorem turns_r1 (a b c d : Pt) (x y : Int) (h0 : vld a = true) (t0 : decide (x < -1073741824) = false) (t1 : decide (1073741824 < x) = true) (w : World) :
    Calls Try.prog 4 #[.agg #[.int .i64 a.x, .int .i64 a.y], .agg #[.int .i64 b.x, .int .i64 b.y], .agg #[.int .i64 c.x, .int .i64 c.y], .agg #[.int .i64 d.x, .int .i64 d.y], .int .i64 x, .int .i64 y] w fun e w' => e = .returned (.bool true) ∧ Below w.heap.size w w' := by
  have r1 := orient_any a b c
  have r2 := circle_any a b c d
  have r3 := orient_any b c a
  have r4 := orient_any b a c
  have r5 := circle_any b c a d
  have r6 := circle_any b a c d
  rw [ori_cyc] at r3
  rw [ori_swap] at r4
  rw [circ_cyc] at r5
  rw [circ_swap] at r6
  have bo := ori_bd a b c
  have bk := circ_bd a b c d
  have cv0 := rvalid_any a
  rw [h0] at cv0
  generalize ori a b c = O at *
  generalize circ a b c d = K at *
  clear h0
  go_enter Try.func4, Try.ntmps4
  go_wp2_with fail
  refine at_world fun W1 hW => ?_
  have Ba : Box W1 (w.heap.size) [.int .i64 a.x, .int .i64 a.y] 23 := by rw [hW]; exact (((Box.new rfl).old _).old _).old _
  have Bb : Box W1 (w.heap.size + 1) [.int .i64 b.x, .int .i64 b.y] 23 := by rw [hW]; exact ((Box.new (by simp)).old _).old _
  have Bc : Box W1 (w.heap.size + 1 + 1) [.int .i64 c.x, .int .i64 c.y] 23 := by rw [hW]; exact (Box.new (by simp)).old _
  have Bd : Box W1 (w.heap.size + 1 + 1 + 1) [.int .i64 d.x, .int .i64 d.y] 23 := by rw [hW]; exact Box.new (by simp)
  have hw : Below w.heap.size w W1 := by rw [hW]; go_grown
  clear hW
  have ga := Ba.cells
  have gb := Bb.cells
  have gc := Bc.cells
  have gd := Bd.cells
  refine wp_region_tail 9 (by kernel_rfl) (by kernel_rfl) (C := fun w' => ∃ p : Regrown, w' = grow (redrawn W1 p.d) p.os) (fun w' h => regrown_of_below h) ?_
  simp only [List.take_succ_cons, List.take_zero, List.drop_succ_cons, List.drop_zero]
  repeat (first | (refine rWalk_skip (Eq.refl false) ?_; simp only [Act.put, List.setIfInBounds_toArray, List.set_cons_succ, List.set_cons_zero]) | (refine rWalk_step (fun K hK => ?_); go_simp; first | (refine hK _ ?_; clear hK K) | (apply Exists.intro; refine ⟨fun _ => ?_, hK _ ?_⟩; (first | with_reducible exact toExt r1 _ | with_reducible exact toExt r2 _); clear hK K)))
  refine rWalk_nil ?_
  intro w2 hb
  clear ga gb gc gd
  replace Ba := Ba.ext hb rfl
  replace Bb := Bb.ext hb rfl
  replace Bc := Bc.ext hb rfl
  replace Bd := Bd.ext hb rfl
  replace hw := hw.trans (hb.mono hw.size)
  obtain ⟨xa, ya, za, va⟩ := Ba.facts
  obtain ⟨xb, yb, zb, vb⟩ := Bb.facts
  obtain ⟨xc, yc, zc, vc⟩ := Bc.facts
  obtain ⟨xd, yd, zd, vd⟩ := Bd.facts
  go_wp2_with fail
  refine (r3 _).mono ?_
  rintro e w3 ⟨rfl, hb⟩
  clear xa ya za va xb yb zb vb xc yc zc vc xd yd zd vd
  replace Ba := Ba.ext hb rfl
  replace Bb := Bb.ext hb rfl
  replace Bc := Bc.ext hb rfl
  replace Bd := Bd.ext hb rfl
  replace hw := hw.trans (hb.mono hw.size)
  clear hb
  obtain ⟨xa, ya, za, va⟩ := Ba.facts
  obtain ⟨xb, yb, zb, vb⟩ := Bb.facts
  obtain ⟨xc, yc, zc, vc⟩ := Bc.facts
  obtain ⟨xd, yd, zd, vd⟩ := Bd.facts
  go_wp2_with fail
  refine (r4 _).mono ?_
  rintro e w4 ⟨rfl, hb⟩
  clear xa ya za va xb yb zb vb xc yc zc vc xd yd zd vd
  replace Ba := Ba.ext hb rfl
  replace Bb := Bb.ext hb rfl
  replace Bc := Bc.ext hb rfl
  replace Bd := Bd.ext hb rfl
  replace hw := hw.trans (hb.mono hw.size)
  clear hb
  obtain ⟨xa, ya, za, va⟩ := Ba.facts
  obtain ⟨xb, yb, zb, vb⟩ := Bb.facts
  obtain ⟨xc, yc, zc, vc⟩ := Bc.facts
  obtain ⟨xd, yd, zd, vd⟩ := Bd.facts
  go_wp2_with fail
  refine (r5 _).mono ?_
  rintro e w5 ⟨rfl, hb⟩
  clear xa ya za va xb yb zb vb xc yc zc vc xd yd zd vd
  replace Ba := Ba.ext hb rfl
  replace Bb := Bb.ext hb rfl
  replace Bc := Bc.ext hb rfl
  replace Bd := Bd.ext hb rfl
  replace hw := hw.trans (hb.mono hw.size)
  clear hb
  obtain ⟨xa, ya, za, va⟩ := Ba.facts
  obtain ⟨xb, yb, zb, vb⟩ := Bb.facts
  obtain ⟨xc, yc, zc, vc⟩ := Bc.facts
  obtain ⟨xd, yd, zd, vd⟩ := Bd.facts
  go_wp2_with fail
  refine (r6 _).mono ?_
  rintro e w6 ⟨rfl, hb⟩
  clear xa ya za va xb yb zb vb xc yc zc vc xd yd zd vd
  replace Ba := Ba.ext hb rfl
  replace Bb := Bb.ext hb rfl
  replace Bc := Bc.ext hb rfl
  replace Bd := Bd.ext hb rfl
  replace hw := hw.trans (hb.mono hw.size)
  clear hb
  obtain ⟨xa, ya, za, va⟩ := Ba.facts
  obtain ⟨xb, yb, zb, vb⟩ := Bb.facts
  obtain ⟨xc, yc, zc, vc⟩ := Bc.facts
  obtain ⟨xd, yd, zd, vd⟩ := Bd.facts
  go_wp2_with fail
  refine at_world fun W7 hW => ?_
  obtain ⟨bkp, hbp⟩ : ∃ b, w6.heap.size = b := ⟨_, rfl⟩
  rw [hbp]
  have lap := Ba.lt
  rw [hbp] at lap
  have lbp := Bb.lt
  rw [hbp] at lbp
  have lcp := Bc.lt
  rw [hbp] at lcp
  have ldp := Bd.lt
  rw [hbp] at ldp
  have fp := hw.size
  rw [hbp] at fp
  have Bp : Box W7 bkp [.int .i64 a.x, .int .i64 a.y, .int .i64 b.x, .int .i64 b.y, .int .i64 c.x, .int .i64 c.y, .int .i64 d.x, .int .i64 d.y] 31 := by rw [hW]; exact Box.new hbp.symm
  replace Ba : Box W7 (w.heap.size) [.int .i64 a.x, .int .i64 a.y] 23 := by rw [hW]; exact Ba.old _
  replace Bb : Box W7 (w.heap.size + 1) [.int .i64 b.x, .int .i64 b.y] 23 := by rw [hW]; exact Bb.old _
  replace Bc : Box W7 (w.heap.size + 1 + 1) [.int .i64 c.x, .int .i64 c.y] 23 := by rw [hW]; exact Bc.old _
  replace Bd : Box W7 (w.heap.size + 1 + 1 + 1) [.int .i64 d.x, .int .i64 d.y] 23 := by rw [hW]; exact Bd.old _
  replace hw : Below w.heap.size w W7 := by have hl := hw.size; rw [hW]; go_grown
  clear hW hbp
  refine wp_loop_rounds 5 ?_
  rw [rounds_succ]
  obtain ⟨xa, ya, za, va⟩ := Ba.facts
  obtain ⟨xb, yb, zb, vb⟩ := Bb.facts
  obtain ⟨xc, yc, zc, vc⟩ := Bc.facts
  obtain ⟨xd, yd, zd, vd⟩ := Bd.facts
  obtain ⟨xp, yp, zp, vp⟩ := Bp.facts
  go_wp2_with fail
  refine (cv0 _).mono ?_
  rintro e w8 ⟨rfl, hb⟩
  clear xa ya za va xb yb zb vb xc yc zc vc xd yd zd vd xp yp zp vp
  replace Ba := Ba.ext hb rfl
  replace Bb := Bb.ext hb rfl
  replace Bc := Bc.ext hb rfl
  replace Bd := Bd.ext hb rfl
  replace Bp := Bp.ext hb rfl
  replace hw := hw.trans (hb.mono hw.size)
  clear hb
  obtain ⟨xa, ya, za, va⟩ := Ba.facts
  obtain ⟨xb, yb, zb, vb⟩ := Bb.facts
  obtain ⟨xc, yc, zc, vc⟩ := Bc.facts
  obtain ⟨xd, yd, zd, vd⟩ := Bd.facts
  obtain ⟨xp, yp, zp, vp⟩ := Bp.facts
  go_wp2_with fail
  refine (awake_any _).mono ?_
  rintro e w9 ⟨rfl, hb⟩
  clear xa ya za va xb yb zb vb xc yc zc vc xd yd zd vd xp yp zp vp
  replace Ba := Ba.ext hb rfl
  replace Bb := Bb.ext hb rfl
  replace Bc := Bc.ext hb rfl
  replace Bd := Bd.ext hb rfl
  replace Bp := Bp.ext hb rfl
  replace hw := hw.trans (hb.mono hw.size)
  clear hb
  go_wp2
  go_ret
  exact ⟨rfl, hw⟩

set_option maxRecDepth 100000 in
set_option maxHeartbeats 4000000 in
theorem turns_r2 (a b c d : Pt) (x y : Int) (h0 : vld a = true) (t0 : decide (x < -1073741824) = false) (t1 : decide (1073741824 < x) = false) (t2 : decide (y < -1073741824) = true) (w : World) :
    Calls Try.prog 4 #[.agg #[.int .i64 a.x, .int .i64 a.y], .agg #[.int .i64 b.x, .int .i64 b.y], .agg #[.int .i64 c.x, .int .i64 c.y], .agg #[.int .i64 d.x, .int .i64 d.y], .int .i64 x, .int .i64 y] w fun e w' => e = .returned (.bool true) ∧ Below w.heap.size w w' := by
  have r1 := orient_any a b c
  have r2 := circle_any a b c d
  have r3 := orient_any b c a
  have r4 := orient_any b a c
  have r5 := circle_any b c a d
  have r6 := circle_any b a c d
  rw [ori_cyc] at r3
  rw [ori_swap] at r4
  rw [circ_cyc] at r5
  rw [circ_swap] at r6
  have bo := ori_bd a b c
  have bk := circ_bd a b c d
  have cv0 := rvalid_any a
  rw [h0] at cv0
  generalize ori a b c = O at *
  generalize circ a b c d = K at *
  clear h0
  go_enter Try.func4, Try.ntmps4
  go_wp2_with fail
  refine at_world fun W1 hW => ?_
  have Ba : Box W1 (w.heap.size) [.int .i64 a.x, .int .i64 a.y] 23 := by rw [hW]; exact (((Box.new rfl).old _).old _).old _
  have Bb : Box W1 (w.heap.size + 1) [.int .i64 b.x, .int .i64 b.y] 23 := by rw [hW]; exact ((Box.new (by simp)).old _).old _
  have Bc : Box W1 (w.heap.size + 1 + 1) [.int .i64 c.x, .int .i64 c.y] 23 := by rw [hW]; exact (Box.new (by simp)).old _
  have Bd : Box W1 (w.heap.size + 1 + 1 + 1) [.int .i64 d.x, .int .i64 d.y] 23 := by rw [hW]; exact Box.new (by simp)
  have hw : Below w.heap.size w W1 := by rw [hW]; go_grown
  clear hW
  have ga := Ba.cells
  have gb := Bb.cells
  have gc := Bc.cells
  have gd := Bd.cells
  refine wp_region_tail 9 (by kernel_rfl) (by kernel_rfl) (C := fun w' => ∃ p : Regrown, w' = grow (redrawn W1 p.d) p.os) (fun w' h => regrown_of_below h) ?_
  simp only [List.take_succ_cons, List.take_zero, List.drop_succ_cons, List.drop_zero]
  repeat (first | (refine rWalk_skip (Eq.refl false) ?_; simp only [Act.put, List.setIfInBounds_toArray, List.set_cons_succ, List.set_cons_zero]) | (refine rWalk_step (fun K hK => ?_); go_simp; first | (refine hK _ ?_; clear hK K) | (apply Exists.intro; refine ⟨fun _ => ?_, hK _ ?_⟩; (first | with_reducible exact toExt r1 _ | with_reducible exact toExt r2 _); clear hK K)))
  refine rWalk_nil ?_
  intro w2 hb
  clear ga gb gc gd
  replace Ba := Ba.ext hb rfl
  replace Bb := Bb.ext hb rfl
  replace Bc := Bc.ext hb rfl
  replace Bd := Bd.ext hb rfl
  replace hw := hw.trans (hb.mono hw.size)
  obtain ⟨xa, ya, za, va⟩ := Ba.facts
  obtain ⟨xb, yb, zb, vb⟩ := Bb.facts
  obtain ⟨xc, yc, zc, vc⟩ := Bc.facts
  obtain ⟨xd, yd, zd, vd⟩ := Bd.facts
  go_wp2_with fail
  refine (r3 _).mono ?_
  rintro e w3 ⟨rfl, hb⟩
  clear xa ya za va xb yb zb vb xc yc zc vc xd yd zd vd
  replace Ba := Ba.ext hb rfl
  replace Bb := Bb.ext hb rfl
  replace Bc := Bc.ext hb rfl
  replace Bd := Bd.ext hb rfl
  replace hw := hw.trans (hb.mono hw.size)
  clear hb
  obtain ⟨xa, ya, za, va⟩ := Ba.facts
  obtain ⟨xb, yb, zb, vb⟩ := Bb.facts
  obtain ⟨xc, yc, zc, vc⟩ := Bc.facts
  obtain ⟨xd, yd, zd, vd⟩ := Bd.facts
  go_wp2_with fail
  refine (r4 _).mono ?_
  rintro e w4 ⟨rfl, hb⟩
  clear xa ya za va xb yb zb vb xc yc zc vc xd yd zd vd
  replace Ba := Ba.ext hb rfl
  replace Bb := Bb.ext hb rfl
  replace Bc := Bc.ext hb rfl
  replace Bd := Bd.ext hb rfl
  replace hw := hw.trans (hb.mono hw.size)
  clear hb
  obtain ⟨xa, ya, za, va⟩ := Ba.facts
  obtain ⟨xb, yb, zb, vb⟩ := Bb.facts
  obtain ⟨xc, yc, zc, vc⟩ := Bc.facts
  obtain ⟨xd, yd, zd, vd⟩ := Bd.facts
  go_wp2_with fail
  refine (r5 _).mono ?_
  rintro e w5 ⟨rfl, hb⟩
  clear xa ya za va xb yb zb vb xc yc zc vc xd yd zd vd
  replace Ba := Ba.ext hb rfl
  replace Bb := Bb.ext hb rfl
  replace Bc := Bc.ext hb rfl
  replace Bd := Bd.ext hb rfl
  replace hw := hw.trans (hb.mono hw.size)
  clear hb
  obtain ⟨xa, ya, za, va⟩ := Ba.facts
  obtain ⟨xb, yb, zb, vb⟩ := Bb.facts
  obtain ⟨xc, yc, zc, vc⟩ := Bc.facts
  obtain ⟨xd, yd, zd, vd⟩ := Bd.facts
  go_wp2_with fail
  refine (r6 _).mono ?_
  rintro e w6 ⟨rfl, hb⟩
  clear xa ya za va xb yb zb vb xc yc zc vc xd yd zd vd
  replace Ba := Ba.ext hb rfl
  replace Bb := Bb.ext hb rfl
  replace Bc := Bc.ext hb rfl
  replace Bd := Bd.ext hb rfl
  replace hw := hw.trans (hb.mono hw.size)
  clear hb
  obtain ⟨xa, ya, za, va⟩ := Ba.facts
  obtain ⟨xb, yb, zb, vb⟩ := Bb.facts
  obtain ⟨xc, yc, zc, vc⟩ := Bc.facts
  obtain ⟨xd, yd, zd, vd⟩ := Bd.facts
  go_wp2_with fail
  refine at_world fun W7 hW => ?_
  obtain ⟨bkp, hbp⟩ : ∃ b, w6.heap.size = b := ⟨_, rfl⟩
  rw [hbp]
  have lap := Ba.lt
  rw [hbp] at lap
  have lbp := Bb.lt
  rw [hbp] at lbp
  have lcp := Bc.lt
  rw [hbp] at lcp
  have ldp := Bd.lt
  rw [hbp] at ldp
  have fp := hw.size
  rw [hbp] at fp
  have Bp : Box W7 bkp [.int .i64 a.x, .int .i64 a.y, .int .i64 b.x, .int .i64 b.y, .int .i64 c.x, .int .i64 c.y, .int .i64 d.x, .int .i64 d.y] 31 := by rw [hW]; exact Box.new hbp.symm
  replace Ba : Box W7 (w.heap.size) [.int .i64 a.x, .int .i64 a.y] 23 := by rw [hW]; exact Ba.old _
  replace Bb : Box W7 (w.heap.size + 1) [.int .i64 b.x, .int .i64 b.y] 23 := by rw [hW]; exact Bb.old _
  replace Bc : Box W7 (w.heap.size + 1 + 1) [.int .i64 c.x, .int .i64 c.y] 23 := by rw [hW]; exact Bc.old _
  replace Bd : Box W7 (w.heap.size + 1 + 1 + 1) [.int .i64 d.x, .int .i64 d.y] 23 := by rw [hW]; exact Bd.old _
  replace hw : Below w.heap.size w W7 := by have hl := hw.size; rw [hW]; go_grown
  clear hW hbp
  refine wp_loop_rounds 5 ?_
  rw [rounds_succ]
  obtain ⟨xa, ya, za, va⟩ := Ba.facts
  obtain ⟨xb, yb, zb, vb⟩ := Bb.facts
  obtain ⟨xc, yc, zc, vc⟩ := Bc.facts
  obtain ⟨xd, yd, zd, vd⟩ := Bd.facts
  obtain ⟨xp, yp, zp, vp⟩ := Bp.facts
  go_wp2_with fail
  refine (cv0 _).mono ?_
  rintro e w8 ⟨rfl, hb⟩
  clear xa ya za va xb yb zb vb xc yc zc vc xd yd zd vd xp yp zp vp
  replace Ba := Ba.ext hb rfl
  replace Bb := Bb.ext hb rfl
  replace Bc := Bc.ext hb rfl
  replace Bd := Bd.ext hb rfl
  replace Bp := Bp.ext hb rfl
  replace hw := hw.trans (hb.mono hw.size)
  clear hb
  obtain ⟨xa, ya, za, va⟩ := Ba.facts
  obtain ⟨xb, yb, zb, vb⟩ := Bb.facts
  obtain ⟨xc, yc, zc, vc⟩ := Bc.facts
  obtain ⟨xd, yd, zd, vd⟩ := Bd.facts
  obtain ⟨xp, yp, zp, vp⟩ := Bp.facts
  go_wp2_with fail
  refine (awake_any _).mono ?_
  rintro e w9 ⟨rfl, hb⟩
  clear xa ya za va xb yb zb vb xc yc zc vc xd yd zd vd xp yp zp vp
  replace Ba := Ba.ext hb rfl
  replace Bb := Bb.ext hb rfl
  replace Bc := Bc.ext hb rfl
  replace Bd := Bd.ext hb rfl
  replace Bp := Bp.ext hb rfl
  replace hw := hw.trans (hb.mono hw.size)
  clear hb
  go_wp2
  go_ret
  exact ⟨rfl, hw⟩

set_option maxRecDepth 100000 in
set_option maxHeartbeats 4000000 in
theorem turns_r3 (a b c d : Pt) (x y : Int) (h0 : vld a = true) (t0 : decide (x < -1073741824) = false) (t1 : decide (1073741824 < x) = false) (t2 : decide (y < -1073741824) = false) (t3 : decide (1073741824 < y) = true) (w : World) :
    Calls Try.prog 4 #[.agg #[.int .i64 a.x, .int .i64 a.y], .agg #[.int .i64 b.x, .int .i64 b.y], .agg #[.int .i64 c.x, .int .i64 c.y], .agg #[.int .i64 d.x, .int .i64 d.y], .int .i64 x, .int .i64 y] w fun e w' => e = .returned (.bool true) ∧ Below w.heap.size w w' := by
  have r1 := orient_any a b c
  have r2 := circle_any a b c d
  have r3 := orient_any b c a
  have r4 := orient_any b a c
  have r5 := circle_any b c a d
  have r6 := circle_any b a c d
  rw [ori_cyc] at r3
  rw [ori_swap] at r4
  rw [circ_cyc] at r5
  rw [circ_swap] at r6
  have bo := ori_bd a b c
  have bk := circ_bd a b c d
  have cv0 := rvalid_any a
  rw [h0] at cv0
  generalize ori a b c = O at *
  generalize circ a b c d = K at *
  clear h0
  go_enter Try.func4, Try.ntmps4
  go_wp2_with fail
  refine at_world fun W1 hW => ?_
  have Ba : Box W1 (w.heap.size) [.int .i64 a.x, .int .i64 a.y] 23 := by rw [hW]; exact (((Box.new rfl).old _).old _).old _
  have Bb : Box W1 (w.heap.size + 1) [.int .i64 b.x, .int .i64 b.y] 23 := by rw [hW]; exact ((Box.new (by simp)).old _).old _
  have Bc : Box W1 (w.heap.size + 1 + 1) [.int .i64 c.x, .int .i64 c.y] 23 := by rw [hW]; exact (Box.new (by simp)).old _
  have Bd : Box W1 (w.heap.size + 1 + 1 + 1) [.int .i64 d.x, .int .i64 d.y] 23 := by rw [hW]; exact Box.new (by simp)
  have hw : Below w.heap.size w W1 := by rw [hW]; go_grown
  clear hW
  have ga := Ba.cells
  have gb := Bb.cells
  have gc := Bc.cells
  have gd := Bd.cells
  refine wp_region_tail 9 (by kernel_rfl) (by kernel_rfl) (C := fun w' => ∃ p : Regrown, w' = grow (redrawn W1 p.d) p.os) (fun w' h => regrown_of_below h) ?_
  simp only [List.take_succ_cons, List.take_zero, List.drop_succ_cons, List.drop_zero]
  repeat (first | (refine rWalk_skip (Eq.refl false) ?_; simp only [Act.put, List.setIfInBounds_toArray, List.set_cons_succ, List.set_cons_zero]) | (refine rWalk_step (fun K hK => ?_); go_simp; first | (refine hK _ ?_; clear hK K) | (apply Exists.intro; refine ⟨fun _ => ?_, hK _ ?_⟩; (first | with_reducible exact toExt r1 _ | with_reducible exact toExt r2 _); clear hK K)))
  refine rWalk_nil ?_
  intro w2 hb
  clear ga gb gc gd
  replace Ba := Ba.ext hb rfl
  replace Bb := Bb.ext hb rfl
  replace Bc := Bc.ext hb rfl
  replace Bd := Bd.ext hb rfl
  replace hw := hw.trans (hb.mono hw.size)
  obtain ⟨xa, ya, za, va⟩ := Ba.facts
  obtain ⟨xb, yb, zb, vb⟩ := Bb.facts
  obtain ⟨xc, yc, zc, vc⟩ := Bc.facts
  obtain ⟨xd, yd, zd, vd⟩ := Bd.facts
  go_wp2_with fail
  refine (r3 _).mono ?_
  rintro e w3 ⟨rfl, hb⟩
  clear xa ya za va xb yb zb vb xc yc zc vc xd yd zd vd
  replace Ba := Ba.ext hb rfl
  replace Bb := Bb.ext hb rfl
  replace Bc := Bc.ext hb rfl
  replace Bd := Bd.ext hb rfl
  replace hw := hw.trans (hb.mono hw.size)
  clear hb
  obtain ⟨xa, ya, za, va⟩ := Ba.facts
  obtain ⟨xb, yb, zb, vb⟩ := Bb.facts
  obtain ⟨xc, yc, zc, vc⟩ := Bc.facts
  obtain ⟨xd, yd, zd, vd⟩ := Bd.facts
  go_wp2_with fail
  refine (r4 _).mono ?_
  rintro e w4 ⟨rfl, hb⟩
  clear xa ya za va xb yb zb vb xc yc zc vc xd yd zd vd
  replace Ba := Ba.ext hb rfl
  replace Bb := Bb.ext hb rfl
  replace Bc := Bc.ext hb rfl
  replace Bd := Bd.ext hb rfl
  replace hw := hw.trans (hb.mono hw.size)
  clear hb
  obtain ⟨xa, ya, za, va⟩ := Ba.facts
  obtain ⟨xb, yb, zb, vb⟩ := Bb.facts
  obtain ⟨xc, yc, zc, vc⟩ := Bc.facts
  obtain ⟨xd, yd, zd, vd⟩ := Bd.facts
  go_wp2_with fail
  refine (r5 _).mono ?_
  rintro e w5 ⟨rfl, hb⟩
  clear xa ya za va xb yb zb vb xc yc zc vc xd yd zd vd
  replace Ba := Ba.ext hb rfl
  replace Bb := Bb.ext hb rfl
  replace Bc := Bc.ext hb rfl
  replace Bd := Bd.ext hb rfl
  replace hw := hw.trans (hb.mono hw.size)
  clear hb
  obtain ⟨xa, ya, za, va⟩ := Ba.facts
  obtain ⟨xb, yb, zb, vb⟩ := Bb.facts
  obtain ⟨xc, yc, zc, vc⟩ := Bc.facts
  obtain ⟨xd, yd, zd, vd⟩ := Bd.facts
  go_wp2_with fail
  refine (r6 _).mono ?_
  rintro e w6 ⟨rfl, hb⟩
  clear xa ya za va xb yb zb vb xc yc zc vc xd yd zd vd
  replace Ba := Ba.ext hb rfl
  replace Bb := Bb.ext hb rfl
  replace Bc := Bc.ext hb rfl
  replace Bd := Bd.ext hb rfl
  replace hw := hw.trans (hb.mono hw.size)
  clear hb
  obtain ⟨xa, ya, za, va⟩ := Ba.facts
  obtain ⟨xb, yb, zb, vb⟩ := Bb.facts
  obtain ⟨xc, yc, zc, vc⟩ := Bc.facts
  obtain ⟨xd, yd, zd, vd⟩ := Bd.facts
  go_wp2_with fail
  refine at_world fun W7 hW => ?_
  obtain ⟨bkp, hbp⟩ : ∃ b, w6.heap.size = b := ⟨_, rfl⟩
  rw [hbp]
  have lap := Ba.lt
  rw [hbp] at lap
  have lbp := Bb.lt
  rw [hbp] at lbp
  have lcp := Bc.lt
  rw [hbp] at lcp
  have ldp := Bd.lt
  rw [hbp] at ldp
  have fp := hw.size
  rw [hbp] at fp
  have Bp : Box W7 bkp [.int .i64 a.x, .int .i64 a.y, .int .i64 b.x, .int .i64 b.y, .int .i64 c.x, .int .i64 c.y, .int .i64 d.x, .int .i64 d.y] 31 := by rw [hW]; exact Box.new hbp.symm
  replace Ba : Box W7 (w.heap.size) [.int .i64 a.x, .int .i64 a.y] 23 := by rw [hW]; exact Ba.old _
  replace Bb : Box W7 (w.heap.size + 1) [.int .i64 b.x, .int .i64 b.y] 23 := by rw [hW]; exact Bb.old _
  replace Bc : Box W7 (w.heap.size + 1 + 1) [.int .i64 c.x, .int .i64 c.y] 23 := by rw [hW]; exact Bc.old _
  replace Bd : Box W7 (w.heap.size + 1 + 1 + 1) [.int .i64 d.x, .int .i64 d.y] 23 := by rw [hW]; exact Bd.old _
  replace hw : Below w.heap.size w W7 := by have hl := hw.size; rw [hW]; go_grown
  clear hW hbp
  refine wp_loop_rounds 5 ?_
  rw [rounds_succ]
  obtain ⟨xa, ya, za, va⟩ := Ba.facts
  obtain ⟨xb, yb, zb, vb⟩ := Bb.facts
  obtain ⟨xc, yc, zc, vc⟩ := Bc.facts
  obtain ⟨xd, yd, zd, vd⟩ := Bd.facts
  obtain ⟨xp, yp, zp, vp⟩ := Bp.facts
  go_wp2_with fail
  refine (cv0 _).mono ?_
  rintro e w8 ⟨rfl, hb⟩
  clear xa ya za va xb yb zb vb xc yc zc vc xd yd zd vd xp yp zp vp
  replace Ba := Ba.ext hb rfl
  replace Bb := Bb.ext hb rfl
  replace Bc := Bc.ext hb rfl
  replace Bd := Bd.ext hb rfl
  replace Bp := Bp.ext hb rfl
  replace hw := hw.trans (hb.mono hw.size)
  clear hb
  obtain ⟨xa, ya, za, va⟩ := Ba.facts
  obtain ⟨xb, yb, zb, vb⟩ := Bb.facts
  obtain ⟨xc, yc, zc, vc⟩ := Bc.facts
  obtain ⟨xd, yd, zd, vd⟩ := Bd.facts
  obtain ⟨xp, yp, zp, vp⟩ := Bp.facts
  go_wp2_with fail
  refine (awake_any _).mono ?_
  rintro e w9 ⟨rfl, hb⟩
  clear xa ya za va xb yb zb vb xc yc zc vc xd yd zd vd xp yp zp vp
  replace Ba := Ba.ext hb rfl
  replace Bb := Bb.ext hb rfl
  replace Bc := Bc.ext hb rfl
  replace Bd := Bd.ext hb rfl
  replace Bp := Bp.ext hb rfl
  replace hw := hw.trans (hb.mono hw.size)
  clear hb
  go_wp2
  go_ret
  exact ⟨rfl, hw⟩

set_option maxRecDepth 100000 in
set_option maxHeartbeats 4000000 in
theorem turns_m0 (a b c d : Pt) (x y : Int) (h0 : vld a = true) (k0 : vld (mv a x y) = false) (t0 : decide (x < -1073741824) = false) (t1 : decide (1073741824 < x) = false) (t2 : decide (y < -1073741824) = false) (t3 : decide (1073741824 < y) = false) (w : World) :
    Calls Try.prog 4 #[.agg #[.int .i64 a.x, .int .i64 a.y], .agg #[.int .i64 b.x, .int .i64 b.y], .agg #[.int .i64 c.x, .int .i64 c.y], .agg #[.int .i64 d.x, .int .i64 d.y], .int .i64 x, .int .i64 y] w fun e w' => e = .returned (.bool true) ∧ Below w.heap.size w w' := by
  have r1 := orient_any a b c
  have r2 := circle_any a b c d
  have r3 := orient_any b c a
  have r4 := orient_any b a c
  have r5 := circle_any b c a d
  have r6 := circle_any b a c d
  rw [ori_cyc] at r3
  rw [ori_swap] at r4
  rw [circ_cyc] at r5
  rw [circ_swap] at r6
  have bo := ori_bd a b c
  have bk := circ_bd a b c d
  have cv0 := rvalid_any a
  rw [h0] at cv0
  have cm0 := rvalid_any (mv a x y)
  rw [k0] at cm0
  obtain ⟨wa0, wb0⟩ := mv_wrap h0 t0 t1 t2 t3
  generalize ori a b c = O at *
  generalize circ a b c d = K at *
  clear h0 k0
  generalize mv a x y = m0 at *
  go_enter Try.func4, Try.ntmps4
  go_wp2_with fail
  refine at_world fun W1 hW => ?_
  have Ba : Box W1 (w.heap.size) [.int .i64 a.x, .int .i64 a.y] 23 := by rw [hW]; exact (((Box.new rfl).old _).old _).old _
  have Bb : Box W1 (w.heap.size + 1) [.int .i64 b.x, .int .i64 b.y] 23 := by rw [hW]; exact ((Box.new (by simp)).old _).old _
  have Bc : Box W1 (w.heap.size + 1 + 1) [.int .i64 c.x, .int .i64 c.y] 23 := by rw [hW]; exact (Box.new (by simp)).old _
  have Bd : Box W1 (w.heap.size + 1 + 1 + 1) [.int .i64 d.x, .int .i64 d.y] 23 := by rw [hW]; exact Box.new (by simp)
  have hw : Below w.heap.size w W1 := by rw [hW]; go_grown
  clear hW
  have ga := Ba.cells
  have gb := Bb.cells
  have gc := Bc.cells
  have gd := Bd.cells
  refine wp_region_tail 9 (by kernel_rfl) (by kernel_rfl) (C := fun w' => ∃ p : Regrown, w' = grow (redrawn W1 p.d) p.os) (fun w' h => regrown_of_below h) ?_
  simp only [List.take_succ_cons, List.take_zero, List.drop_succ_cons, List.drop_zero]
  repeat (first | (refine rWalk_skip (Eq.refl false) ?_; simp only [Act.put, List.setIfInBounds_toArray, List.set_cons_succ, List.set_cons_zero]) | (refine rWalk_step (fun K hK => ?_); go_simp; first | (refine hK _ ?_; clear hK K) | (apply Exists.intro; refine ⟨fun _ => ?_, hK _ ?_⟩; (first | with_reducible exact toExt r1 _ | with_reducible exact toExt r2 _); clear hK K)))
  refine rWalk_nil ?_
  intro w2 hb
  clear ga gb gc gd
  replace Ba := Ba.ext hb rfl
  replace Bb := Bb.ext hb rfl
  replace Bc := Bc.ext hb rfl
  replace Bd := Bd.ext hb rfl
  replace hw := hw.trans (hb.mono hw.size)
  obtain ⟨xa, ya, za, va⟩ := Ba.facts
  obtain ⟨xb, yb, zb, vb⟩ := Bb.facts
  obtain ⟨xc, yc, zc, vc⟩ := Bc.facts
  obtain ⟨xd, yd, zd, vd⟩ := Bd.facts
  go_wp2_with fail
  refine (r3 _).mono ?_
  rintro e w3 ⟨rfl, hb⟩
  clear xa ya za va xb yb zb vb xc yc zc vc xd yd zd vd
  replace Ba := Ba.ext hb rfl
  replace Bb := Bb.ext hb rfl
  replace Bc := Bc.ext hb rfl
  replace Bd := Bd.ext hb rfl
  replace hw := hw.trans (hb.mono hw.size)
  clear hb
  obtain ⟨xa, ya, za, va⟩ := Ba.facts
  obtain ⟨xb, yb, zb, vb⟩ := Bb.facts
  obtain ⟨xc, yc, zc, vc⟩ := Bc.facts
  obtain ⟨xd, yd, zd, vd⟩ := Bd.facts
  go_wp2_with fail
  refine (r4 _).mono ?_
  rintro e w4 ⟨rfl, hb⟩
  clear xa ya za va xb yb zb vb xc yc zc vc xd yd zd vd
  replace Ba := Ba.ext hb rfl
  replace Bb := Bb.ext hb rfl
  replace Bc := Bc.ext hb rfl
  replace Bd := Bd.ext hb rfl
  replace hw := hw.trans (hb.mono hw.size)
  clear hb
  obtain ⟨xa, ya, za, va⟩ := Ba.facts
  obtain ⟨xb, yb, zb, vb⟩ := Bb.facts
  obtain ⟨xc, yc, zc, vc⟩ := Bc.facts
  obtain ⟨xd, yd, zd, vd⟩ := Bd.facts
  go_wp2_with fail
  refine (r5 _).mono ?_
  rintro e w5 ⟨rfl, hb⟩
  clear xa ya za va xb yb zb vb xc yc zc vc xd yd zd vd
  replace Ba := Ba.ext hb rfl
  replace Bb := Bb.ext hb rfl
  replace Bc := Bc.ext hb rfl
  replace Bd := Bd.ext hb rfl
  replace hw := hw.trans (hb.mono hw.size)
  clear hb
  obtain ⟨xa, ya, za, va⟩ := Ba.facts
  obtain ⟨xb, yb, zb, vb⟩ := Bb.facts
  obtain ⟨xc, yc, zc, vc⟩ := Bc.facts
  obtain ⟨xd, yd, zd, vd⟩ := Bd.facts
  go_wp2_with fail
  refine (r6 _).mono ?_
  rintro e w6 ⟨rfl, hb⟩
  clear xa ya za va xb yb zb vb xc yc zc vc xd yd zd vd
  replace Ba := Ba.ext hb rfl
  replace Bb := Bb.ext hb rfl
  replace Bc := Bc.ext hb rfl
  replace Bd := Bd.ext hb rfl
  replace hw := hw.trans (hb.mono hw.size)
  clear hb
  obtain ⟨xa, ya, za, va⟩ := Ba.facts
  obtain ⟨xb, yb, zb, vb⟩ := Bb.facts
  obtain ⟨xc, yc, zc, vc⟩ := Bc.facts
  obtain ⟨xd, yd, zd, vd⟩ := Bd.facts
  go_wp2_with fail
  refine at_world fun W7 hW => ?_
  obtain ⟨bkp, hbp⟩ : ∃ b, w6.heap.size = b := ⟨_, rfl⟩
  rw [hbp]
  have lap := Ba.lt
  rw [hbp] at lap
  have lbp := Bb.lt
  rw [hbp] at lbp
  have lcp := Bc.lt
  rw [hbp] at lcp
  have ldp := Bd.lt
  rw [hbp] at ldp
  have fp := hw.size
  rw [hbp] at fp
  have Bp : Box W7 bkp [.int .i64 a.x, .int .i64 a.y, .int .i64 b.x, .int .i64 b.y, .int .i64 c.x, .int .i64 c.y, .int .i64 d.x, .int .i64 d.y] 31 := by rw [hW]; exact Box.new hbp.symm
  replace Ba : Box W7 (w.heap.size) [.int .i64 a.x, .int .i64 a.y] 23 := by rw [hW]; exact Ba.old _
  replace Bb : Box W7 (w.heap.size + 1) [.int .i64 b.x, .int .i64 b.y] 23 := by rw [hW]; exact Bb.old _
  replace Bc : Box W7 (w.heap.size + 1 + 1) [.int .i64 c.x, .int .i64 c.y] 23 := by rw [hW]; exact Bc.old _
  replace Bd : Box W7 (w.heap.size + 1 + 1 + 1) [.int .i64 d.x, .int .i64 d.y] 23 := by rw [hW]; exact Bd.old _
  replace hw : Below w.heap.size w W7 := by have hl := hw.size; rw [hW]; go_grown
  clear hW hbp
  refine wp_loop_rounds 5 ?_
  rw [rounds_succ]
  obtain ⟨xa, ya, za, va⟩ := Ba.facts
  obtain ⟨xb, yb, zb, vb⟩ := Bb.facts
  obtain ⟨xc, yc, zc, vc⟩ := Bc.facts
  obtain ⟨xd, yd, zd, vd⟩ := Bd.facts
  obtain ⟨xp, yp, zp, vp⟩ := Bp.facts
  go_wp2_with fail
  refine (cv0 _).mono ?_
  rintro e w8 ⟨rfl, hb⟩
  clear xa ya za va xb yb zb vb xc yc zc vc xd yd zd vd xp yp zp vp
  replace Ba := Ba.ext hb rfl
  replace Bb := Bb.ext hb rfl
  replace Bc := Bc.ext hb rfl
  replace Bd := Bd.ext hb rfl
  replace Bp := Bp.ext hb rfl
  replace hw := hw.trans (hb.mono hw.size)
  clear hb
  obtain ⟨xa, ya, za, va⟩ := Ba.facts
  obtain ⟨xb, yb, zb, vb⟩ := Bb.facts
  obtain ⟨xc, yc, zc, vc⟩ := Bc.facts
  obtain ⟨xd, yd, zd, vd⟩ := Bd.facts
  obtain ⟨xp, yp, zp, vp⟩ := Bp.facts
  go_wp2_with fail
  go_region
  go_wp2_with fail
  refine at_call fun W9 hW => ?_
  have Ca : Box W9 (w.heap.size) [.int .i64 a.x, .int .i64 a.y] 23 := by rw [hW]; exact (((Ba.set_ne ⟨bkp, 0, none⟩ (.int .i64 m0.x) (by show bkp ≠ _; omega)).set_ne ⟨bkp, 1, none⟩ (.int .i64 m0.y) (by show bkp ≠ _; omega))).drew
  have Cb : Box W9 (w.heap.size + 1) [.int .i64 b.x, .int .i64 b.y] 23 := by rw [hW]; exact (((Bb.set_ne ⟨bkp, 0, none⟩ (.int .i64 m0.x) (by show bkp ≠ _; omega)).set_ne ⟨bkp, 1, none⟩ (.int .i64 m0.y) (by show bkp ≠ _; omega))).drew
  have Cc : Box W9 (w.heap.size + 1 + 1) [.int .i64 c.x, .int .i64 c.y] 23 := by rw [hW]; exact (((Bc.set_ne ⟨bkp, 0, none⟩ (.int .i64 m0.x) (by show bkp ≠ _; omega)).set_ne ⟨bkp, 1, none⟩ (.int .i64 m0.y) (by show bkp ≠ _; omega))).drew
  have Cd : Box W9 (w.heap.size + 1 + 1 + 1) [.int .i64 d.x, .int .i64 d.y] 23 := by rw [hW]; exact (((Bd.set_ne ⟨bkp, 0, none⟩ (.int .i64 m0.x) (by show bkp ≠ _; omega)).set_ne ⟨bkp, 1, none⟩ (.int .i64 m0.y) (by show bkp ≠ _; omega))).drew
  have Cp : Box W9 (bkp) [.int .i64 m0.x, .int .i64 m0.y, .int .i64 b.x, .int .i64 b.y, .int .i64 c.x, .int .i64 c.y, .int .i64 d.x, .int .i64 d.y] 31 := by rw [hW]; exact (((Bp.set 0 (.int .i64 m0.x)).set 1 (.int .i64 m0.y))).drew
  replace hw : Below w.heap.size w W9 := by have hl := hw.size; rw [hW]; go_grown
  clear xa ya za va xb yb zb vb xc yc zc vc xd yd zd vd xp yp zp vp
  clear hW Ba Bb Bc Bd Bp
  have Ba := Ca
  have Bb := Cb
  have Bc := Cc
  have Bd := Cd
  have Bp := Cp
  clear Ca Cb Cc Cd Cp
  refine (cm0 _).mono ?_
  rintro e w10 ⟨rfl, hb⟩
  replace Ba := Ba.ext hb rfl
  replace Bb := Bb.ext hb rfl
  replace Bc := Bc.ext hb rfl
  replace Bd := Bd.ext hb rfl
  replace Bp := Bp.ext hb rfl
  replace hw := hw.trans (hb.mono hw.size)
  clear hb
  obtain ⟨xa, ya, za, va⟩ := Ba.facts
  obtain ⟨xb, yb, zb, vb⟩ := Bb.facts
  obtain ⟨xc, yc, zc, vc⟩ := Bc.facts
  obtain ⟨xd, yd, zd, vd⟩ := Bd.facts
  obtain ⟨xp, yp, zp, vp⟩ := Bp.facts
  go_wp2_with fail
  refine (awake_any _).mono ?_
  rintro e w11 ⟨rfl, hb⟩
  clear xa ya za va xb yb zb vb xc yc zc vc xd yd zd vd xp yp zp vp
  replace Ba := Ba.ext hb rfl
  replace Bb := Bb.ext hb rfl
  replace Bc := Bc.ext hb rfl
  replace Bd := Bd.ext hb rfl
  replace Bp := Bp.ext hb rfl
  replace hw := hw.trans (hb.mono hw.size)
  clear hb
  go_wp2
  go_ret
  exact ⟨rfl, hw⟩

set_option maxRecDepth 100000 in
set_option maxHeartbeats 4000000 in
theorem turns_m1 (a b c d : Pt) (x y : Int) (h0 : vld a = true) (k0 : vld (mv a x y) = true) (h1 : vld b = true) (k1 : vld (mv b x y) = false) (t0 : decide (x < -1073741824) = false) (t1 : decide (1073741824 < x) = false) (t2 : decide (y < -1073741824) = false) (t3 : decide (1073741824 < y) = false) (w : World) :
    Calls Try.prog 4 #[.agg #[.int .i64 a.x, .int .i64 a.y], .agg #[.int .i64 b.x, .int .i64 b.y], .agg #[.int .i64 c.x, .int .i64 c.y], .agg #[.int .i64 d.x, .int .i64 d.y], .int .i64 x, .int .i64 y] w fun e w' => e = .returned (.bool true) ∧ Below w.heap.size w w' := by
  have r1 := orient_any a b c
  have r2 := circle_any a b c d
  have r3 := orient_any b c a
  have r4 := orient_any b a c
  have r5 := circle_any b c a d
  have r6 := circle_any b a c d
  rw [ori_cyc] at r3
  rw [ori_swap] at r4
  rw [circ_cyc] at r5
  rw [circ_swap] at r6
  have bo := ori_bd a b c
  have bk := circ_bd a b c d
  have cv0 := rvalid_any a
  rw [h0] at cv0
  have cv1 := rvalid_any b
  rw [h1] at cv1
  have cm0 := rvalid_any (mv a x y)
  rw [k0] at cm0
  obtain ⟨wa0, wb0⟩ := mv_wrap h0 t0 t1 t2 t3
  have cm1 := rvalid_any (mv b x y)
  rw [k1] at cm1
  obtain ⟨wa1, wb1⟩ := mv_wrap h1 t0 t1 t2 t3
  generalize ori a b c = O at *
  generalize circ a b c d = K at *
  clear h0 h1 k0 k1
  generalize mv a x y = m0 at *
  generalize mv b x y = m1 at *
  go_enter Try.func4, Try.ntmps4
  go_wp2_with fail
  refine at_world fun W1 hW => ?_
  have Ba : Box W1 (w.heap.size) [.int .i64 a.x, .int .i64 a.y] 23 := by rw [hW]; exact (((Box.new rfl).old _).old _).old _
  have Bb : Box W1 (w.heap.size + 1) [.int .i64 b.x, .int .i64 b.y] 23 := by rw [hW]; exact ((Box.new (by simp)).old _).old _
  have Bc : Box W1 (w.heap.size + 1 + 1) [.int .i64 c.x, .int .i64 c.y] 23 := by rw [hW]; exact (Box.new (by simp)).old _
  have Bd : Box W1 (w.heap.size + 1 + 1 + 1) [.int .i64 d.x, .int .i64 d.y] 23 := by rw [hW]; exact Box.new (by simp)
  have hw : Below w.heap.size w W1 := by rw [hW]; go_grown
  clear hW
  have ga := Ba.cells
  have gb := Bb.cells
  have gc := Bc.cells
  have gd := Bd.cells
  refine wp_region_tail 9 (by kernel_rfl) (by kernel_rfl) (C := fun w' => ∃ p : Regrown, w' = grow (redrawn W1 p.d) p.os) (fun w' h => regrown_of_below h) ?_
  simp only [List.take_succ_cons, List.take_zero, List.drop_succ_cons, List.drop_zero]
  repeat (first | (refine rWalk_skip (Eq.refl false) ?_; simp only [Act.put, List.setIfInBounds_toArray, List.set_cons_succ, List.set_cons_zero]) | (refine rWalk_step (fun K hK => ?_); go_simp; first | (refine hK _ ?_; clear hK K) | (apply Exists.intro; refine ⟨fun _ => ?_, hK _ ?_⟩; (first | with_reducible exact toExt r1 _ | with_reducible exact toExt r2 _); clear hK K)))
  refine rWalk_nil ?_
  intro w2 hb
  clear ga gb gc gd
  replace Ba := Ba.ext hb rfl
  replace Bb := Bb.ext hb rfl
  replace Bc := Bc.ext hb rfl
  replace Bd := Bd.ext hb rfl
  replace hw := hw.trans (hb.mono hw.size)
  obtain ⟨xa, ya, za, va⟩ := Ba.facts
  obtain ⟨xb, yb, zb, vb⟩ := Bb.facts
  obtain ⟨xc, yc, zc, vc⟩ := Bc.facts
  obtain ⟨xd, yd, zd, vd⟩ := Bd.facts
  go_wp2_with fail
  refine (r3 _).mono ?_
  rintro e w3 ⟨rfl, hb⟩
  clear xa ya za va xb yb zb vb xc yc zc vc xd yd zd vd
  replace Ba := Ba.ext hb rfl
  replace Bb := Bb.ext hb rfl
  replace Bc := Bc.ext hb rfl
  replace Bd := Bd.ext hb rfl
  replace hw := hw.trans (hb.mono hw.size)
  clear hb
  obtain ⟨xa, ya, za, va⟩ := Ba.facts
  obtain ⟨xb, yb, zb, vb⟩ := Bb.facts
  obtain ⟨xc, yc, zc, vc⟩ := Bc.facts
  obtain ⟨xd, yd, zd, vd⟩ := Bd.facts
  go_wp2_with fail
  refine (r4 _).mono ?_
  rintro e w4 ⟨rfl, hb⟩
  clear xa ya za va xb yb zb vb xc yc zc vc xd yd zd vd
  replace Ba := Ba.ext hb rfl
  replace Bb := Bb.ext hb rfl
  replace Bc := Bc.ext hb rfl
  replace Bd := Bd.ext hb rfl
  replace hw := hw.trans (hb.mono hw.size)
  clear hb
  obtain ⟨xa, ya, za, va⟩ := Ba.facts
  obtain ⟨xb, yb, zb, vb⟩ := Bb.facts
  obtain ⟨xc, yc, zc, vc⟩ := Bc.facts
  obtain ⟨xd, yd, zd, vd⟩ := Bd.facts
  go_wp2_with fail
  refine (r5 _).mono ?_
  rintro e w5 ⟨rfl, hb⟩
  clear xa ya za va xb yb zb vb xc yc zc vc xd yd zd vd
  replace Ba := Ba.ext hb rfl
  replace Bb := Bb.ext hb rfl
  replace Bc := Bc.ext hb rfl
  replace Bd := Bd.ext hb rfl
  replace hw := hw.trans (hb.mono hw.size)
  clear hb
  obtain ⟨xa, ya, za, va⟩ := Ba.facts
  obtain ⟨xb, yb, zb, vb⟩ := Bb.facts
  obtain ⟨xc, yc, zc, vc⟩ := Bc.facts
  obtain ⟨xd, yd, zd, vd⟩ := Bd.facts
  go_wp2_with fail
  refine (r6 _).mono ?_
  rintro e w6 ⟨rfl, hb⟩
  clear xa ya za va xb yb zb vb xc yc zc vc xd yd zd vd
  replace Ba := Ba.ext hb rfl
  replace Bb := Bb.ext hb rfl
  replace Bc := Bc.ext hb rfl
  replace Bd := Bd.ext hb rfl
  replace hw := hw.trans (hb.mono hw.size)
  clear hb
  obtain ⟨xa, ya, za, va⟩ := Ba.facts
  obtain ⟨xb, yb, zb, vb⟩ := Bb.facts
  obtain ⟨xc, yc, zc, vc⟩ := Bc.facts
  obtain ⟨xd, yd, zd, vd⟩ := Bd.facts
  go_wp2_with fail
  refine at_world fun W7 hW => ?_
  obtain ⟨bkp, hbp⟩ : ∃ b, w6.heap.size = b := ⟨_, rfl⟩
  rw [hbp]
  have lap := Ba.lt
  rw [hbp] at lap
  have lbp := Bb.lt
  rw [hbp] at lbp
  have lcp := Bc.lt
  rw [hbp] at lcp
  have ldp := Bd.lt
  rw [hbp] at ldp
  have fp := hw.size
  rw [hbp] at fp
  have Bp : Box W7 bkp [.int .i64 a.x, .int .i64 a.y, .int .i64 b.x, .int .i64 b.y, .int .i64 c.x, .int .i64 c.y, .int .i64 d.x, .int .i64 d.y] 31 := by rw [hW]; exact Box.new hbp.symm
  replace Ba : Box W7 (w.heap.size) [.int .i64 a.x, .int .i64 a.y] 23 := by rw [hW]; exact Ba.old _
  replace Bb : Box W7 (w.heap.size + 1) [.int .i64 b.x, .int .i64 b.y] 23 := by rw [hW]; exact Bb.old _
  replace Bc : Box W7 (w.heap.size + 1 + 1) [.int .i64 c.x, .int .i64 c.y] 23 := by rw [hW]; exact Bc.old _
  replace Bd : Box W7 (w.heap.size + 1 + 1 + 1) [.int .i64 d.x, .int .i64 d.y] 23 := by rw [hW]; exact Bd.old _
  replace hw : Below w.heap.size w W7 := by have hl := hw.size; rw [hW]; go_grown
  clear hW hbp
  refine wp_loop_rounds 5 ?_
  rw [rounds_succ]
  obtain ⟨xa, ya, za, va⟩ := Ba.facts
  obtain ⟨xb, yb, zb, vb⟩ := Bb.facts
  obtain ⟨xc, yc, zc, vc⟩ := Bc.facts
  obtain ⟨xd, yd, zd, vd⟩ := Bd.facts
  obtain ⟨xp, yp, zp, vp⟩ := Bp.facts
  go_wp2_with fail
  refine (cv0 _).mono ?_
  rintro e w8 ⟨rfl, hb⟩
  clear xa ya za va xb yb zb vb xc yc zc vc xd yd zd vd xp yp zp vp
  replace Ba := Ba.ext hb rfl
  replace Bb := Bb.ext hb rfl
  replace Bc := Bc.ext hb rfl
  replace Bd := Bd.ext hb rfl
  replace Bp := Bp.ext hb rfl
  replace hw := hw.trans (hb.mono hw.size)
  clear hb
  obtain ⟨xa, ya, za, va⟩ := Ba.facts
  obtain ⟨xb, yb, zb, vb⟩ := Bb.facts
  obtain ⟨xc, yc, zc, vc⟩ := Bc.facts
  obtain ⟨xd, yd, zd, vd⟩ := Bd.facts
  obtain ⟨xp, yp, zp, vp⟩ := Bp.facts
  go_wp2_with fail
  go_region
  go_wp2_with fail
  refine at_call fun W9 hW => ?_
  have Ca : Box W9 (w.heap.size) [.int .i64 a.x, .int .i64 a.y] 23 := by rw [hW]; exact (((Ba.set_ne ⟨bkp, 0, none⟩ (.int .i64 m0.x) (by show bkp ≠ _; omega)).set_ne ⟨bkp, 1, none⟩ (.int .i64 m0.y) (by show bkp ≠ _; omega))).drew
  have Cb : Box W9 (w.heap.size + 1) [.int .i64 b.x, .int .i64 b.y] 23 := by rw [hW]; exact (((Bb.set_ne ⟨bkp, 0, none⟩ (.int .i64 m0.x) (by show bkp ≠ _; omega)).set_ne ⟨bkp, 1, none⟩ (.int .i64 m0.y) (by show bkp ≠ _; omega))).drew
  have Cc : Box W9 (w.heap.size + 1 + 1) [.int .i64 c.x, .int .i64 c.y] 23 := by rw [hW]; exact (((Bc.set_ne ⟨bkp, 0, none⟩ (.int .i64 m0.x) (by show bkp ≠ _; omega)).set_ne ⟨bkp, 1, none⟩ (.int .i64 m0.y) (by show bkp ≠ _; omega))).drew
  have Cd : Box W9 (w.heap.size + 1 + 1 + 1) [.int .i64 d.x, .int .i64 d.y] 23 := by rw [hW]; exact (((Bd.set_ne ⟨bkp, 0, none⟩ (.int .i64 m0.x) (by show bkp ≠ _; omega)).set_ne ⟨bkp, 1, none⟩ (.int .i64 m0.y) (by show bkp ≠ _; omega))).drew
  have Cp : Box W9 (bkp) [.int .i64 m0.x, .int .i64 m0.y, .int .i64 b.x, .int .i64 b.y, .int .i64 c.x, .int .i64 c.y, .int .i64 d.x, .int .i64 d.y] 31 := by rw [hW]; exact (((Bp.set 0 (.int .i64 m0.x)).set 1 (.int .i64 m0.y))).drew
  replace hw : Below w.heap.size w W9 := by have hl := hw.size; rw [hW]; go_grown
  clear xa ya za va xb yb zb vb xc yc zc vc xd yd zd vd xp yp zp vp
  clear hW Ba Bb Bc Bd Bp
  have Ba := Ca
  have Bb := Cb
  have Bc := Cc
  have Bd := Cd
  have Bp := Cp
  clear Ca Cb Cc Cd Cp
  refine (cm0 _).mono ?_
  rintro e w10 ⟨rfl, hb⟩
  replace Ba := Ba.ext hb rfl
  replace Bb := Bb.ext hb rfl
  replace Bc := Bc.ext hb rfl
  replace Bd := Bd.ext hb rfl
  replace Bp := Bp.ext hb rfl
  replace hw := hw.trans (hb.mono hw.size)
  clear hb
  obtain ⟨xa, ya, za, va⟩ := Ba.facts
  obtain ⟨xb, yb, zb, vb⟩ := Bb.facts
  obtain ⟨xc, yc, zc, vc⟩ := Bc.facts
  obtain ⟨xd, yd, zd, vd⟩ := Bd.facts
  obtain ⟨xp, yp, zp, vp⟩ := Bp.facts
  go_wp2_with fail
  rw [rounds_succ]
  obtain ⟨xa, ya, za, va⟩ := Ba.facts
  obtain ⟨xb, yb, zb, vb⟩ := Bb.facts
  obtain ⟨xc, yc, zc, vc⟩ := Bc.facts
  obtain ⟨xd, yd, zd, vd⟩ := Bd.facts
  obtain ⟨xp, yp, zp, vp⟩ := Bp.facts
  go_wp2_with fail
  refine (cv1 _).mono ?_
  rintro e w11 ⟨rfl, hb⟩
  clear xa ya za va xb yb zb vb xc yc zc vc xd yd zd vd xp yp zp vp
  replace Ba := Ba.ext hb rfl
  replace Bb := Bb.ext hb rfl
  replace Bc := Bc.ext hb rfl
  replace Bd := Bd.ext hb rfl
  replace Bp := Bp.ext hb rfl
  replace hw := hw.trans (hb.mono hw.size)
  clear hb
  obtain ⟨xa, ya, za, va⟩ := Ba.facts
  obtain ⟨xb, yb, zb, vb⟩ := Bb.facts
  obtain ⟨xc, yc, zc, vc⟩ := Bc.facts
  obtain ⟨xd, yd, zd, vd⟩ := Bd.facts
  obtain ⟨xp, yp, zp, vp⟩ := Bp.facts
  go_wp2_with fail
  go_region
  go_wp2_with fail
  refine at_call fun W12 hW => ?_
  have Ca : Box W12 (w.heap.size) [.int .i64 a.x, .int .i64 a.y] 23 := by rw [hW]; exact (((Ba.set_ne ⟨bkp, 2, none⟩ (.int .i64 m1.x) (by show bkp ≠ _; omega)).set_ne ⟨bkp, 3, none⟩ (.int .i64 m1.y) (by show bkp ≠ _; omega))).drew
  have Cb : Box W12 (w.heap.size + 1) [.int .i64 b.x, .int .i64 b.y] 23 := by rw [hW]; exact (((Bb.set_ne ⟨bkp, 2, none⟩ (.int .i64 m1.x) (by show bkp ≠ _; omega)).set_ne ⟨bkp, 3, none⟩ (.int .i64 m1.y) (by show bkp ≠ _; omega))).drew
  have Cc : Box W12 (w.heap.size + 1 + 1) [.int .i64 c.x, .int .i64 c.y] 23 := by rw [hW]; exact (((Bc.set_ne ⟨bkp, 2, none⟩ (.int .i64 m1.x) (by show bkp ≠ _; omega)).set_ne ⟨bkp, 3, none⟩ (.int .i64 m1.y) (by show bkp ≠ _; omega))).drew
  have Cd : Box W12 (w.heap.size + 1 + 1 + 1) [.int .i64 d.x, .int .i64 d.y] 23 := by rw [hW]; exact (((Bd.set_ne ⟨bkp, 2, none⟩ (.int .i64 m1.x) (by show bkp ≠ _; omega)).set_ne ⟨bkp, 3, none⟩ (.int .i64 m1.y) (by show bkp ≠ _; omega))).drew
  have Cp : Box W12 (bkp) [.int .i64 m0.x, .int .i64 m0.y, .int .i64 m1.x, .int .i64 m1.y, .int .i64 c.x, .int .i64 c.y, .int .i64 d.x, .int .i64 d.y] 31 := by rw [hW]; exact (((Bp.set 2 (.int .i64 m1.x)).set 3 (.int .i64 m1.y))).drew
  replace hw : Below w.heap.size w W12 := by have hl := hw.size; rw [hW]; go_grown
  clear xa ya za va xb yb zb vb xc yc zc vc xd yd zd vd xp yp zp vp
  clear hW Ba Bb Bc Bd Bp
  have Ba := Ca
  have Bb := Cb
  have Bc := Cc
  have Bd := Cd
  have Bp := Cp
  clear Ca Cb Cc Cd Cp
  refine (cm1 _).mono ?_
  rintro e w13 ⟨rfl, hb⟩
  replace Ba := Ba.ext hb rfl
  replace Bb := Bb.ext hb rfl
  replace Bc := Bc.ext hb rfl
  replace Bd := Bd.ext hb rfl
  replace Bp := Bp.ext hb rfl
  replace hw := hw.trans (hb.mono hw.size)
  clear hb
  obtain ⟨xa, ya, za, va⟩ := Ba.facts
  obtain ⟨xb, yb, zb, vb⟩ := Bb.facts
  obtain ⟨xc, yc, zc, vc⟩ := Bc.facts
  obtain ⟨xd, yd, zd, vd⟩ := Bd.facts
  obtain ⟨xp, yp, zp, vp⟩ := Bp.facts
  go_wp2_with fail
  refine (awake_any _).mono ?_
  rintro e w14 ⟨rfl, hb⟩
  clear xa ya za va xb yb zb vb xc yc zc vc xd yd zd vd xp yp zp vp
  replace Ba := Ba.ext hb rfl
  replace Bb := Bb.ext hb rfl
  replace Bc := Bc.ext hb rfl
  replace Bd := Bd.ext hb rfl
  replace Bp := Bp.ext hb rfl
  replace hw := hw.trans (hb.mono hw.size)
  clear hb
  go_wp2
  go_ret
  exact ⟨rfl, hw⟩

set_option maxRecDepth 100000 in
set_option maxHeartbeats 4000000 in
theorem turns_m2 (a b c d : Pt) (x y : Int) (h0 : vld a = true) (k0 : vld (mv a x y) = true) (h1 : vld b = true) (k1 : vld (mv b x y) = true) (h2 : vld c = true) (k2 : vld (mv c x y) = false) (t0 : decide (x < -1073741824) = false) (t1 : decide (1073741824 < x) = false) (t2 : decide (y < -1073741824) = false) (t3 : decide (1073741824 < y) = false) (w : World) :
    Calls Try.prog 4 #[.agg #[.int .i64 a.x, .int .i64 a.y], .agg #[.int .i64 b.x, .int .i64 b.y], .agg #[.int .i64 c.x, .int .i64 c.y], .agg #[.int .i64 d.x, .int .i64 d.y], .int .i64 x, .int .i64 y] w fun e w' => e = .returned (.bool true) ∧ Below w.heap.size w w' := by
  have r1 := orient_any a b c
  have r2 := circle_any a b c d
  have r3 := orient_any b c a
  have r4 := orient_any b a c
  have r5 := circle_any b c a d
  have r6 := circle_any b a c d
  rw [ori_cyc] at r3
  rw [ori_swap] at r4
  rw [circ_cyc] at r5
  rw [circ_swap] at r6
  have bo := ori_bd a b c
  have bk := circ_bd a b c d
  have cv0 := rvalid_any a
  rw [h0] at cv0
  have cv1 := rvalid_any b
  rw [h1] at cv1
  have cv2 := rvalid_any c
  rw [h2] at cv2
  have cm0 := rvalid_any (mv a x y)
  rw [k0] at cm0
  obtain ⟨wa0, wb0⟩ := mv_wrap h0 t0 t1 t2 t3
  have cm1 := rvalid_any (mv b x y)
  rw [k1] at cm1
  obtain ⟨wa1, wb1⟩ := mv_wrap h1 t0 t1 t2 t3
  have cm2 := rvalid_any (mv c x y)
  rw [k2] at cm2
  obtain ⟨wa2, wb2⟩ := mv_wrap h2 t0 t1 t2 t3
  generalize ori a b c = O at *
  generalize circ a b c d = K at *
  clear h0 h1 h2 k0 k1 k2
  generalize mv a x y = m0 at *
  generalize mv b x y = m1 at *
  generalize mv c x y = m2 at *
  go_enter Try.func4, Try.ntmps4
  go_wp2_with fail
  refine at_world fun W1 hW => ?_
  have Ba : Box W1 (w.heap.size) [.int .i64 a.x, .int .i64 a.y] 23 := by rw [hW]; exact (((Box.new rfl).old _).old _).old _
  have Bb : Box W1 (w.heap.size + 1) [.int .i64 b.x, .int .i64 b.y] 23 := by rw [hW]; exact ((Box.new (by simp)).old _).old _
  have Bc : Box W1 (w.heap.size + 1 + 1) [.int .i64 c.x, .int .i64 c.y] 23 := by rw [hW]; exact (Box.new (by simp)).old _
  have Bd : Box W1 (w.heap.size + 1 + 1 + 1) [.int .i64 d.x, .int .i64 d.y] 23 := by rw [hW]; exact Box.new (by simp)
  have hw : Below w.heap.size w W1 := by rw [hW]; go_grown
  clear hW
  have ga := Ba.cells
  have gb := Bb.cells
  have gc := Bc.cells
  have gd := Bd.cells
  refine wp_region_tail 9 (by kernel_rfl) (by kernel_rfl) (C := fun w' => ∃ p : Regrown, w' = grow (redrawn W1 p.d) p.os) (fun w' h => regrown_of_below h) ?_
  simp only [List.take_succ_cons, List.take_zero, List.drop_succ_cons, List.drop_zero]
  repeat (first | (refine rWalk_skip (Eq.refl false) ?_; simp only [Act.put, List.setIfInBounds_toArray, List.set_cons_succ, List.set_cons_zero]) | (refine rWalk_step (fun K hK => ?_); go_simp; first | (refine hK _ ?_; clear hK K) | (apply Exists.intro; refine ⟨fun _ => ?_, hK _ ?_⟩; (first | with_reducible exact toExt r1 _ | with_reducible exact toExt r2 _); clear hK K)))
  refine rWalk_nil ?_
  intro w2 hb
  clear ga gb gc gd
  replace Ba := Ba.ext hb rfl
  replace Bb := Bb.ext hb rfl
  replace Bc := Bc.ext hb rfl
  replace Bd := Bd.ext hb rfl
  replace hw := hw.trans (hb.mono hw.size)
  obtain ⟨xa, ya, za, va⟩ := Ba.facts
  obtain ⟨xb, yb, zb, vb⟩ := Bb.facts
  obtain ⟨xc, yc, zc, vc⟩ := Bc.facts
  obtain ⟨xd, yd, zd, vd⟩ := Bd.facts
  go_wp2_with fail
  refine (r3 _).mono ?_
  rintro e w3 ⟨rfl, hb⟩
  clear xa ya za va xb yb zb vb xc yc zc vc xd yd zd vd
  replace Ba := Ba.ext hb rfl
  replace Bb := Bb.ext hb rfl
  replace Bc := Bc.ext hb rfl
  replace Bd := Bd.ext hb rfl
  replace hw := hw.trans (hb.mono hw.size)
  clear hb
  obtain ⟨xa, ya, za, va⟩ := Ba.facts
  obtain ⟨xb, yb, zb, vb⟩ := Bb.facts
  obtain ⟨xc, yc, zc, vc⟩ := Bc.facts
  obtain ⟨xd, yd, zd, vd⟩ := Bd.facts
  go_wp2_with fail
  refine (r4 _).mono ?_
  rintro e w4 ⟨rfl, hb⟩
  clear xa ya za va xb yb zb vb xc yc zc vc xd yd zd vd
  replace Ba := Ba.ext hb rfl
  replace Bb := Bb.ext hb rfl
  replace Bc := Bc.ext hb rfl
  replace Bd := Bd.ext hb rfl
  replace hw := hw.trans (hb.mono hw.size)
  clear hb
  obtain ⟨xa, ya, za, va⟩ := Ba.facts
  obtain ⟨xb, yb, zb, vb⟩ := Bb.facts
  obtain ⟨xc, yc, zc, vc⟩ := Bc.facts
  obtain ⟨xd, yd, zd, vd⟩ := Bd.facts
  go_wp2_with fail
  refine (r5 _).mono ?_
  rintro e w5 ⟨rfl, hb⟩
  clear xa ya za va xb yb zb vb xc yc zc vc xd yd zd vd
  replace Ba := Ba.ext hb rfl
  replace Bb := Bb.ext hb rfl
  replace Bc := Bc.ext hb rfl
  replace Bd := Bd.ext hb rfl
  replace hw := hw.trans (hb.mono hw.size)
  clear hb
  obtain ⟨xa, ya, za, va⟩ := Ba.facts
  obtain ⟨xb, yb, zb, vb⟩ := Bb.facts
  obtain ⟨xc, yc, zc, vc⟩ := Bc.facts
  obtain ⟨xd, yd, zd, vd⟩ := Bd.facts
  go_wp2_with fail
  refine (r6 _).mono ?_
  rintro e w6 ⟨rfl, hb⟩
  clear xa ya za va xb yb zb vb xc yc zc vc xd yd zd vd
  replace Ba := Ba.ext hb rfl
  replace Bb := Bb.ext hb rfl
  replace Bc := Bc.ext hb rfl
  replace Bd := Bd.ext hb rfl
  replace hw := hw.trans (hb.mono hw.size)
  clear hb
  obtain ⟨xa, ya, za, va⟩ := Ba.facts
  obtain ⟨xb, yb, zb, vb⟩ := Bb.facts
  obtain ⟨xc, yc, zc, vc⟩ := Bc.facts
  obtain ⟨xd, yd, zd, vd⟩ := Bd.facts
  go_wp2_with fail
  refine at_world fun W7 hW => ?_
  obtain ⟨bkp, hbp⟩ : ∃ b, w6.heap.size = b := ⟨_, rfl⟩
  rw [hbp]
  have lap := Ba.lt
  rw [hbp] at lap
  have lbp := Bb.lt
  rw [hbp] at lbp
  have lcp := Bc.lt
  rw [hbp] at lcp
  have ldp := Bd.lt
  rw [hbp] at ldp
  have fp := hw.size
  rw [hbp] at fp
  have Bp : Box W7 bkp [.int .i64 a.x, .int .i64 a.y, .int .i64 b.x, .int .i64 b.y, .int .i64 c.x, .int .i64 c.y, .int .i64 d.x, .int .i64 d.y] 31 := by rw [hW]; exact Box.new hbp.symm
  replace Ba : Box W7 (w.heap.size) [.int .i64 a.x, .int .i64 a.y] 23 := by rw [hW]; exact Ba.old _
  replace Bb : Box W7 (w.heap.size + 1) [.int .i64 b.x, .int .i64 b.y] 23 := by rw [hW]; exact Bb.old _
  replace Bc : Box W7 (w.heap.size + 1 + 1) [.int .i64 c.x, .int .i64 c.y] 23 := by rw [hW]; exact Bc.old _
  replace Bd : Box W7 (w.heap.size + 1 + 1 + 1) [.int .i64 d.x, .int .i64 d.y] 23 := by rw [hW]; exact Bd.old _
  replace hw : Below w.heap.size w W7 := by have hl := hw.size; rw [hW]; go_grown
  clear hW hbp
  refine wp_loop_rounds 5 ?_
  rw [rounds_succ]
  obtain ⟨xa, ya, za, va⟩ := Ba.facts
  obtain ⟨xb, yb, zb, vb⟩ := Bb.facts
  obtain ⟨xc, yc, zc, vc⟩ := Bc.facts
  obtain ⟨xd, yd, zd, vd⟩ := Bd.facts
  obtain ⟨xp, yp, zp, vp⟩ := Bp.facts
  go_wp2_with fail
  refine (cv0 _).mono ?_
  rintro e w8 ⟨rfl, hb⟩
  clear xa ya za va xb yb zb vb xc yc zc vc xd yd zd vd xp yp zp vp
  replace Ba := Ba.ext hb rfl
  replace Bb := Bb.ext hb rfl
  replace Bc := Bc.ext hb rfl
  replace Bd := Bd.ext hb rfl
  replace Bp := Bp.ext hb rfl
  replace hw := hw.trans (hb.mono hw.size)
  clear hb
  obtain ⟨xa, ya, za, va⟩ := Ba.facts
  obtain ⟨xb, yb, zb, vb⟩ := Bb.facts
  obtain ⟨xc, yc, zc, vc⟩ := Bc.facts
  obtain ⟨xd, yd, zd, vd⟩ := Bd.facts
  obtain ⟨xp, yp, zp, vp⟩ := Bp.facts
  go_wp2_with fail
  go_region
  go_wp2_with fail
  refine at_call fun W9 hW => ?_
  have Ca : Box W9 (w.heap.size) [.int .i64 a.x, .int .i64 a.y] 23 := by rw [hW]; exact (((Ba.set_ne ⟨bkp, 0, none⟩ (.int .i64 m0.x) (by show bkp ≠ _; omega)).set_ne ⟨bkp, 1, none⟩ (.int .i64 m0.y) (by show bkp ≠ _; omega))).drew
  have Cb : Box W9 (w.heap.size + 1) [.int .i64 b.x, .int .i64 b.y] 23 := by rw [hW]; exact (((Bb.set_ne ⟨bkp, 0, none⟩ (.int .i64 m0.x) (by show bkp ≠ _; omega)).set_ne ⟨bkp, 1, none⟩ (.int .i64 m0.y) (by show bkp ≠ _; omega))).drew
  have Cc : Box W9 (w.heap.size + 1 + 1) [.int .i64 c.x, .int .i64 c.y] 23 := by rw [hW]; exact (((Bc.set_ne ⟨bkp, 0, none⟩ (.int .i64 m0.x) (by show bkp ≠ _; omega)).set_ne ⟨bkp, 1, none⟩ (.int .i64 m0.y) (by show bkp ≠ _; omega))).drew
  have Cd : Box W9 (w.heap.size + 1 + 1 + 1) [.int .i64 d.x, .int .i64 d.y] 23 := by rw [hW]; exact (((Bd.set_ne ⟨bkp, 0, none⟩ (.int .i64 m0.x) (by show bkp ≠ _; omega)).set_ne ⟨bkp, 1, none⟩ (.int .i64 m0.y) (by show bkp ≠ _; omega))).drew
  have Cp : Box W9 (bkp) [.int .i64 m0.x, .int .i64 m0.y, .int .i64 b.x, .int .i64 b.y, .int .i64 c.x, .int .i64 c.y, .int .i64 d.x, .int .i64 d.y] 31 := by rw [hW]; exact (((Bp.set 0 (.int .i64 m0.x)).set 1 (.int .i64 m0.y))).drew
  replace hw : Below w.heap.size w W9 := by have hl := hw.size; rw [hW]; go_grown
  clear xa ya za va xb yb zb vb xc yc zc vc xd yd zd vd xp yp zp vp
  clear hW Ba Bb Bc Bd Bp
  have Ba := Ca
  have Bb := Cb
  have Bc := Cc
  have Bd := Cd
  have Bp := Cp
  clear Ca Cb Cc Cd Cp
  refine (cm0 _).mono ?_
  rintro e w10 ⟨rfl, hb⟩
  replace Ba := Ba.ext hb rfl
  replace Bb := Bb.ext hb rfl
  replace Bc := Bc.ext hb rfl
  replace Bd := Bd.ext hb rfl
  replace Bp := Bp.ext hb rfl
  replace hw := hw.trans (hb.mono hw.size)
  clear hb
  obtain ⟨xa, ya, za, va⟩ := Ba.facts
  obtain ⟨xb, yb, zb, vb⟩ := Bb.facts
  obtain ⟨xc, yc, zc, vc⟩ := Bc.facts
  obtain ⟨xd, yd, zd, vd⟩ := Bd.facts
  obtain ⟨xp, yp, zp, vp⟩ := Bp.facts
  go_wp2_with fail
  rw [rounds_succ]
  obtain ⟨xa, ya, za, va⟩ := Ba.facts
  obtain ⟨xb, yb, zb, vb⟩ := Bb.facts
  obtain ⟨xc, yc, zc, vc⟩ := Bc.facts
  obtain ⟨xd, yd, zd, vd⟩ := Bd.facts
  obtain ⟨xp, yp, zp, vp⟩ := Bp.facts
  go_wp2_with fail
  refine (cv1 _).mono ?_
  rintro e w11 ⟨rfl, hb⟩
  clear xa ya za va xb yb zb vb xc yc zc vc xd yd zd vd xp yp zp vp
  replace Ba := Ba.ext hb rfl
  replace Bb := Bb.ext hb rfl
  replace Bc := Bc.ext hb rfl
  replace Bd := Bd.ext hb rfl
  replace Bp := Bp.ext hb rfl
  replace hw := hw.trans (hb.mono hw.size)
  clear hb
  obtain ⟨xa, ya, za, va⟩ := Ba.facts
  obtain ⟨xb, yb, zb, vb⟩ := Bb.facts
  obtain ⟨xc, yc, zc, vc⟩ := Bc.facts
  obtain ⟨xd, yd, zd, vd⟩ := Bd.facts
  obtain ⟨xp, yp, zp, vp⟩ := Bp.facts
  go_wp2_with fail
  go_region
  go_wp2_with fail
  refine at_call fun W12 hW => ?_
  have Ca : Box W12 (w.heap.size) [.int .i64 a.x, .int .i64 a.y] 23 := by rw [hW]; exact (((Ba.set_ne ⟨bkp, 2, none⟩ (.int .i64 m1.x) (by show bkp ≠ _; omega)).set_ne ⟨bkp, 3, none⟩ (.int .i64 m1.y) (by show bkp ≠ _; omega))).drew
  have Cb : Box W12 (w.heap.size + 1) [.int .i64 b.x, .int .i64 b.y] 23 := by rw [hW]; exact (((Bb.set_ne ⟨bkp, 2, none⟩ (.int .i64 m1.x) (by show bkp ≠ _; omega)).set_ne ⟨bkp, 3, none⟩ (.int .i64 m1.y) (by show bkp ≠ _; omega))).drew
  have Cc : Box W12 (w.heap.size + 1 + 1) [.int .i64 c.x, .int .i64 c.y] 23 := by rw [hW]; exact (((Bc.set_ne ⟨bkp, 2, none⟩ (.int .i64 m1.x) (by show bkp ≠ _; omega)).set_ne ⟨bkp, 3, none⟩ (.int .i64 m1.y) (by show bkp ≠ _; omega))).drew
  have Cd : Box W12 (w.heap.size + 1 + 1 + 1) [.int .i64 d.x, .int .i64 d.y] 23 := by rw [hW]; exact (((Bd.set_ne ⟨bkp, 2, none⟩ (.int .i64 m1.x) (by show bkp ≠ _; omega)).set_ne ⟨bkp, 3, none⟩ (.int .i64 m1.y) (by show bkp ≠ _; omega))).drew
  have Cp : Box W12 (bkp) [.int .i64 m0.x, .int .i64 m0.y, .int .i64 m1.x, .int .i64 m1.y, .int .i64 c.x, .int .i64 c.y, .int .i64 d.x, .int .i64 d.y] 31 := by rw [hW]; exact (((Bp.set 2 (.int .i64 m1.x)).set 3 (.int .i64 m1.y))).drew
  replace hw : Below w.heap.size w W12 := by have hl := hw.size; rw [hW]; go_grown
  clear xa ya za va xb yb zb vb xc yc zc vc xd yd zd vd xp yp zp vp
  clear hW Ba Bb Bc Bd Bp
  have Ba := Ca
  have Bb := Cb
  have Bc := Cc
  have Bd := Cd
  have Bp := Cp
  clear Ca Cb Cc Cd Cp
  refine (cm1 _).mono ?_
  rintro e w13 ⟨rfl, hb⟩
  replace Ba := Ba.ext hb rfl
  replace Bb := Bb.ext hb rfl
  replace Bc := Bc.ext hb rfl
  replace Bd := Bd.ext hb rfl
  replace Bp := Bp.ext hb rfl
  replace hw := hw.trans (hb.mono hw.size)
  clear hb
  obtain ⟨xa, ya, za, va⟩ := Ba.facts
  obtain ⟨xb, yb, zb, vb⟩ := Bb.facts
  obtain ⟨xc, yc, zc, vc⟩ := Bc.facts
  obtain ⟨xd, yd, zd, vd⟩ := Bd.facts
  obtain ⟨xp, yp, zp, vp⟩ := Bp.facts
  go_wp2_with fail
  rw [rounds_succ]
  obtain ⟨xa, ya, za, va⟩ := Ba.facts
  obtain ⟨xb, yb, zb, vb⟩ := Bb.facts
  obtain ⟨xc, yc, zc, vc⟩ := Bc.facts
  obtain ⟨xd, yd, zd, vd⟩ := Bd.facts
  obtain ⟨xp, yp, zp, vp⟩ := Bp.facts
  go_wp2_with fail
  refine (cv2 _).mono ?_
  rintro e w14 ⟨rfl, hb⟩
  clear xa ya za va xb yb zb vb xc yc zc vc xd yd zd vd xp yp zp vp
  replace Ba := Ba.ext hb rfl
  replace Bb := Bb.ext hb rfl
  replace Bc := Bc.ext hb rfl
  replace Bd := Bd.ext hb rfl
  replace Bp := Bp.ext hb rfl
  replace hw := hw.trans (hb.mono hw.size)
  clear hb
  obtain ⟨xa, ya, za, va⟩ := Ba.facts
  obtain ⟨xb, yb, zb, vb⟩ := Bb.facts
  obtain ⟨xc, yc, zc, vc⟩ := Bc.facts
  obtain ⟨xd, yd, zd, vd⟩ := Bd.facts
  obtain ⟨xp, yp, zp, vp⟩ := Bp.facts
  go_wp2_with fail
  go_region
  go_wp2_with fail
  refine at_call fun W15 hW => ?_
  have Ca : Box W15 (w.heap.size) [.int .i64 a.x, .int .i64 a.y] 23 := by rw [hW]; exact (((Ba.set_ne ⟨bkp, 4, none⟩ (.int .i64 m2.x) (by show bkp ≠ _; omega)).set_ne ⟨bkp, 5, none⟩ (.int .i64 m2.y) (by show bkp ≠ _; omega))).drew
  have Cb : Box W15 (w.heap.size + 1) [.int .i64 b.x, .int .i64 b.y] 23 := by rw [hW]; exact (((Bb.set_ne ⟨bkp, 4, none⟩ (.int .i64 m2.x) (by show bkp ≠ _; omega)).set_ne ⟨bkp, 5, none⟩ (.int .i64 m2.y) (by show bkp ≠ _; omega))).drew
  have Cc : Box W15 (w.heap.size + 1 + 1) [.int .i64 c.x, .int .i64 c.y] 23 := by rw [hW]; exact (((Bc.set_ne ⟨bkp, 4, none⟩ (.int .i64 m2.x) (by show bkp ≠ _; omega)).set_ne ⟨bkp, 5, none⟩ (.int .i64 m2.y) (by show bkp ≠ _; omega))).drew
  have Cd : Box W15 (w.heap.size + 1 + 1 + 1) [.int .i64 d.x, .int .i64 d.y] 23 := by rw [hW]; exact (((Bd.set_ne ⟨bkp, 4, none⟩ (.int .i64 m2.x) (by show bkp ≠ _; omega)).set_ne ⟨bkp, 5, none⟩ (.int .i64 m2.y) (by show bkp ≠ _; omega))).drew
  have Cp : Box W15 (bkp) [.int .i64 m0.x, .int .i64 m0.y, .int .i64 m1.x, .int .i64 m1.y, .int .i64 m2.x, .int .i64 m2.y, .int .i64 d.x, .int .i64 d.y] 31 := by rw [hW]; exact (((Bp.set 4 (.int .i64 m2.x)).set 5 (.int .i64 m2.y))).drew
  replace hw : Below w.heap.size w W15 := by have hl := hw.size; rw [hW]; go_grown
  clear xa ya za va xb yb zb vb xc yc zc vc xd yd zd vd xp yp zp vp
  clear hW Ba Bb Bc Bd Bp
  have Ba := Ca
  have Bb := Cb
  have Bc := Cc
  have Bd := Cd
  have Bp := Cp
  clear Ca Cb Cc Cd Cp
  refine (cm2 _).mono ?_
  rintro e w16 ⟨rfl, hb⟩
  replace Ba := Ba.ext hb rfl
  replace Bb := Bb.ext hb rfl
  replace Bc := Bc.ext hb rfl
  replace Bd := Bd.ext hb rfl
  replace Bp := Bp.ext hb rfl
  replace hw := hw.trans (hb.mono hw.size)
  clear hb
  obtain ⟨xa, ya, za, va⟩ := Ba.facts
  obtain ⟨xb, yb, zb, vb⟩ := Bb.facts
  obtain ⟨xc, yc, zc, vc⟩ := Bc.facts
  obtain ⟨xd, yd, zd, vd⟩ := Bd.facts
  obtain ⟨xp, yp, zp, vp⟩ := Bp.facts
  go_wp2_with fail
  refine (awake_any _).mono ?_
  rintro e w17 ⟨rfl, hb⟩
  clear xa ya za va xb yb zb vb xc yc zc vc xd yd zd vd xp yp zp vp
  replace Ba := Ba.ext hb rfl
  replace Bb := Bb.ext hb rfl
  replace Bc := Bc.ext hb rfl
  replace Bd := Bd.ext hb rfl
  replace Bp := Bp.ext hb rfl
  replace hw := hw.trans (hb.mono hw.size)
  clear hb
  go_wp2
  go_ret
  exact ⟨rfl, hw⟩

set_option maxRecDepth 100000 in
set_option maxHeartbeats 4000000 in
theorem turns_m3 (a b c d : Pt) (x y : Int) (h0 : vld a = true) (k0 : vld (mv a x y) = true) (h1 : vld b = true) (k1 : vld (mv b x y) = true) (h2 : vld c = true) (k2 : vld (mv c x y) = true) (h3 : vld d = true) (k3 : vld (mv d x y) = false) (t0 : decide (x < -1073741824) = false) (t1 : decide (1073741824 < x) = false) (t2 : decide (y < -1073741824) = false) (t3 : decide (1073741824 < y) = false) (w : World) :
    Calls Try.prog 4 #[.agg #[.int .i64 a.x, .int .i64 a.y], .agg #[.int .i64 b.x, .int .i64 b.y], .agg #[.int .i64 c.x, .int .i64 c.y], .agg #[.int .i64 d.x, .int .i64 d.y], .int .i64 x, .int .i64 y] w fun e w' => e = .returned (.bool true) ∧ Below w.heap.size w w' := by
  have r1 := orient_any a b c
  have r2 := circle_any a b c d
  have r3 := orient_any b c a
  have r4 := orient_any b a c
  have r5 := circle_any b c a d
  have r6 := circle_any b a c d
  rw [ori_cyc] at r3
  rw [ori_swap] at r4
  rw [circ_cyc] at r5
  rw [circ_swap] at r6
  have bo := ori_bd a b c
  have bk := circ_bd a b c d
  have cv0 := rvalid_any a
  rw [h0] at cv0
  have cv1 := rvalid_any b
  rw [h1] at cv1
  have cv2 := rvalid_any c
  rw [h2] at cv2
  have cv3 := rvalid_any d
  rw [h3] at cv3
  have cm0 := rvalid_any (mv a x y)
  rw [k0] at cm0
  obtain ⟨wa0, wb0⟩ := mv_wrap h0 t0 t1 t2 t3
  have cm1 := rvalid_any (mv b x y)
  rw [k1] at cm1
  obtain ⟨wa1, wb1⟩ := mv_wrap h1 t0 t1 t2 t3
  have cm2 := rvalid_any (mv c x y)
  rw [k2] at cm2
  obtain ⟨wa2, wb2⟩ := mv_wrap h2 t0 t1 t2 t3
  have cm3 := rvalid_any (mv d x y)
  rw [k3] at cm3
  obtain ⟨wa3, wb3⟩ := mv_wrap h3 t0 t1 t2 t3
  generalize ori a b c = O at *
  generalize circ a b c d = K at *
  clear h0 h1 h2 h3 k0 k1 k2 k3
  generalize mv a x y = m0 at *
  generalize mv b x y = m1 at *
  generalize mv c x y = m2 at *
  generalize mv d x y = m3 at *
  go_enter Try.func4, Try.ntmps4
  go_wp2_with fail
  refine at_world fun W1 hW => ?_
  have Ba : Box W1 (w.heap.size) [.int .i64 a.x, .int .i64 a.y] 23 := by rw [hW]; exact (((Box.new rfl).old _).old _).old _
  have Bb : Box W1 (w.heap.size + 1) [.int .i64 b.x, .int .i64 b.y] 23 := by rw [hW]; exact ((Box.new (by simp)).old _).old _
  have Bc : Box W1 (w.heap.size + 1 + 1) [.int .i64 c.x, .int .i64 c.y] 23 := by rw [hW]; exact (Box.new (by simp)).old _
  have Bd : Box W1 (w.heap.size + 1 + 1 + 1) [.int .i64 d.x, .int .i64 d.y] 23 := by rw [hW]; exact Box.new (by simp)
  have hw : Below w.heap.size w W1 := by rw [hW]; go_grown
  clear hW
  have ga := Ba.cells
  have gb := Bb.cells
  have gc := Bc.cells
  have gd := Bd.cells
  refine wp_region_tail 9 (by kernel_rfl) (by kernel_rfl) (C := fun w' => ∃ p : Regrown, w' = grow (redrawn W1 p.d) p.os) (fun w' h => regrown_of_below h) ?_
  simp only [List.take_succ_cons, List.take_zero, List.drop_succ_cons, List.drop_zero]
  repeat (first | (refine rWalk_skip (Eq.refl false) ?_; simp only [Act.put, List.setIfInBounds_toArray, List.set_cons_succ, List.set_cons_zero]) | (refine rWalk_step (fun K hK => ?_); go_simp; first | (refine hK _ ?_; clear hK K) | (apply Exists.intro; refine ⟨fun _ => ?_, hK _ ?_⟩; (first | with_reducible exact toExt r1 _ | with_reducible exact toExt r2 _); clear hK K)))
  refine rWalk_nil ?_
  intro w2 hb
  clear ga gb gc gd
  replace Ba := Ba.ext hb rfl
  replace Bb := Bb.ext hb rfl
  replace Bc := Bc.ext hb rfl
  replace Bd := Bd.ext hb rfl
  replace hw := hw.trans (hb.mono hw.size)
  obtain ⟨xa, ya, za, va⟩ := Ba.facts
  obtain ⟨xb, yb, zb, vb⟩ := Bb.facts
  obtain ⟨xc, yc, zc, vc⟩ := Bc.facts
  obtain ⟨xd, yd, zd, vd⟩ := Bd.facts
  go_wp2_with fail
  refine (r3 _).mono ?_
  rintro e w3 ⟨rfl, hb⟩
  clear xa ya za va xb yb zb vb xc yc zc vc xd yd zd vd
  replace Ba := Ba.ext hb rfl
  replace Bb := Bb.ext hb rfl
  replace Bc := Bc.ext hb rfl
  replace Bd := Bd.ext hb rfl
  replace hw := hw.trans (hb.mono hw.size)
  clear hb
  obtain ⟨xa, ya, za, va⟩ := Ba.facts
  obtain ⟨xb, yb, zb, vb⟩ := Bb.facts
  obtain ⟨xc, yc, zc, vc⟩ := Bc.facts
  obtain ⟨xd, yd, zd, vd⟩ := Bd.facts
  go_wp2_with fail
  refine (r4 _).mono ?_
  rintro e w4 ⟨rfl, hb⟩
  clear xa ya za va xb yb zb vb xc yc zc vc xd yd zd vd
  replace Ba := Ba.ext hb rfl
  replace Bb := Bb.ext hb rfl
  replace Bc := Bc.ext hb rfl
  replace Bd := Bd.ext hb rfl
  replace hw := hw.trans (hb.mono hw.size)
  clear hb
  obtain ⟨xa, ya, za, va⟩ := Ba.facts
  obtain ⟨xb, yb, zb, vb⟩ := Bb.facts
  obtain ⟨xc, yc, zc, vc⟩ := Bc.facts
  obtain ⟨xd, yd, zd, vd⟩ := Bd.facts
  go_wp2_with fail
  refine (r5 _).mono ?_
  rintro e w5 ⟨rfl, hb⟩
  clear xa ya za va xb yb zb vb xc yc zc vc xd yd zd vd
  replace Ba := Ba.ext hb rfl
  replace Bb := Bb.ext hb rfl
  replace Bc := Bc.ext hb rfl
  replace Bd := Bd.ext hb rfl
  replace hw := hw.trans (hb.mono hw.size)
  clear hb
  obtain ⟨xa, ya, za, va⟩ := Ba.facts
  obtain ⟨xb, yb, zb, vb⟩ := Bb.facts
  obtain ⟨xc, yc, zc, vc⟩ := Bc.facts
  obtain ⟨xd, yd, zd, vd⟩ := Bd.facts
  go_wp2_with fail
  refine (r6 _).mono ?_
  rintro e w6 ⟨rfl, hb⟩
  clear xa ya za va xb yb zb vb xc yc zc vc xd yd zd vd
  replace Ba := Ba.ext hb rfl
  replace Bb := Bb.ext hb rfl
  replace Bc := Bc.ext hb rfl
  replace Bd := Bd.ext hb rfl
  replace hw := hw.trans (hb.mono hw.size)
  clear hb
  obtain ⟨xa, ya, za, va⟩ := Ba.facts
  obtain ⟨xb, yb, zb, vb⟩ := Bb.facts
  obtain ⟨xc, yc, zc, vc⟩ := Bc.facts
  obtain ⟨xd, yd, zd, vd⟩ := Bd.facts
  go_wp2_with fail
  refine at_world fun W7 hW => ?_
  obtain ⟨bkp, hbp⟩ : ∃ b, w6.heap.size = b := ⟨_, rfl⟩
  rw [hbp]
  have lap := Ba.lt
  rw [hbp] at lap
  have lbp := Bb.lt
  rw [hbp] at lbp
  have lcp := Bc.lt
  rw [hbp] at lcp
  have ldp := Bd.lt
  rw [hbp] at ldp
  have fp := hw.size
  rw [hbp] at fp
  have Bp : Box W7 bkp [.int .i64 a.x, .int .i64 a.y, .int .i64 b.x, .int .i64 b.y, .int .i64 c.x, .int .i64 c.y, .int .i64 d.x, .int .i64 d.y] 31 := by rw [hW]; exact Box.new hbp.symm
  replace Ba : Box W7 (w.heap.size) [.int .i64 a.x, .int .i64 a.y] 23 := by rw [hW]; exact Ba.old _
  replace Bb : Box W7 (w.heap.size + 1) [.int .i64 b.x, .int .i64 b.y] 23 := by rw [hW]; exact Bb.old _
  replace Bc : Box W7 (w.heap.size + 1 + 1) [.int .i64 c.x, .int .i64 c.y] 23 := by rw [hW]; exact Bc.old _
  replace Bd : Box W7 (w.heap.size + 1 + 1 + 1) [.int .i64 d.x, .int .i64 d.y] 23 := by rw [hW]; exact Bd.old _
  replace hw : Below w.heap.size w W7 := by have hl := hw.size; rw [hW]; go_grown
  clear hW hbp
  refine wp_loop_rounds 5 ?_
  rw [rounds_succ]
  obtain ⟨xa, ya, za, va⟩ := Ba.facts
  obtain ⟨xb, yb, zb, vb⟩ := Bb.facts
  obtain ⟨xc, yc, zc, vc⟩ := Bc.facts
  obtain ⟨xd, yd, zd, vd⟩ := Bd.facts
  obtain ⟨xp, yp, zp, vp⟩ := Bp.facts
  go_wp2_with fail
  refine (cv0 _).mono ?_
  rintro e w8 ⟨rfl, hb⟩
  clear xa ya za va xb yb zb vb xc yc zc vc xd yd zd vd xp yp zp vp
  replace Ba := Ba.ext hb rfl
  replace Bb := Bb.ext hb rfl
  replace Bc := Bc.ext hb rfl
  replace Bd := Bd.ext hb rfl
  replace Bp := Bp.ext hb rfl
  replace hw := hw.trans (hb.mono hw.size)
  clear hb
  obtain ⟨xa, ya, za, va⟩ := Ba.facts
  obtain ⟨xb, yb, zb, vb⟩ := Bb.facts
  obtain ⟨xc, yc, zc, vc⟩ := Bc.facts
  obtain ⟨xd, yd, zd, vd⟩ := Bd.facts
  obtain ⟨xp, yp, zp, vp⟩ := Bp.facts
  go_wp2_with fail
  go_region
  go_wp2_with fail
  refine at_call fun W9 hW => ?_
  have Ca : Box W9 (w.heap.size) [.int .i64 a.x, .int .i64 a.y] 23 := by rw [hW]; exact (((Ba.set_ne ⟨bkp, 0, none⟩ (.int .i64 m0.x) (by show bkp ≠ _; omega)).set_ne ⟨bkp, 1, none⟩ (.int .i64 m0.y) (by show bkp ≠ _; omega))).drew
  have Cb : Box W9 (w.heap.size + 1) [.int .i64 b.x, .int .i64 b.y] 23 := by rw [hW]; exact (((Bb.set_ne ⟨bkp, 0, none⟩ (.int .i64 m0.x) (by show bkp ≠ _; omega)).set_ne ⟨bkp, 1, none⟩ (.int .i64 m0.y) (by show bkp ≠ _; omega))).drew
  have Cc : Box W9 (w.heap.size + 1 + 1) [.int .i64 c.x, .int .i64 c.y] 23 := by rw [hW]; exact (((Bc.set_ne ⟨bkp, 0, none⟩ (.int .i64 m0.x) (by show bkp ≠ _; omega)).set_ne ⟨bkp, 1, none⟩ (.int .i64 m0.y) (by show bkp ≠ _; omega))).drew
  have Cd : Box W9 (w.heap.size + 1 + 1 + 1) [.int .i64 d.x, .int .i64 d.y] 23 := by rw [hW]; exact (((Bd.set_ne ⟨bkp, 0, none⟩ (.int .i64 m0.x) (by show bkp ≠ _; omega)).set_ne ⟨bkp, 1, none⟩ (.int .i64 m0.y) (by show bkp ≠ _; omega))).drew
  have Cp : Box W9 (bkp) [.int .i64 m0.x, .int .i64 m0.y, .int .i64 b.x, .int .i64 b.y, .int .i64 c.x, .int .i64 c.y, .int .i64 d.x, .int .i64 d.y] 31 := by rw [hW]; exact (((Bp.set 0 (.int .i64 m0.x)).set 1 (.int .i64 m0.y))).drew
  replace hw : Below w.heap.size w W9 := by have hl := hw.size; rw [hW]; go_grown
  clear xa ya za va xb yb zb vb xc yc zc vc xd yd zd vd xp yp zp vp
  clear hW Ba Bb Bc Bd Bp
  have Ba := Ca
  have Bb := Cb
  have Bc := Cc
  have Bd := Cd
  have Bp := Cp
  clear Ca Cb Cc Cd Cp
  refine (cm0 _).mono ?_
  rintro e w10 ⟨rfl, hb⟩
  replace Ba := Ba.ext hb rfl
  replace Bb := Bb.ext hb rfl
  replace Bc := Bc.ext hb rfl
  replace Bd := Bd.ext hb rfl
  replace Bp := Bp.ext hb rfl
  replace hw := hw.trans (hb.mono hw.size)
  clear hb
  obtain ⟨xa, ya, za, va⟩ := Ba.facts
  obtain ⟨xb, yb, zb, vb⟩ := Bb.facts
  obtain ⟨xc, yc, zc, vc⟩ := Bc.facts
  obtain ⟨xd, yd, zd, vd⟩ := Bd.facts
  obtain ⟨xp, yp, zp, vp⟩ := Bp.facts
  go_wp2_with fail
  rw [rounds_succ]
  obtain ⟨xa, ya, za, va⟩ := Ba.facts
  obtain ⟨xb, yb, zb, vb⟩ := Bb.facts
  obtain ⟨xc, yc, zc, vc⟩ := Bc.facts
  obtain ⟨xd, yd, zd, vd⟩ := Bd.facts
  obtain ⟨xp, yp, zp, vp⟩ := Bp.facts
  go_wp2_with fail
  refine (cv1 _).mono ?_
  rintro e w11 ⟨rfl, hb⟩
  clear xa ya za va xb yb zb vb xc yc zc vc xd yd zd vd xp yp zp vp
  replace Ba := Ba.ext hb rfl
  replace Bb := Bb.ext hb rfl
  replace Bc := Bc.ext hb rfl
  replace Bd := Bd.ext hb rfl
  replace Bp := Bp.ext hb rfl
  replace hw := hw.trans (hb.mono hw.size)
  clear hb
  obtain ⟨xa, ya, za, va⟩ := Ba.facts
  obtain ⟨xb, yb, zb, vb⟩ := Bb.facts
  obtain ⟨xc, yc, zc, vc⟩ := Bc.facts
  obtain ⟨xd, yd, zd, vd⟩ := Bd.facts
  obtain ⟨xp, yp, zp, vp⟩ := Bp.facts
  go_wp2_with fail
  go_region
  go_wp2_with fail
  refine at_call fun W12 hW => ?_
  have Ca : Box W12 (w.heap.size) [.int .i64 a.x, .int .i64 a.y] 23 := by rw [hW]; exact (((Ba.set_ne ⟨bkp, 2, none⟩ (.int .i64 m1.x) (by show bkp ≠ _; omega)).set_ne ⟨bkp, 3, none⟩ (.int .i64 m1.y) (by show bkp ≠ _; omega))).drew
  have Cb : Box W12 (w.heap.size + 1) [.int .i64 b.x, .int .i64 b.y] 23 := by rw [hW]; exact (((Bb.set_ne ⟨bkp, 2, none⟩ (.int .i64 m1.x) (by show bkp ≠ _; omega)).set_ne ⟨bkp, 3, none⟩ (.int .i64 m1.y) (by show bkp ≠ _; omega))).drew
  have Cc : Box W12 (w.heap.size + 1 + 1) [.int .i64 c.x, .int .i64 c.y] 23 := by rw [hW]; exact (((Bc.set_ne ⟨bkp, 2, none⟩ (.int .i64 m1.x) (by show bkp ≠ _; omega)).set_ne ⟨bkp, 3, none⟩ (.int .i64 m1.y) (by show bkp ≠ _; omega))).drew
  have Cd : Box W12 (w.heap.size + 1 + 1 + 1) [.int .i64 d.x, .int .i64 d.y] 23 := by rw [hW]; exact (((Bd.set_ne ⟨bkp, 2, none⟩ (.int .i64 m1.x) (by show bkp ≠ _; omega)).set_ne ⟨bkp, 3, none⟩ (.int .i64 m1.y) (by show bkp ≠ _; omega))).drew
  have Cp : Box W12 (bkp) [.int .i64 m0.x, .int .i64 m0.y, .int .i64 m1.x, .int .i64 m1.y, .int .i64 c.x, .int .i64 c.y, .int .i64 d.x, .int .i64 d.y] 31 := by rw [hW]; exact (((Bp.set 2 (.int .i64 m1.x)).set 3 (.int .i64 m1.y))).drew
  replace hw : Below w.heap.size w W12 := by have hl := hw.size; rw [hW]; go_grown
  clear xa ya za va xb yb zb vb xc yc zc vc xd yd zd vd xp yp zp vp
  clear hW Ba Bb Bc Bd Bp
  have Ba := Ca
  have Bb := Cb
  have Bc := Cc
  have Bd := Cd
  have Bp := Cp
  clear Ca Cb Cc Cd Cp
  refine (cm1 _).mono ?_
  rintro e w13 ⟨rfl, hb⟩
  replace Ba := Ba.ext hb rfl
  replace Bb := Bb.ext hb rfl
  replace Bc := Bc.ext hb rfl
  replace Bd := Bd.ext hb rfl
  replace Bp := Bp.ext hb rfl
  replace hw := hw.trans (hb.mono hw.size)
  clear hb
  obtain ⟨xa, ya, za, va⟩ := Ba.facts
  obtain ⟨xb, yb, zb, vb⟩ := Bb.facts
  obtain ⟨xc, yc, zc, vc⟩ := Bc.facts
  obtain ⟨xd, yd, zd, vd⟩ := Bd.facts
  obtain ⟨xp, yp, zp, vp⟩ := Bp.facts
  go_wp2_with fail
  rw [rounds_succ]
  obtain ⟨xa, ya, za, va⟩ := Ba.facts
  obtain ⟨xb, yb, zb, vb⟩ := Bb.facts
  obtain ⟨xc, yc, zc, vc⟩ := Bc.facts
  obtain ⟨xd, yd, zd, vd⟩ := Bd.facts
  obtain ⟨xp, yp, zp, vp⟩ := Bp.facts
  go_wp2_with fail
  refine (cv2 _).mono ?_
  rintro e w14 ⟨rfl, hb⟩
  clear xa ya za va xb yb zb vb xc yc zc vc xd yd zd vd xp yp zp vp
  replace Ba := Ba.ext hb rfl
  replace Bb := Bb.ext hb rfl
  replace Bc := Bc.ext hb rfl
  replace Bd := Bd.ext hb rfl
  replace Bp := Bp.ext hb rfl
  replace hw := hw.trans (hb.mono hw.size)
  clear hb
  obtain ⟨xa, ya, za, va⟩ := Ba.facts
  obtain ⟨xb, yb, zb, vb⟩ := Bb.facts
  obtain ⟨xc, yc, zc, vc⟩ := Bc.facts
  obtain ⟨xd, yd, zd, vd⟩ := Bd.facts
  obtain ⟨xp, yp, zp, vp⟩ := Bp.facts
  go_wp2_with fail
  go_region
  go_wp2_with fail
  refine at_call fun W15 hW => ?_
  have Ca : Box W15 (w.heap.size) [.int .i64 a.x, .int .i64 a.y] 23 := by rw [hW]; exact (((Ba.set_ne ⟨bkp, 4, none⟩ (.int .i64 m2.x) (by show bkp ≠ _; omega)).set_ne ⟨bkp, 5, none⟩ (.int .i64 m2.y) (by show bkp ≠ _; omega))).drew
  have Cb : Box W15 (w.heap.size + 1) [.int .i64 b.x, .int .i64 b.y] 23 := by rw [hW]; exact (((Bb.set_ne ⟨bkp, 4, none⟩ (.int .i64 m2.x) (by show bkp ≠ _; omega)).set_ne ⟨bkp, 5, none⟩ (.int .i64 m2.y) (by show bkp ≠ _; omega))).drew
  have Cc : Box W15 (w.heap.size + 1 + 1) [.int .i64 c.x, .int .i64 c.y] 23 := by rw [hW]; exact (((Bc.set_ne ⟨bkp, 4, none⟩ (.int .i64 m2.x) (by show bkp ≠ _; omega)).set_ne ⟨bkp, 5, none⟩ (.int .i64 m2.y) (by show bkp ≠ _; omega))).drew
  have Cd : Box W15 (w.heap.size + 1 + 1 + 1) [.int .i64 d.x, .int .i64 d.y] 23 := by rw [hW]; exact (((Bd.set_ne ⟨bkp, 4, none⟩ (.int .i64 m2.x) (by show bkp ≠ _; omega)).set_ne ⟨bkp, 5, none⟩ (.int .i64 m2.y) (by show bkp ≠ _; omega))).drew
  have Cp : Box W15 (bkp) [.int .i64 m0.x, .int .i64 m0.y, .int .i64 m1.x, .int .i64 m1.y, .int .i64 m2.x, .int .i64 m2.y, .int .i64 d.x, .int .i64 d.y] 31 := by rw [hW]; exact (((Bp.set 4 (.int .i64 m2.x)).set 5 (.int .i64 m2.y))).drew
  replace hw : Below w.heap.size w W15 := by have hl := hw.size; rw [hW]; go_grown
  clear xa ya za va xb yb zb vb xc yc zc vc xd yd zd vd xp yp zp vp
  clear hW Ba Bb Bc Bd Bp
  have Ba := Ca
  have Bb := Cb
  have Bc := Cc
  have Bd := Cd
  have Bp := Cp
  clear Ca Cb Cc Cd Cp
  refine (cm2 _).mono ?_
  rintro e w16 ⟨rfl, hb⟩
  replace Ba := Ba.ext hb rfl
  replace Bb := Bb.ext hb rfl
  replace Bc := Bc.ext hb rfl
  replace Bd := Bd.ext hb rfl
  replace Bp := Bp.ext hb rfl
  replace hw := hw.trans (hb.mono hw.size)
  clear hb
  obtain ⟨xa, ya, za, va⟩ := Ba.facts
  obtain ⟨xb, yb, zb, vb⟩ := Bb.facts
  obtain ⟨xc, yc, zc, vc⟩ := Bc.facts
  obtain ⟨xd, yd, zd, vd⟩ := Bd.facts
  obtain ⟨xp, yp, zp, vp⟩ := Bp.facts
  go_wp2_with fail
  rw [rounds_succ]
  obtain ⟨xa, ya, za, va⟩ := Ba.facts
  obtain ⟨xb, yb, zb, vb⟩ := Bb.facts
  obtain ⟨xc, yc, zc, vc⟩ := Bc.facts
  obtain ⟨xd, yd, zd, vd⟩ := Bd.facts
  obtain ⟨xp, yp, zp, vp⟩ := Bp.facts
  go_wp2_with fail
  refine (cv3 _).mono ?_
  rintro e w17 ⟨rfl, hb⟩
  clear xa ya za va xb yb zb vb xc yc zc vc xd yd zd vd xp yp zp vp
  replace Ba := Ba.ext hb rfl
  replace Bb := Bb.ext hb rfl
  replace Bc := Bc.ext hb rfl
  replace Bd := Bd.ext hb rfl
  replace Bp := Bp.ext hb rfl
  replace hw := hw.trans (hb.mono hw.size)
  clear hb
  obtain ⟨xa, ya, za, va⟩ := Ba.facts
  obtain ⟨xb, yb, zb, vb⟩ := Bb.facts
  obtain ⟨xc, yc, zc, vc⟩ := Bc.facts
  obtain ⟨xd, yd, zd, vd⟩ := Bd.facts
  obtain ⟨xp, yp, zp, vp⟩ := Bp.facts
  go_wp2_with fail
  go_region
  go_wp2_with fail
  refine at_call fun W18 hW => ?_
  have Ca : Box W18 (w.heap.size) [.int .i64 a.x, .int .i64 a.y] 23 := by rw [hW]; exact (((Ba.set_ne ⟨bkp, 6, none⟩ (.int .i64 m3.x) (by show bkp ≠ _; omega)).set_ne ⟨bkp, 7, none⟩ (.int .i64 m3.y) (by show bkp ≠ _; omega))).drew
  have Cb : Box W18 (w.heap.size + 1) [.int .i64 b.x, .int .i64 b.y] 23 := by rw [hW]; exact (((Bb.set_ne ⟨bkp, 6, none⟩ (.int .i64 m3.x) (by show bkp ≠ _; omega)).set_ne ⟨bkp, 7, none⟩ (.int .i64 m3.y) (by show bkp ≠ _; omega))).drew
  have Cc : Box W18 (w.heap.size + 1 + 1) [.int .i64 c.x, .int .i64 c.y] 23 := by rw [hW]; exact (((Bc.set_ne ⟨bkp, 6, none⟩ (.int .i64 m3.x) (by show bkp ≠ _; omega)).set_ne ⟨bkp, 7, none⟩ (.int .i64 m3.y) (by show bkp ≠ _; omega))).drew
  have Cd : Box W18 (w.heap.size + 1 + 1 + 1) [.int .i64 d.x, .int .i64 d.y] 23 := by rw [hW]; exact (((Bd.set_ne ⟨bkp, 6, none⟩ (.int .i64 m3.x) (by show bkp ≠ _; omega)).set_ne ⟨bkp, 7, none⟩ (.int .i64 m3.y) (by show bkp ≠ _; omega))).drew
  have Cp : Box W18 (bkp) [.int .i64 m0.x, .int .i64 m0.y, .int .i64 m1.x, .int .i64 m1.y, .int .i64 m2.x, .int .i64 m2.y, .int .i64 m3.x, .int .i64 m3.y] 31 := by rw [hW]; exact (((Bp.set 6 (.int .i64 m3.x)).set 7 (.int .i64 m3.y))).drew
  replace hw : Below w.heap.size w W18 := by have hl := hw.size; rw [hW]; go_grown
  clear xa ya za va xb yb zb vb xc yc zc vc xd yd zd vd xp yp zp vp
  clear hW Ba Bb Bc Bd Bp
  have Ba := Ca
  have Bb := Cb
  have Bc := Cc
  have Bd := Cd
  have Bp := Cp
  clear Ca Cb Cc Cd Cp
  refine (cm3 _).mono ?_
  rintro e w19 ⟨rfl, hb⟩
  replace Ba := Ba.ext hb rfl
  replace Bb := Bb.ext hb rfl
  replace Bc := Bc.ext hb rfl
  replace Bd := Bd.ext hb rfl
  replace Bp := Bp.ext hb rfl
  replace hw := hw.trans (hb.mono hw.size)
  clear hb
  obtain ⟨xa, ya, za, va⟩ := Ba.facts
  obtain ⟨xb, yb, zb, vb⟩ := Bb.facts
  obtain ⟨xc, yc, zc, vc⟩ := Bc.facts
  obtain ⟨xd, yd, zd, vd⟩ := Bd.facts
  obtain ⟨xp, yp, zp, vp⟩ := Bp.facts
  go_wp2_with fail
  refine (awake_any _).mono ?_
  rintro e w20 ⟨rfl, hb⟩
  clear xa ya za va xb yb zb vb xc yc zc vc xd yd zd vd xp yp zp vp
  replace Ba := Ba.ext hb rfl
  replace Bb := Bb.ext hb rfl
  replace Bc := Bc.ext hb rfl
  replace Bd := Bd.ext hb rfl
  replace Bp := Bp.ext hb rfl
  replace hw := hw.trans (hb.mono hw.size)
  clear hb
  go_wp2
  go_ret
  exact ⟨rfl, hw⟩

set_option maxRecDepth 100000 in
set_option maxHeartbeats 4000000 in
theorem turns_ok (a b c d : Pt) (x y : Int) (h0 : vld a = true) (k0 : vld (mv a x y) = true) (h1 : vld b = true) (k1 : vld (mv b x y) = true) (h2 : vld c = true) (k2 : vld (mv c x y) = true) (h3 : vld d = true) (k3 : vld (mv d x y) = true) (t0 : decide (x < -1073741824) = false) (t1 : decide (1073741824 < x) = false) (t2 : decide (y < -1073741824) = false) (t3 : decide (1073741824 < y) = false) (w : World) :
    Calls Try.prog 4 #[.agg #[.int .i64 a.x, .int .i64 a.y], .agg #[.int .i64 b.x, .int .i64 b.y], .agg #[.int .i64 c.x, .int .i64 c.y], .agg #[.int .i64 d.x, .int .i64 d.y], .int .i64 x, .int .i64 y] w fun e w' => e = .returned (.bool true) ∧ Below w.heap.size w w' := by
  have r1 := orient_any a b c
  have r2 := circle_any a b c d
  have r3 := orient_any b c a
  have r4 := orient_any b a c
  have r5 := circle_any b c a d
  have r6 := circle_any b a c d
  rw [ori_cyc] at r3
  rw [ori_swap] at r4
  rw [circ_cyc] at r5
  rw [circ_swap] at r6
  have bo := ori_bd a b c
  have bk := circ_bd a b c d
  have cv0 := rvalid_any a
  rw [h0] at cv0
  have cv1 := rvalid_any b
  rw [h1] at cv1
  have cv2 := rvalid_any c
  rw [h2] at cv2
  have cv3 := rvalid_any d
  rw [h3] at cv3
  have cm0 := rvalid_any (mv a x y)
  rw [k0] at cm0
  obtain ⟨wa0, wb0⟩ := mv_wrap h0 t0 t1 t2 t3
  have cm1 := rvalid_any (mv b x y)
  rw [k1] at cm1
  obtain ⟨wa1, wb1⟩ := mv_wrap h1 t0 t1 t2 t3
  have cm2 := rvalid_any (mv c x y)
  rw [k2] at cm2
  obtain ⟨wa2, wb2⟩ := mv_wrap h2 t0 t1 t2 t3
  have cm3 := rvalid_any (mv d x y)
  rw [k3] at cm3
  obtain ⟨wa3, wb3⟩ := mv_wrap h3 t0 t1 t2 t3
  have f1 := orient_any (mv a x y) (mv b x y) (mv c x y)
  rw [ori_mv x y h0 h1 h2 k0 k1 k2] at f1
  have f2 := circle_any (mv a x y) (mv b x y) (mv c x y) (mv d x y)
  rw [circ_mv x y h0 h1 h2 h3 k0 k1 k2 k3] at f2
  have f3 := meet_any a b c d
  have f4 := meet_any (mv a x y) (mv b x y) (mv c x y) (mv d x y)
  rw [meet_mv x y h0 h1 h2 h3 k0 k1 k2 k3] at f4
  generalize meetS a b c d = N at *
  generalize ori a b c = O at *
  generalize circ a b c d = K at *
  clear h0 h1 h2 h3 k0 k1 k2 k3
  generalize mv a x y = m0 at *
  generalize mv b x y = m1 at *
  generalize mv c x y = m2 at *
  generalize mv d x y = m3 at *
  go_enter Try.func4, Try.ntmps4
  go_wp2_with fail
  refine at_world fun W1 hW => ?_
  have Ba : Box W1 (w.heap.size) [.int .i64 a.x, .int .i64 a.y] 23 := by rw [hW]; exact (((Box.new rfl).old _).old _).old _
  have Bb : Box W1 (w.heap.size + 1) [.int .i64 b.x, .int .i64 b.y] 23 := by rw [hW]; exact ((Box.new (by simp)).old _).old _
  have Bc : Box W1 (w.heap.size + 1 + 1) [.int .i64 c.x, .int .i64 c.y] 23 := by rw [hW]; exact (Box.new (by simp)).old _
  have Bd : Box W1 (w.heap.size + 1 + 1 + 1) [.int .i64 d.x, .int .i64 d.y] 23 := by rw [hW]; exact Box.new (by simp)
  have hw : Below w.heap.size w W1 := by rw [hW]; go_grown
  clear hW
  have ga := Ba.cells
  have gb := Bb.cells
  have gc := Bc.cells
  have gd := Bd.cells
  refine wp_region_tail 9 (by kernel_rfl) (by kernel_rfl) (C := fun w' => ∃ p : Regrown, w' = grow (redrawn W1 p.d) p.os) (fun w' h => regrown_of_below h) ?_
  simp only [List.take_succ_cons, List.take_zero, List.drop_succ_cons, List.drop_zero]
  repeat (first | (refine rWalk_skip (Eq.refl false) ?_; simp only [Act.put, List.setIfInBounds_toArray, List.set_cons_succ, List.set_cons_zero]) | (refine rWalk_step (fun K hK => ?_); go_simp; first | (refine hK _ ?_; clear hK K) | (apply Exists.intro; refine ⟨fun _ => ?_, hK _ ?_⟩; (first | with_reducible exact toExt r1 _ | with_reducible exact toExt r2 _); clear hK K)))
  refine rWalk_nil ?_
  intro w2 hb
  clear ga gb gc gd
  replace Ba := Ba.ext hb rfl
  replace Bb := Bb.ext hb rfl
  replace Bc := Bc.ext hb rfl
  replace Bd := Bd.ext hb rfl
  replace hw := hw.trans (hb.mono hw.size)
  obtain ⟨xa, ya, za, va⟩ := Ba.facts
  obtain ⟨xb, yb, zb, vb⟩ := Bb.facts
  obtain ⟨xc, yc, zc, vc⟩ := Bc.facts
  obtain ⟨xd, yd, zd, vd⟩ := Bd.facts
  go_wp2_with fail
  refine (r3 _).mono ?_
  rintro e w3 ⟨rfl, hb⟩
  clear xa ya za va xb yb zb vb xc yc zc vc xd yd zd vd
  replace Ba := Ba.ext hb rfl
  replace Bb := Bb.ext hb rfl
  replace Bc := Bc.ext hb rfl
  replace Bd := Bd.ext hb rfl
  replace hw := hw.trans (hb.mono hw.size)
  clear hb
  obtain ⟨xa, ya, za, va⟩ := Ba.facts
  obtain ⟨xb, yb, zb, vb⟩ := Bb.facts
  obtain ⟨xc, yc, zc, vc⟩ := Bc.facts
  obtain ⟨xd, yd, zd, vd⟩ := Bd.facts
  go_wp2_with fail
  refine (r4 _).mono ?_
  rintro e w4 ⟨rfl, hb⟩
  clear xa ya za va xb yb zb vb xc yc zc vc xd yd zd vd
  replace Ba := Ba.ext hb rfl
  replace Bb := Bb.ext hb rfl
  replace Bc := Bc.ext hb rfl
  replace Bd := Bd.ext hb rfl
  replace hw := hw.trans (hb.mono hw.size)
  clear hb
  obtain ⟨xa, ya, za, va⟩ := Ba.facts
  obtain ⟨xb, yb, zb, vb⟩ := Bb.facts
  obtain ⟨xc, yc, zc, vc⟩ := Bc.facts
  obtain ⟨xd, yd, zd, vd⟩ := Bd.facts
  go_wp2_with fail
  refine (r5 _).mono ?_
  rintro e w5 ⟨rfl, hb⟩
  clear xa ya za va xb yb zb vb xc yc zc vc xd yd zd vd
  replace Ba := Ba.ext hb rfl
  replace Bb := Bb.ext hb rfl
  replace Bc := Bc.ext hb rfl
  replace Bd := Bd.ext hb rfl
  replace hw := hw.trans (hb.mono hw.size)
  clear hb
  obtain ⟨xa, ya, za, va⟩ := Ba.facts
  obtain ⟨xb, yb, zb, vb⟩ := Bb.facts
  obtain ⟨xc, yc, zc, vc⟩ := Bc.facts
  obtain ⟨xd, yd, zd, vd⟩ := Bd.facts
  go_wp2_with fail
  refine (r6 _).mono ?_
  rintro e w6 ⟨rfl, hb⟩
  clear xa ya za va xb yb zb vb xc yc zc vc xd yd zd vd
  replace Ba := Ba.ext hb rfl
  replace Bb := Bb.ext hb rfl
  replace Bc := Bc.ext hb rfl
  replace Bd := Bd.ext hb rfl
  replace hw := hw.trans (hb.mono hw.size)
  clear hb
  obtain ⟨xa, ya, za, va⟩ := Ba.facts
  obtain ⟨xb, yb, zb, vb⟩ := Bb.facts
  obtain ⟨xc, yc, zc, vc⟩ := Bc.facts
  obtain ⟨xd, yd, zd, vd⟩ := Bd.facts
  go_wp2_with fail
  refine at_world fun W7 hW => ?_
  obtain ⟨bkp, hbp⟩ : ∃ b, w6.heap.size = b := ⟨_, rfl⟩
  rw [hbp]
  have lap := Ba.lt
  rw [hbp] at lap
  have lbp := Bb.lt
  rw [hbp] at lbp
  have lcp := Bc.lt
  rw [hbp] at lcp
  have ldp := Bd.lt
  rw [hbp] at ldp
  have fp := hw.size
  rw [hbp] at fp
  have Bp : Box W7 bkp [.int .i64 a.x, .int .i64 a.y, .int .i64 b.x, .int .i64 b.y, .int .i64 c.x, .int .i64 c.y, .int .i64 d.x, .int .i64 d.y] 31 := by rw [hW]; exact Box.new hbp.symm
  replace Ba : Box W7 (w.heap.size) [.int .i64 a.x, .int .i64 a.y] 23 := by rw [hW]; exact Ba.old _
  replace Bb : Box W7 (w.heap.size + 1) [.int .i64 b.x, .int .i64 b.y] 23 := by rw [hW]; exact Bb.old _
  replace Bc : Box W7 (w.heap.size + 1 + 1) [.int .i64 c.x, .int .i64 c.y] 23 := by rw [hW]; exact Bc.old _
  replace Bd : Box W7 (w.heap.size + 1 + 1 + 1) [.int .i64 d.x, .int .i64 d.y] 23 := by rw [hW]; exact Bd.old _
  replace hw : Below w.heap.size w W7 := by have hl := hw.size; rw [hW]; go_grown
  clear hW hbp
  refine wp_loop_rounds 5 ?_
  rw [rounds_succ]
  obtain ⟨xa, ya, za, va⟩ := Ba.facts
  obtain ⟨xb, yb, zb, vb⟩ := Bb.facts
  obtain ⟨xc, yc, zc, vc⟩ := Bc.facts
  obtain ⟨xd, yd, zd, vd⟩ := Bd.facts
  obtain ⟨xp, yp, zp, vp⟩ := Bp.facts
  go_wp2_with fail
  refine (cv0 _).mono ?_
  rintro e w8 ⟨rfl, hb⟩
  clear xa ya za va xb yb zb vb xc yc zc vc xd yd zd vd xp yp zp vp
  replace Ba := Ba.ext hb rfl
  replace Bb := Bb.ext hb rfl
  replace Bc := Bc.ext hb rfl
  replace Bd := Bd.ext hb rfl
  replace Bp := Bp.ext hb rfl
  replace hw := hw.trans (hb.mono hw.size)
  clear hb
  obtain ⟨xa, ya, za, va⟩ := Ba.facts
  obtain ⟨xb, yb, zb, vb⟩ := Bb.facts
  obtain ⟨xc, yc, zc, vc⟩ := Bc.facts
  obtain ⟨xd, yd, zd, vd⟩ := Bd.facts
  obtain ⟨xp, yp, zp, vp⟩ := Bp.facts
  go_wp2_with fail
  go_region
  go_wp2_with fail
  refine at_call fun W9 hW => ?_
  have Ca : Box W9 (w.heap.size) [.int .i64 a.x, .int .i64 a.y] 23 := by rw [hW]; exact (((Ba.set_ne ⟨bkp, 0, none⟩ (.int .i64 m0.x) (by show bkp ≠ _; omega)).set_ne ⟨bkp, 1, none⟩ (.int .i64 m0.y) (by show bkp ≠ _; omega))).drew
  have Cb : Box W9 (w.heap.size + 1) [.int .i64 b.x, .int .i64 b.y] 23 := by rw [hW]; exact (((Bb.set_ne ⟨bkp, 0, none⟩ (.int .i64 m0.x) (by show bkp ≠ _; omega)).set_ne ⟨bkp, 1, none⟩ (.int .i64 m0.y) (by show bkp ≠ _; omega))).drew
  have Cc : Box W9 (w.heap.size + 1 + 1) [.int .i64 c.x, .int .i64 c.y] 23 := by rw [hW]; exact (((Bc.set_ne ⟨bkp, 0, none⟩ (.int .i64 m0.x) (by show bkp ≠ _; omega)).set_ne ⟨bkp, 1, none⟩ (.int .i64 m0.y) (by show bkp ≠ _; omega))).drew
  have Cd : Box W9 (w.heap.size + 1 + 1 + 1) [.int .i64 d.x, .int .i64 d.y] 23 := by rw [hW]; exact (((Bd.set_ne ⟨bkp, 0, none⟩ (.int .i64 m0.x) (by show bkp ≠ _; omega)).set_ne ⟨bkp, 1, none⟩ (.int .i64 m0.y) (by show bkp ≠ _; omega))).drew
  have Cp : Box W9 (bkp) [.int .i64 m0.x, .int .i64 m0.y, .int .i64 b.x, .int .i64 b.y, .int .i64 c.x, .int .i64 c.y, .int .i64 d.x, .int .i64 d.y] 31 := by rw [hW]; exact (((Bp.set 0 (.int .i64 m0.x)).set 1 (.int .i64 m0.y))).drew
  replace hw : Below w.heap.size w W9 := by have hl := hw.size; rw [hW]; go_grown
  clear xa ya za va xb yb zb vb xc yc zc vc xd yd zd vd xp yp zp vp
  clear hW Ba Bb Bc Bd Bp
  have Ba := Ca
  have Bb := Cb
  have Bc := Cc
  have Bd := Cd
  have Bp := Cp
  clear Ca Cb Cc Cd Cp
  refine (cm0 _).mono ?_
  rintro e w10 ⟨rfl, hb⟩
  replace Ba := Ba.ext hb rfl
  replace Bb := Bb.ext hb rfl
  replace Bc := Bc.ext hb rfl
  replace Bd := Bd.ext hb rfl
  replace Bp := Bp.ext hb rfl
  replace hw := hw.trans (hb.mono hw.size)
  clear hb
  obtain ⟨xa, ya, za, va⟩ := Ba.facts
  obtain ⟨xb, yb, zb, vb⟩ := Bb.facts
  obtain ⟨xc, yc, zc, vc⟩ := Bc.facts
  obtain ⟨xd, yd, zd, vd⟩ := Bd.facts
  obtain ⟨xp, yp, zp, vp⟩ := Bp.facts
  go_wp2_with fail
  rw [rounds_succ]
  obtain ⟨xa, ya, za, va⟩ := Ba.facts
  obtain ⟨xb, yb, zb, vb⟩ := Bb.facts
  obtain ⟨xc, yc, zc, vc⟩ := Bc.facts
  obtain ⟨xd, yd, zd, vd⟩ := Bd.facts
  obtain ⟨xp, yp, zp, vp⟩ := Bp.facts
  go_wp2_with fail
  refine (cv1 _).mono ?_
  rintro e w11 ⟨rfl, hb⟩
  clear xa ya za va xb yb zb vb xc yc zc vc xd yd zd vd xp yp zp vp
  replace Ba := Ba.ext hb rfl
  replace Bb := Bb.ext hb rfl
  replace Bc := Bc.ext hb rfl
  replace Bd := Bd.ext hb rfl
  replace Bp := Bp.ext hb rfl
  replace hw := hw.trans (hb.mono hw.size)
  clear hb
  obtain ⟨xa, ya, za, va⟩ := Ba.facts
  obtain ⟨xb, yb, zb, vb⟩ := Bb.facts
  obtain ⟨xc, yc, zc, vc⟩ := Bc.facts
  obtain ⟨xd, yd, zd, vd⟩ := Bd.facts
  obtain ⟨xp, yp, zp, vp⟩ := Bp.facts
  go_wp2_with fail
  go_region
  go_wp2_with fail
  refine at_call fun W12 hW => ?_
  have Ca : Box W12 (w.heap.size) [.int .i64 a.x, .int .i64 a.y] 23 := by rw [hW]; exact (((Ba.set_ne ⟨bkp, 2, none⟩ (.int .i64 m1.x) (by show bkp ≠ _; omega)).set_ne ⟨bkp, 3, none⟩ (.int .i64 m1.y) (by show bkp ≠ _; omega))).drew
  have Cb : Box W12 (w.heap.size + 1) [.int .i64 b.x, .int .i64 b.y] 23 := by rw [hW]; exact (((Bb.set_ne ⟨bkp, 2, none⟩ (.int .i64 m1.x) (by show bkp ≠ _; omega)).set_ne ⟨bkp, 3, none⟩ (.int .i64 m1.y) (by show bkp ≠ _; omega))).drew
  have Cc : Box W12 (w.heap.size + 1 + 1) [.int .i64 c.x, .int .i64 c.y] 23 := by rw [hW]; exact (((Bc.set_ne ⟨bkp, 2, none⟩ (.int .i64 m1.x) (by show bkp ≠ _; omega)).set_ne ⟨bkp, 3, none⟩ (.int .i64 m1.y) (by show bkp ≠ _; omega))).drew
  have Cd : Box W12 (w.heap.size + 1 + 1 + 1) [.int .i64 d.x, .int .i64 d.y] 23 := by rw [hW]; exact (((Bd.set_ne ⟨bkp, 2, none⟩ (.int .i64 m1.x) (by show bkp ≠ _; omega)).set_ne ⟨bkp, 3, none⟩ (.int .i64 m1.y) (by show bkp ≠ _; omega))).drew
  have Cp : Box W12 (bkp) [.int .i64 m0.x, .int .i64 m0.y, .int .i64 m1.x, .int .i64 m1.y, .int .i64 c.x, .int .i64 c.y, .int .i64 d.x, .int .i64 d.y] 31 := by rw [hW]; exact (((Bp.set 2 (.int .i64 m1.x)).set 3 (.int .i64 m1.y))).drew
  replace hw : Below w.heap.size w W12 := by have hl := hw.size; rw [hW]; go_grown
  clear xa ya za va xb yb zb vb xc yc zc vc xd yd zd vd xp yp zp vp
  clear hW Ba Bb Bc Bd Bp
  have Ba := Ca
  have Bb := Cb
  have Bc := Cc
  have Bd := Cd
  have Bp := Cp
  clear Ca Cb Cc Cd Cp
  refine (cm1 _).mono ?_
  rintro e w13 ⟨rfl, hb⟩
  replace Ba := Ba.ext hb rfl
  replace Bb := Bb.ext hb rfl
  replace Bc := Bc.ext hb rfl
  replace Bd := Bd.ext hb rfl
  replace Bp := Bp.ext hb rfl
  replace hw := hw.trans (hb.mono hw.size)
  clear hb
  obtain ⟨xa, ya, za, va⟩ := Ba.facts
  obtain ⟨xb, yb, zb, vb⟩ := Bb.facts
  obtain ⟨xc, yc, zc, vc⟩ := Bc.facts
  obtain ⟨xd, yd, zd, vd⟩ := Bd.facts
  obtain ⟨xp, yp, zp, vp⟩ := Bp.facts
  go_wp2_with fail
  rw [rounds_succ]
  obtain ⟨xa, ya, za, va⟩ := Ba.facts
  obtain ⟨xb, yb, zb, vb⟩ := Bb.facts
  obtain ⟨xc, yc, zc, vc⟩ := Bc.facts
  obtain ⟨xd, yd, zd, vd⟩ := Bd.facts
  obtain ⟨xp, yp, zp, vp⟩ := Bp.facts
  go_wp2_with fail
  refine (cv2 _).mono ?_
  rintro e w14 ⟨rfl, hb⟩
  clear xa ya za va xb yb zb vb xc yc zc vc xd yd zd vd xp yp zp vp
  replace Ba := Ba.ext hb rfl
  replace Bb := Bb.ext hb rfl
  replace Bc := Bc.ext hb rfl
  replace Bd := Bd.ext hb rfl
  replace Bp := Bp.ext hb rfl
  replace hw := hw.trans (hb.mono hw.size)
  clear hb
  obtain ⟨xa, ya, za, va⟩ := Ba.facts
  obtain ⟨xb, yb, zb, vb⟩ := Bb.facts
  obtain ⟨xc, yc, zc, vc⟩ := Bc.facts
  obtain ⟨xd, yd, zd, vd⟩ := Bd.facts
  obtain ⟨xp, yp, zp, vp⟩ := Bp.facts
  go_wp2_with fail
  go_region
  go_wp2_with fail
  refine at_call fun W15 hW => ?_
  have Ca : Box W15 (w.heap.size) [.int .i64 a.x, .int .i64 a.y] 23 := by rw [hW]; exact (((Ba.set_ne ⟨bkp, 4, none⟩ (.int .i64 m2.x) (by show bkp ≠ _; omega)).set_ne ⟨bkp, 5, none⟩ (.int .i64 m2.y) (by show bkp ≠ _; omega))).drew
  have Cb : Box W15 (w.heap.size + 1) [.int .i64 b.x, .int .i64 b.y] 23 := by rw [hW]; exact (((Bb.set_ne ⟨bkp, 4, none⟩ (.int .i64 m2.x) (by show bkp ≠ _; omega)).set_ne ⟨bkp, 5, none⟩ (.int .i64 m2.y) (by show bkp ≠ _; omega))).drew
  have Cc : Box W15 (w.heap.size + 1 + 1) [.int .i64 c.x, .int .i64 c.y] 23 := by rw [hW]; exact (((Bc.set_ne ⟨bkp, 4, none⟩ (.int .i64 m2.x) (by show bkp ≠ _; omega)).set_ne ⟨bkp, 5, none⟩ (.int .i64 m2.y) (by show bkp ≠ _; omega))).drew
  have Cd : Box W15 (w.heap.size + 1 + 1 + 1) [.int .i64 d.x, .int .i64 d.y] 23 := by rw [hW]; exact (((Bd.set_ne ⟨bkp, 4, none⟩ (.int .i64 m2.x) (by show bkp ≠ _; omega)).set_ne ⟨bkp, 5, none⟩ (.int .i64 m2.y) (by show bkp ≠ _; omega))).drew
  have Cp : Box W15 (bkp) [.int .i64 m0.x, .int .i64 m0.y, .int .i64 m1.x, .int .i64 m1.y, .int .i64 m2.x, .int .i64 m2.y, .int .i64 d.x, .int .i64 d.y] 31 := by rw [hW]; exact (((Bp.set 4 (.int .i64 m2.x)).set 5 (.int .i64 m2.y))).drew
  replace hw : Below w.heap.size w W15 := by have hl := hw.size; rw [hW]; go_grown
  clear xa ya za va xb yb zb vb xc yc zc vc xd yd zd vd xp yp zp vp
  clear hW Ba Bb Bc Bd Bp
  have Ba := Ca
  have Bb := Cb
  have Bc := Cc
  have Bd := Cd
  have Bp := Cp
  clear Ca Cb Cc Cd Cp
  refine (cm2 _).mono ?_
  rintro e w16 ⟨rfl, hb⟩
  replace Ba := Ba.ext hb rfl
  replace Bb := Bb.ext hb rfl
  replace Bc := Bc.ext hb rfl
  replace Bd := Bd.ext hb rfl
  replace Bp := Bp.ext hb rfl
  replace hw := hw.trans (hb.mono hw.size)
  clear hb
  obtain ⟨xa, ya, za, va⟩ := Ba.facts
  obtain ⟨xb, yb, zb, vb⟩ := Bb.facts
  obtain ⟨xc, yc, zc, vc⟩ := Bc.facts
  obtain ⟨xd, yd, zd, vd⟩ := Bd.facts
  obtain ⟨xp, yp, zp, vp⟩ := Bp.facts
  go_wp2_with fail
  rw [rounds_succ]
  obtain ⟨xa, ya, za, va⟩ := Ba.facts
  obtain ⟨xb, yb, zb, vb⟩ := Bb.facts
  obtain ⟨xc, yc, zc, vc⟩ := Bc.facts
  obtain ⟨xd, yd, zd, vd⟩ := Bd.facts
  obtain ⟨xp, yp, zp, vp⟩ := Bp.facts
  go_wp2_with fail
  refine (cv3 _).mono ?_
  rintro e w17 ⟨rfl, hb⟩
  clear xa ya za va xb yb zb vb xc yc zc vc xd yd zd vd xp yp zp vp
  replace Ba := Ba.ext hb rfl
  replace Bb := Bb.ext hb rfl
  replace Bc := Bc.ext hb rfl
  replace Bd := Bd.ext hb rfl
  replace Bp := Bp.ext hb rfl
  replace hw := hw.trans (hb.mono hw.size)
  clear hb
  obtain ⟨xa, ya, za, va⟩ := Ba.facts
  obtain ⟨xb, yb, zb, vb⟩ := Bb.facts
  obtain ⟨xc, yc, zc, vc⟩ := Bc.facts
  obtain ⟨xd, yd, zd, vd⟩ := Bd.facts
  obtain ⟨xp, yp, zp, vp⟩ := Bp.facts
  go_wp2_with fail
  go_region
  go_wp2_with fail
  refine at_call fun W18 hW => ?_
  have Ca : Box W18 (w.heap.size) [.int .i64 a.x, .int .i64 a.y] 23 := by rw [hW]; exact (((Ba.set_ne ⟨bkp, 6, none⟩ (.int .i64 m3.x) (by show bkp ≠ _; omega)).set_ne ⟨bkp, 7, none⟩ (.int .i64 m3.y) (by show bkp ≠ _; omega))).drew
  have Cb : Box W18 (w.heap.size + 1) [.int .i64 b.x, .int .i64 b.y] 23 := by rw [hW]; exact (((Bb.set_ne ⟨bkp, 6, none⟩ (.int .i64 m3.x) (by show bkp ≠ _; omega)).set_ne ⟨bkp, 7, none⟩ (.int .i64 m3.y) (by show bkp ≠ _; omega))).drew
  have Cc : Box W18 (w.heap.size + 1 + 1) [.int .i64 c.x, .int .i64 c.y] 23 := by rw [hW]; exact (((Bc.set_ne ⟨bkp, 6, none⟩ (.int .i64 m3.x) (by show bkp ≠ _; omega)).set_ne ⟨bkp, 7, none⟩ (.int .i64 m3.y) (by show bkp ≠ _; omega))).drew
  have Cd : Box W18 (w.heap.size + 1 + 1 + 1) [.int .i64 d.x, .int .i64 d.y] 23 := by rw [hW]; exact (((Bd.set_ne ⟨bkp, 6, none⟩ (.int .i64 m3.x) (by show bkp ≠ _; omega)).set_ne ⟨bkp, 7, none⟩ (.int .i64 m3.y) (by show bkp ≠ _; omega))).drew
  have Cp : Box W18 (bkp) [.int .i64 m0.x, .int .i64 m0.y, .int .i64 m1.x, .int .i64 m1.y, .int .i64 m2.x, .int .i64 m2.y, .int .i64 m3.x, .int .i64 m3.y] 31 := by rw [hW]; exact (((Bp.set 6 (.int .i64 m3.x)).set 7 (.int .i64 m3.y))).drew
  replace hw : Below w.heap.size w W18 := by have hl := hw.size; rw [hW]; go_grown
  clear xa ya za va xb yb zb vb xc yc zc vc xd yd zd vd xp yp zp vp
  clear hW Ba Bb Bc Bd Bp
  have Ba := Ca
  have Bb := Cb
  have Bc := Cc
  have Bd := Cd
  have Bp := Cp
  clear Ca Cb Cc Cd Cp
  refine (cm3 _).mono ?_
  rintro e w19 ⟨rfl, hb⟩
  replace Ba := Ba.ext hb rfl
  replace Bb := Bb.ext hb rfl
  replace Bc := Bc.ext hb rfl
  replace Bd := Bd.ext hb rfl
  replace Bp := Bp.ext hb rfl
  replace hw := hw.trans (hb.mono hw.size)
  clear hb
  obtain ⟨xa, ya, za, va⟩ := Ba.facts
  obtain ⟨xb, yb, zb, vb⟩ := Bb.facts
  obtain ⟨xc, yc, zc, vc⟩ := Bc.facts
  obtain ⟨xd, yd, zd, vd⟩ := Bd.facts
  obtain ⟨xp, yp, zp, vp⟩ := Bp.facts
  go_wp2_with fail
  rw [rounds_succ]
  obtain ⟨xa, ya, za, va⟩ := Ba.facts
  obtain ⟨xb, yb, zb, vb⟩ := Bb.facts
  obtain ⟨xc, yc, zc, vc⟩ := Bc.facts
  obtain ⟨xd, yd, zd, vd⟩ := Bd.facts
  obtain ⟨xp, yp, zp, vp⟩ := Bp.facts
  go_wp2_with fail
  refine at_world fun W20 hW => ?_
  replace hw : Below w.heap.size w W20 := by rw [hW]; exact hw
  replace Ba : Box W20 (w.heap.size) [.int .i64 a.x, .int .i64 a.y] 23 := by rw [hW]; exact Ba
  replace Bb : Box W20 (w.heap.size + 1) [.int .i64 b.x, .int .i64 b.y] 23 := by rw [hW]; exact Bb
  replace Bc : Box W20 (w.heap.size + 1 + 1) [.int .i64 c.x, .int .i64 c.y] 23 := by rw [hW]; exact Bc
  replace Bd : Box W20 (w.heap.size + 1 + 1 + 1) [.int .i64 d.x, .int .i64 d.y] 23 := by rw [hW]; exact Bd
  replace Bp : Box W20 (bkp) [.int .i64 m0.x, .int .i64 m0.y, .int .i64 m1.x, .int .i64 m1.y, .int .i64 m2.x, .int .i64 m2.y, .int .i64 m3.x, .int .i64 m3.y] 31 := by rw [hW]; exact Bp
  clear hW
  clear xa ya za va xb yb zb vb xc yc zc vc xd yd zd vd xp yp zp vp
  have ga := Ba.cells
  have gb := Bb.cells
  have gc := Bc.cells
  have gd := Bd.cells
  have gp := Bp.cells
  try simp only [List.append]
  refine wp_region_tail 42 (by kernel_rfl) (by kernel_rfl) (C := fun w' => ∃ p : Regrown, w' = grow (redrawn W20 p.d) p.os) (fun w' h => regrown_of_below h) ?_
  simp only [List.take_succ_cons, List.take_zero, List.drop_succ_cons, List.drop_zero]
  repeat (first | (refine rWalk_skip (Eq.refl false) ?_; simp only [Act.put, List.setIfInBounds_toArray, List.set_cons_succ, List.set_cons_zero]) | (refine rWalk_step (fun K hK => ?_); go_simp; first | (refine hK _ ?_; clear hK K) | (apply Exists.intro; refine ⟨fun _ => ?_, hK _ ?_⟩; (first | with_reducible exact toExt f1 _ | with_reducible exact toExt f2 _ | with_reducible exact toExt f3 _ | with_reducible exact toExt f4 _ | with_reducible exact toExt awake_any _); clear hK K)))
  refine rWalk_nil ?_
  intro w21 hb
  clear ga gb gc gd gp
  replace Ba := Ba.ext hb rfl
  replace Bb := Bb.ext hb rfl
  replace Bc := Bc.ext hb rfl
  replace Bd := Bd.ext hb rfl
  replace Bp := Bp.ext hb rfl
  replace hw := hw.trans (hb.mono hw.size)
  go_wp2
  go_ret
  exact ⟨rfl, hw⟩

theorem turns_law (a b c d : Pt) (x y : Int) (w : World) :
    Calls Try.prog 4 #[.agg #[.int .i64 a.x, .int .i64 a.y], .agg #[.int .i64 b.x, .int .i64 b.y], .agg #[.int .i64 c.x, .int .i64 c.y], .agg #[.int .i64 d.x, .int .i64 d.y], .int .i64 x, .int .i64 y] w fun e w' => e = .returned (.bool true) ∧ Below w.heap.size w w' := by
  cases h0 : vld a with
  | false => exact turns_v0 a b c d x y h0 w
  | true =>
  cases t0 : decide (x < -1073741824) with
  | true => exact turns_r0 a b c d x y h0 t0 w
  | false =>
  cases t1 : decide (1073741824 < x) with
  | true => exact turns_r1 a b c d x y h0 t0 t1 w
  | false =>
  cases t2 : decide (y < -1073741824) with
  | true => exact turns_r2 a b c d x y h0 t0 t1 t2 w
  | false =>
  cases t3 : decide (1073741824 < y) with
  | true => exact turns_r3 a b c d x y h0 t0 t1 t2 t3 w
  | false =>
  cases k0 : vld (mv a x y) with
  | false => exact turns_m0 a b c d x y  h0 k0 t0 t1 t2 t3 w
  | true =>
  cases h1 : vld b with
  | false => exact turns_v1 a b c d x y h0 k0 h1 t0 t1 t2 t3 w
  | true =>
  cases k1 : vld (mv b x y) with
  | false => exact turns_m1 a b c d x y h0 k0 h1 k1 t0 t1 t2 t3 w
  | true =>
  cases h2 : vld c with
  | false => exact turns_v2 a b c d x y h0 k0 h1 k1 h2 t0 t1 t2 t3 w
  | true =>
  cases k2 : vld (mv c x y) with
  | false => exact turns_m2 a b c d x y h0 k0 h1 k1 h2 k2 t0 t1 t2 t3 w
  | true =>
  cases h3 : vld d with
  | false => exact turns_v3 a b c d x y h0 k0 h1 k1 h2 k2 h3 t0 t1 t2 t3 w
  | true =>
  cases k3 : vld (mv d x y) with
  | false => exact turns_m3 a b c d x y h0 k0 h1 k1 h2 k2 h3 k3 t0 t1 t2 t3 w
  | true =>
  exact turns_ok a b c d x y h0 k0 h1 k1 h2 k2 h3 k3 t0 t1 t2 t3 w
set_option maxRecDepth 100000 in
theorem exactTurns_lifted (os : Os) (started : os.Started) (H : Type) (enc : TypeId × Value → H) :
    ReturnsInHanded {} Try.checked os 4 .any (Rows.exactTurnsSpec.pre6 enc Try.prog Try.f4 Rows.exactTurnsRow.domain false) (Rows.exactTurnsSpec.post enc Try.prog Try.f4 false true false false) := by
  refine returnsInHanded_of_change (C := Try.checked) Try.own started (by kernel_rfl) Try.func4
    (ChangeSpec.witness6 (enc := enc) (C := Try.checked) false ⟨#[], #[.agg #[.int .i64 0, .int .i64 0], .agg #[.int .i64 0, .int .i64 0], .agg #[.int .i64 0, .int .i64 0], .agg #[.int .i64 0, .int .i64 0], .int .i64 0, .int .i64 0], []⟩ 8 (by kernel_rfl) (by kernel_rfl) (by kernel_rfl) (by kernel_rfl)) ?_
  intro W base args ds gs before hval0 hW hcnd _
  have hval : ∀ (j : Nat) t v, Try.f4.params[j]? = some t → args[j]? = some v → Value.okWide Try.prog W .any base t v := hval0
  have hW' := hW
  obtain ⟨p, q, hA0, hV, rfl, hfz, hnd⟩ := hW
  have hA : DataW.TrodAll enc Try.prog W 0 (fun _ => true) true Try.f4.params.toList args.toList ds p := hA0
  rw [Try.params4] at hA hval
  obtain ⟨v0, v1, v2, v3, v4, v5, d0, d1, d2, d3, d4, d5, q0, q1, q2, q3, q4, q5, rfl, rfl, rfl, p0, p1, p2, p3, p4, p5⟩ := trodAll_six hA
  obtain ⟨rfl, rfl⟩ := trodVars_none hV
  obtain ⟨c0, e0, y0, z0, m0, rfl, rfl, rfl, hy0, hz0⟩ := Joins.open_agg2 Try.underlying23 (by kernel_rfl) (by kernel_rfl) (hval 0 23 v0 rfl rfl) p0
  obtain ⟨xa, f0, rfl, wxa⟩ := DataW.trod_int Try.underlying3 hy0
  obtain ⟨ya, g0, rfl, wya⟩ := DataW.trod_int Try.underlying3 hz0
  simp at f0 g0
  subst f0 g0
  obtain ⟨c1, e1, y1, z1, m1, rfl, rfl, rfl, hy1, hz1⟩ := Joins.open_agg2 Try.underlying23 (by kernel_rfl) (by kernel_rfl) (hval 1 23 v1 rfl rfl) p1
  obtain ⟨xb, f1, rfl, wxb⟩ := DataW.trod_int Try.underlying3 hy1
  obtain ⟨yb, g1, rfl, wyb⟩ := DataW.trod_int Try.underlying3 hz1
  simp at f1 g1
  subst f1 g1
  obtain ⟨c2, e2, y2, z2, m2, rfl, rfl, rfl, hy2, hz2⟩ := Joins.open_agg2 Try.underlying23 (by kernel_rfl) (by kernel_rfl) (hval 2 23 v2 rfl rfl) p2
  obtain ⟨xc, f2, rfl, wxc⟩ := DataW.trod_int Try.underlying3 hy2
  obtain ⟨yc, g2, rfl, wyc⟩ := DataW.trod_int Try.underlying3 hz2
  simp at f2 g2
  subst f2 g2
  obtain ⟨c3, e3, y3, z3, m3, rfl, rfl, rfl, hy3, hz3⟩ := Joins.open_agg2 Try.underlying23 (by kernel_rfl) (by kernel_rfl) (hval 3 23 v3 rfl rfl) p3
  obtain ⟨xd, f3, rfl, wxd⟩ := DataW.trod_int Try.underlying3 hy3
  obtain ⟨yd, g3, rfl, wyd⟩ := DataW.trod_int Try.underlying3 hz3
  simp at f3 g3
  subst f3 g3
  obtain ⟨x, rfl, rfl, rfl, wx⟩ := open_int Try.underlying3 (hval 4 3 v4 rfl rfl) p4
  obtain ⟨y, rfl, rfl, rfl, wy⟩ := open_int Try.underlying3 (hval 5 3 v5 rfl rfl) p5
  clear hA0 hval0
  simp only [List.append_nil] at hW'
  refine (turns_law ⟨xa, ya⟩ ⟨xb, yb⟩ ⟨xc, yc⟩ ⟨xd, yd⟩ x y W).mono fun e W' ⟨he, hb⟩ => ?_
  subst he
  exact ⟨_, rfl, post_of_below (pa := []) (pv := []) hW' (fun _ _ _ => trodAll_mk1 (shut_bool Try.underlying4 true)) (fun sp _ => trodAll_mk6 (Joins.shut_agg2 (y0 := (.lit (.int .i64 xa), [])) (y1 := (.lit (.int .i64 ya), [])) Try.underlying23 (by kernel_rfl) (by kernel_rfl) ⟨1, by simp [DataW.trod, Try.underlying3, wxa]⟩ ⟨1, by simp [DataW.trod, Try.underlying3, wya]⟩) (Joins.shut_agg2 (y0 := (.lit (.int .i64 xb), [])) (y1 := (.lit (.int .i64 yb), [])) Try.underlying23 (by kernel_rfl) (by kernel_rfl) ⟨1, by simp [DataW.trod, Try.underlying3, wxb]⟩ ⟨1, by simp [DataW.trod, Try.underlying3, wyb]⟩) (Joins.shut_agg2 (y0 := (.lit (.int .i64 xc), [])) (y1 := (.lit (.int .i64 yc), [])) Try.underlying23 (by kernel_rfl) (by kernel_rfl) ⟨1, by simp [DataW.trod, Try.underlying3, wxc]⟩ ⟨1, by simp [DataW.trod, Try.underlying3, wyc]⟩) (Joins.shut_agg2 (y0 := (.lit (.int .i64 xd), [])) (y1 := (.lit (.int .i64 yd), [])) Try.underlying23 (by kernel_rfl) (by kernel_rfl) ⟨1, by simp [DataW.trod, Try.underlying3, wxd]⟩ ⟨1, by simp [DataW.trod, Try.underlying3, wyd]⟩) (shut_int Try.underlying3 wx) (shut_int Try.underlying3 wy)) (fun _ _ => rfl) rfl hb (ok_one (by kernel_rfl) rfl (okWide_bool_mk Try.underlying4 true))⟩
/-- The law ExactTurns holds of every input. -/
theorem exactTurns_holds : Rows.ExactTurnsSaid :=
  OpenClaim.holds_of_wide 4 Try.f4 rfl rfl rfl rfl rfl rfl rfl ⟨rfl, rfl, rfl, rfl, rfl⟩ rfl rfl rfl rfl rfl (by kernel_rfl) Try.func4 (by kernel_rfl)
    (of_decide_eq_true (by kernel_rfl)) (by unfold Func.isWrapper; rw [if_neg (of_decide_eq_false (by kernel_rfl))]; exact ⟨rfl, rfl⟩)
    (fun os started H enc _ => exactTurns_lifted os started H enc)
end Go.Proofs.Ytmdehannbbpnaaa
