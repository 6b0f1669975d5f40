/- Of any points and triangles the triangle, its corners and edges, what is in it, its area, and the order, is as the document says: the law TriTells of package hectarelaw3 answers true at every input; no conditions. -/
import Derived.Test.YtbbmcbkmfehidaaRows
import Derived.Test.YtbbmcbkmfehidaaTrF
import Derived.Test.YtbbmcbkmfehidaaTrP
import Derived.Test.YtbbmcbkmfehidaaTail
import Derived.Test.YtbbmcbkmfehidaaPost
import Derived.WalkKit
import Derived.WalkSpells
import Derived.WalkLawsBesides
import Derived.Deep.QuietTactic
import Derived.BigQuiet
import Derived.Lib.Hide
import Derived.Handy
import Derived.ProofKit
import Derived.Lib.SmallJoins
namespace Go.Proofs.Ytbbmcbkmfehidaa
open Go.RowKit Go.Sort Go.ChangeShapes Go.WideShapes Go.ChangeAt
attribute [local go_sem] rOper rAt rUpon cell_set sg_i64 sg_u64 alloc_cell alloc_frozen
attribute [local go_sem 10000] pt_eql pt_neq tri_eql
attribute [local irreducible] rWalk

section
variable {H : Type} {enc : TypeId × Value → H} {P : Program} {w : World} {base : Nat} {spare : Nat → Bool} {held : Bool}
theorem trodAll_six {t0 t1 t2 t3 t4 t5 : TypeId} {args : Array Value} {ds : List (DataW H)} {ps : List MemPlace} (h : DataW.TrodAll enc P w base spare held [t0, t1, t2, t3, t4, t5] args.toList ds ps) :
    ∃ v0 v1 v2 v3 v4 v5 d0 d1 d2 d3 d4 d5 q0 q1 q2 q3 q4 q5, args = #[v0, v1, v2, v3, v4, v5] ∧ ds = [d0, d1, d2, d3, d4, d5] ∧ ps = q0 ++ (q1 ++ (q2 ++ (q3 ++ (q4 ++ q5)))) ∧ DataW.Trod enc P w base spare held t0 v0 d0 q0 ∧ DataW.Trod enc P w base spare held t1 v1 d1 q1 ∧ DataW.Trod enc P w base spare held t2 v2 d2 q2 ∧ DataW.Trod enc P w base spare held t3 v3 d3 q3 ∧ DataW.Trod enc P w base spare held t4 v4 d4 q4 ∧ DataW.Trod enc P w base spare held t5 v5 d5 q5 := by
  obtain ⟨v0, vs0, d0, ds0, q0, r0, hargs, rfl, rfl, h0, k0⟩ := trodAll_cons h
  obtain ⟨v1, vs1, d1, ds1, q1, r1, rfl, rfl, rfl, h1, k1⟩ := trodAll_cons k0
  obtain ⟨v2, vs2, d2, ds2, q2, r2, rfl, rfl, rfl, h2, k2⟩ := trodAll_cons k1
  obtain ⟨v3, vs3, d3, ds3, q3, r3, rfl, rfl, rfl, h3, k3⟩ := trodAll_cons k2
  obtain ⟨v4, vs4, d4, ds4, q4, r4, rfl, rfl, rfl, h4, k4⟩ := trodAll_cons k3
  obtain ⟨v5, vs5, d5, ds5, q5, r5, rfl, rfl, rfl, h5, k5⟩ := trodAll_cons k4
  obtain ⟨rfl, rfl, rfl⟩ := trodAll_nil k5
  exact ⟨v0, v1, v2, v3, v4, v5, d0, d1, d2, d3, d4, d5, q0, q1, q2, q3, q4, q5, by cases args; simp_all, rfl, by simp, h0, h1, h2, h3, h4, h5⟩
theorem trodAll_mk6 {t0 t1 t2 t3 t4 t5 : TypeId} {v0 v1 v2 v3 v4 v5 : Value} {d0 d1 d2 d3 d4 d5 : DataW H} {q0 q1 q2 q3 q4 q5 : List MemPlace} (h0 : DataW.Trod enc P w base spare held t0 v0 d0 q0) (h1 : DataW.Trod enc P w base spare held t1 v1 d1 q1) (h2 : DataW.Trod enc P w base spare held t2 v2 d2 q2) (h3 : DataW.Trod enc P w base spare held t3 v3 d3 q3) (h4 : DataW.Trod enc P w base spare held t4 v4 d4 q4) (h5 : DataW.Trod enc P w base spare held t5 v5 d5 q5) :
    DataW.TrodAll enc P w base spare held [t0, t1, t2, t3, t4, t5] [v0, v1, v2, v3, v4, v5] [d0, d1, d2, d3, d4, d5] (q0 ++ (q1 ++ (q2 ++ (q3 ++ (q4 ++ q5))))) := ⟨q0, _, h0, ⟨q1, _, h1, trodAll_mk4 h2 h3 h4 h5, rfl⟩, rfl⟩
end
set_option maxRecDepth 100000 in
set_option maxHeartbeats 4000000 in
theorem ttells_law (a b c : Pt) (T : Tri3) (p : Pt) (i : Int) (w : World) :
    Calls Try.prog 3 #[.agg #[.int .i64 a.x, .int .i64 a.y], .agg #[.int .i64 b.x, .int .i64 b.y], .agg #[.int .i64 c.x, .int .i64 c.y], .agg #[.int .i64 T.A.x, .int .i64 T.A.y, .int .i64 T.B.x, .int .i64 T.B.y, .int .i64 T.C.x, .int .i64 T.C.y], .agg #[.int .i64 p.x, .int .i64 p.y], .int .i64 i] w fun e w' => e = .returned (.bool true) ∧ Below w.heap.size w w' := by
  have cm := tmake_any a b c
  have rm := rmake_any a b c
  have ce := edge_any T i
  have cr := round_any i
  have cv := tvalid_any T
  have rv := rvalT_any T
  have cc := cmpT_any (mk a b c) T
  have rc := rcmpT_any (mk a b c) T
  have co := corner_any T i
  have ro := rcorner_any T (plc i)
  have rq := rcorner_any T (plc i + 1)
  rw [crn_plc] at ro
  rw [crn_next] at rq
  have hk := plc_cases i
  have hq : wrap64 (plc i + 1) = plc i + 1 := by rw [w64]; omega
  have hq2 : IntKind.i64.wrap (plc i + 1) = plc i + 1 := by rw [IntKind.wrap_i64]; omega
  have ch := has_any T p
  have rh := rhasP_any T p
  rw [has_eq] at ch
  have ci := ins_any T p
  have ri := rins_any T p
  rw [ins_eq] at ci
  have xh := has_any (mk a b c) p
  have sh := rhasP_any (mk a b c) p
  rw [has_eq] at xh
  have xi := ins_any (mk a b c) p
  have si := rins_any (mk a b c) p
  rw [ins_eq] at xi
  have cw := twi_any T
  have rz := rtwi_any T
  have e1 : teq (mk a b c) (mk a b c) = true := teq_iff.2 rfl
  have e2 : peqI (crn T i).x (crn T i).y (crn T i).x (crn T i).y = true := pp rfl
  have e3 : peqI (crn T (i + 1)).x (crn T (i + 1)).y (crn T (i + 1)).x (crn T (i + 1)).y = true := pp rfl
  generalize hasP (mk a b c) p = h2 at *
  generalize insP (mk a b c) p = j2 at *
  generalize cmpT (mk a b c) T = n at *
  generalize mk a b c = M at *
  generalize (!decide (ori a b c = 0)) = o at *
  generalize valT T = v at *
  generalize crn T i = P at *
  generalize crn T (i + 1) = Q at *
  generalize hasP T p = h1 at *
  generalize insP T p = j1 at *
  generalize twi T = z at *
  generalize plc i = k at *
  clear hk
  go_enter Try.func3, Try.ntmps3
  go_wp2_with fail
  refine at_call fun W1 hW => ?_
  have Ba : Box W1 (w.heap.size) [.int .i64 a.x, .int .i64 a.y] 23 := by rw [hW]; exact ((((Box.new rfl).old _).old _).old _).old _
  have Bb : Box W1 (w.heap.size + 1) [.int .i64 b.x, .int .i64 b.y] 23 := by rw [hW]; exact (((Box.new (by simp)).old _).old _).old _
  have Bc : Box W1 (w.heap.size + 1 + 1) [.int .i64 c.x, .int .i64 c.y] 23 := by rw [hW]; exact ((Box.new (by simp)).old _).old _
  have Bt : Box W1 (w.heap.size + 1 + 1 + 1) [.int .i64 T.A.x, .int .i64 T.A.y, .int .i64 T.B.x, .int .i64 T.B.y, .int .i64 T.C.x, .int .i64 T.C.y] 25 := by rw [hW]; exact (Box.new (by simp)).old _
  have Bp : Box W1 (w.heap.size + 1 + 1 + 1 + 1) [.int .i64 p.x, .int .i64 p.y] 23 := by rw [hW]; exact Box.new (by simp)
  have hw : Below w.heap.size w W1 := by rw [hW]; go_grown
  clear hW
  refine (cm _).mono ?_
  rintro e w2 ⟨rfl, hb⟩
  replace Ba := Ba.ext hb rfl
  replace Bb := Bb.ext hb rfl
  replace Bc := Bc.ext hb rfl
  replace Bt := Bt.ext hb rfl
  replace Bp := Bp.ext hb rfl
  replace hw := hw.trans (hb.mono hw.size)
  clear hb
  obtain ⟨xa, ya, za, va⟩ := Ba.facts
  obtain ⟨xb, yb, zb, vb⟩ := Bb.facts
  obtain ⟨xc, yc, zc, vc⟩ := Bc.facts
  obtain ⟨xt, yt, zt, vt⟩ := Bt.facts
  obtain ⟨xp, yp, zp, vp⟩ := Bp.facts
  go_wp2_with fail
  refine at_call fun W3 hW => ?_
  obtain ⟨bkx, hbx⟩ : ∃ b, w2.heap.size = b := ⟨_, rfl⟩
  rw [hbx]
  have lax := Ba.lt
  rw [hbx] at lax
  have lbx := Bb.lt
  rw [hbx] at lbx
  have lcx := Bc.lt
  rw [hbx] at lcx
  have ltx := Bt.lt
  rw [hbx] at ltx
  have lpx := Bp.lt
  rw [hbx] at lpx
  have fx := hw.size
  rw [hbx] at fx
  have Bx : Box W3 bkx [.int .i64 M.A.x, .int .i64 M.A.y, .int .i64 M.B.x, .int .i64 M.B.y, .int .i64 M.C.x, .int .i64 M.C.y] 25 := by rw [hW]; exact Box.new hbx.symm
  replace Ba : Box W3 (w.heap.size) [.int .i64 a.x, .int .i64 a.y] 23 := by rw [hW]; exact Ba.old _
  replace Bb : Box W3 (w.heap.size + 1) [.int .i64 b.x, .int .i64 b.y] 23 := by rw [hW]; exact Bb.old _
  replace Bc : Box W3 (w.heap.size + 1 + 1) [.int .i64 c.x, .int .i64 c.y] 23 := by rw [hW]; exact Bc.old _
  replace Bt : Box W3 (w.heap.size + 1 + 1 + 1) [.int .i64 T.A.x, .int .i64 T.A.y, .int .i64 T.B.x, .int .i64 T.B.y, .int .i64 T.C.x, .int .i64 T.C.y] 25 := by rw [hW]; exact Bt.old _
  replace Bp : Box W3 (w.heap.size + 1 + 1 + 1 + 1) [.int .i64 p.x, .int .i64 p.y] 23 := by rw [hW]; exact Bp.old _
  replace hw : Below w.heap.size w W3 := by have hl := hw.size; rw [hW]; go_grown
  clear hW hbx
  refine (rm _).mono ?_
  rintro e w4 ⟨rfl, hb⟩
  clear xa ya za va xb yb zb vb xc yc zc vc xt yt zt vt xp yp zp vp
  replace Ba := Ba.ext hb rfl
  replace Bb := Bb.ext hb rfl
  replace Bc := Bc.ext hb rfl
  replace Bt := Bt.ext hb rfl
  replace Bp := Bp.ext hb rfl
  replace Bx := Bx.ext hb rfl
  replace hw := hw.trans (hb.mono hw.size)
  clear hb
  obtain ⟨xa, ya, za, va⟩ := Ba.facts
  obtain ⟨xb, yb, zb, vb⟩ := Bb.facts
  obtain ⟨xc, yc, zc, vc⟩ := Bc.facts
  obtain ⟨xt, yt, zt, vt⟩ := Bt.facts
  obtain ⟨xp, yp, zp, vp⟩ := Bp.facts
  obtain ⟨xx, yx, zx, vx⟩ := Bx.facts
  go_wp2_with fail
  refine at_call fun W5 hW => ?_
  obtain ⟨bky, hby⟩ : ∃ b, w4.heap.size = b := ⟨_, rfl⟩
  rw [hby]
  have lay := Ba.lt
  rw [hby] at lay
  have lby := Bb.lt
  rw [hby] at lby
  have lcy := Bc.lt
  rw [hby] at lcy
  have lty := Bt.lt
  rw [hby] at lty
  have lpy := Bp.lt
  rw [hby] at lpy
  have lxy := Bx.lt
  rw [hby] at lxy
  have fy := hw.size
  rw [hby] at fy
  have By : Box W5 bky [.int .i64 M.A.x, .int .i64 M.A.y, .int .i64 M.B.x, .int .i64 M.B.y, .int .i64 M.C.x, .int .i64 M.C.y] 25 := by rw [hW]; exact Box.new hby.symm
  replace Ba : Box W5 (w.heap.size) [.int .i64 a.x, .int .i64 a.y] 23 := by rw [hW]; exact Ba.old _
  replace Bb : Box W5 (w.heap.size + 1) [.int .i64 b.x, .int .i64 b.y] 23 := by rw [hW]; exact Bb.old _
  replace Bc : Box W5 (w.heap.size + 1 + 1) [.int .i64 c.x, .int .i64 c.y] 23 := by rw [hW]; exact Bc.old _
  replace Bt : Box W5 (w.heap.size + 1 + 1 + 1) [.int .i64 T.A.x, .int .i64 T.A.y, .int .i64 T.B.x, .int .i64 T.B.y, .int .i64 T.C.x, .int .i64 T.C.y] 25 := by rw [hW]; exact Bt.old _
  replace Bp : Box W5 (w.heap.size + 1 + 1 + 1 + 1) [.int .i64 p.x, .int .i64 p.y] 23 := by rw [hW]; exact Bp.old _
  replace Bx : Box W5 (bkx) [.int .i64 M.A.x, .int .i64 M.A.y, .int .i64 M.B.x, .int .i64 M.B.y, .int .i64 M.C.x, .int .i64 M.C.y] 25 := by rw [hW]; exact Bx.old _
  replace hw : Below w.heap.size w W5 := by have hl := hw.size; rw [hW]; go_grown
  clear hW hby
  refine (ce _).mono ?_
  rintro e w6 ⟨rfl, hb⟩
  clear xa ya za va xb yb zb vb xc yc zc vc xt yt zt vt xp yp zp vp xx yx zx vx
  replace Ba := Ba.ext hb rfl
  replace Bb := Bb.ext hb rfl
  replace Bc := Bc.ext hb rfl
  replace Bt := Bt.ext hb rfl
  replace Bp := Bp.ext hb rfl
  replace Bx := Bx.ext hb rfl
  replace By := By.ext hb rfl
  replace hw := hw.trans (hb.mono hw.size)
  clear hb
  obtain ⟨xa, ya, za, va⟩ := Ba.facts
  obtain ⟨xb, yb, zb, vb⟩ := Bb.facts
  obtain ⟨xc, yc, zc, vc⟩ := Bc.facts
  obtain ⟨xt, yt, zt, vt⟩ := Bt.facts
  obtain ⟨xp, yp, zp, vp⟩ := Bp.facts
  obtain ⟨xx, yx, zx, vx⟩ := Bx.facts
  obtain ⟨xy, yy, zy, vy⟩ := By.facts
  go_wp2_with fail
  refine at_call fun W7 hW => ?_
  obtain ⟨bkq, hbq⟩ : ∃ b, w6.heap.size = b := ⟨_, rfl⟩
  rw [hbq]
  have laq := Ba.lt
  rw [hbq] at laq
  have lbq := Bb.lt
  rw [hbq] at lbq
  have lcq := Bc.lt
  rw [hbq] at lcq
  have ltq := Bt.lt
  rw [hbq] at ltq
  have lpq := Bp.lt
  rw [hbq] at lpq
  have lxq := Bx.lt
  rw [hbq] at lxq
  have lyq := By.lt
  rw [hbq] at lyq
  have fq := hw.size
  rw [hbq] at fq
  have Bq : Box W7 (bkq) [.int .i64 P.x, .int .i64 P.y] 23 := by rw [hW, ← hbq]; exact (Box.new rfl).old _
  have Br : Box W7 (bkq + 1) [.int .i64 Q.x, .int .i64 Q.y] 23 := by rw [hW, ← hbq]; exact Box.new (by simp)
  replace Ba : Box W7 (w.heap.size) [.int .i64 a.x, .int .i64 a.y] 23 := by rw [hW]; exact ((Ba).old _).old _
  replace Bb : Box W7 (w.heap.size + 1) [.int .i64 b.x, .int .i64 b.y] 23 := by rw [hW]; exact ((Bb).old _).old _
  replace Bc : Box W7 (w.heap.size + 1 + 1) [.int .i64 c.x, .int .i64 c.y] 23 := by rw [hW]; exact ((Bc).old _).old _
  replace Bt : Box W7 (w.heap.size + 1 + 1 + 1) [.int .i64 T.A.x, .int .i64 T.A.y, .int .i64 T.B.x, .int .i64 T.B.y, .int .i64 T.C.x, .int .i64 T.C.y] 25 := by rw [hW]; exact ((Bt).old _).old _
  replace Bp : Box W7 (w.heap.size + 1 + 1 + 1 + 1) [.int .i64 p.x, .int .i64 p.y] 23 := by rw [hW]; exact ((Bp).old _).old _
  replace Bx : Box W7 (bkx) [.int .i64 M.A.x, .int .i64 M.A.y, .int .i64 M.B.x, .int .i64 M.B.y, .int .i64 M.C.x, .int .i64 M.C.y] 25 := by rw [hW]; exact ((Bx).old _).old _
  replace By : Box W7 (bky) [.int .i64 M.A.x, .int .i64 M.A.y, .int .i64 M.B.x, .int .i64 M.B.y, .int .i64 M.C.x, .int .i64 M.C.y] 25 := by rw [hW]; exact ((By).old _).old _
  replace hw : Below w.heap.size w W7 := by have hl := hw.size; rw [hW]; go_grown
  clear hW hbq
  refine (cr _).mono ?_
  rintro e w8 ⟨rfl, hb⟩
  clear xa ya za va xb yb zb vb xc yc zc vc xt yt zt vt xp yp zp vp xx yx zx vx xy yy zy vy
  replace Ba := Ba.ext hb rfl
  replace Bb := Bb.ext hb rfl
  replace Bc := Bc.ext hb rfl
  replace Bt := Bt.ext hb rfl
  replace Bp := Bp.ext hb rfl
  replace Bx := Bx.ext hb rfl
  replace By := By.ext hb rfl
  replace Bq := Bq.ext hb rfl
  replace Br := Br.ext hb rfl
  replace hw := hw.trans (hb.mono hw.size)
  clear hb
  obtain ⟨xa, ya, za, va⟩ := Ba.facts
  obtain ⟨xb, yb, zb, vb⟩ := Bb.facts
  obtain ⟨xc, yc, zc, vc⟩ := Bc.facts
  obtain ⟨xt, yt, zt, vt⟩ := Bt.facts
  obtain ⟨xp, yp, zp, vp⟩ := Bp.facts
  obtain ⟨xx, yx, zx, vx⟩ := Bx.facts
  obtain ⟨xy, yy, zy, vy⟩ := By.facts
  obtain ⟨xq, yq, zq, vq⟩ := Bq.facts
  obtain ⟨xr, yr, zr, vr⟩ := Br.facts
  go_wp2_with fail
  refine at_world fun W9 hW => ?_
  replace hw : Below w.heap.size w W9 := by rw [hW]; exact hw
  replace Ba : Box W9 (w.heap.size) [.int .i64 a.x, .int .i64 a.y] 23 := by rw [hW]; exact Ba
  replace Bb : Box W9 (w.heap.size + 1) [.int .i64 b.x, .int .i64 b.y] 23 := by rw [hW]; exact Bb
  replace Bc : Box W9 (w.heap.size + 1 + 1) [.int .i64 c.x, .int .i64 c.y] 23 := by rw [hW]; exact Bc
  replace Bt : Box W9 (w.heap.size + 1 + 1 + 1) [.int .i64 T.A.x, .int .i64 T.A.y, .int .i64 T.B.x, .int .i64 T.B.y, .int .i64 T.C.x, .int .i64 T.C.y] 25 := by rw [hW]; exact Bt
  replace Bp : Box W9 (w.heap.size + 1 + 1 + 1 + 1) [.int .i64 p.x, .int .i64 p.y] 23 := by rw [hW]; exact Bp
  replace Bx : Box W9 (bkx) [.int .i64 M.A.x, .int .i64 M.A.y, .int .i64 M.B.x, .int .i64 M.B.y, .int .i64 M.C.x, .int .i64 M.C.y] 25 := by rw [hW]; exact Bx
  replace By : Box W9 (bky) [.int .i64 M.A.x, .int .i64 M.A.y, .int .i64 M.B.x, .int .i64 M.B.y, .int .i64 M.C.x, .int .i64 M.C.y] 25 := by rw [hW]; exact By
  replace Bq : Box W9 (bkq) [.int .i64 P.x, .int .i64 P.y] 23 := by rw [hW]; exact Bq
  replace Br : Box W9 (bkq + 1) [.int .i64 Q.x, .int .i64 Q.y] 23 := by rw [hW]; exact Br
  clear hW
  clear xa ya za va xb yb zb vb xc yc zc vc xt yt zt vt xp yp zp vp xx yx zx vx xy yy zy vy xq yq zq vq xr yr zr vr
  as_aux_lemma =>
    have ga := Ba.cells
    have gb := Bb.cells
    have gc := Bc.cells
    have gt := Bt.cells
    have gp := Bp.cells
    have gx := Bx.cells
    have gy := By.cells
    have gq := Bq.cells
    have gr := Br.cells
    try simp only [List.append]
    refine wp_region_parts 94 ([List.range' 0 16, List.range' 16 16, List.range' 32 16, List.range' 48 16, List.range' 64 16, List.range' 80 14]) (by as_aux_lemma => kernel_rfl) (by decide) (by as_aux_lemma => kernel_rfl) (by decide) (by as_aux_lemma => kernel_rfl) (by as_aux_lemma => kernel_rfl) ⟨(by as_aux_lemma => kernel_rfl), (by as_aux_lemma => kernel_rfl), (by as_aux_lemma => kernel_rfl), (by as_aux_lemma => kernel_rfl), (by as_aux_lemma => kernel_rfl), (by as_aux_lemma => kernel_rfl), (by show Region.seqB _ _ _ _ _ = true; as_aux_lemma => kernel_rfl)⟩ (C := fun w' => ∃ p : Regrown, w' = grow (redrawn W9 p.d) p.os) (fun w' h => regrown_of_below h) ?_
    simp only [List.take_succ_cons, List.take_zero, List.drop_succ_cons, List.drop_zero]
    iterate 20 (first | (refine rWalk_skip (Eq.refl false) ?_; simp only [Act.put, List.setIfInBounds_toArray, List.set_cons_succ, List.set_cons_zero]) | (refine rWalk_step (fun K hK => ?_); go_simp; first | (refine hK _ ?_; clear hK K) | (apply Exists.intro; refine ⟨fun _ => ?_, hK _ ?_⟩; (first | with_reducible exact toExt cv _ | with_reducible exact toExt rv _ | with_reducible exact toExt cc _ | with_reducible exact toExt rc _ | with_reducible exact toExt co _ | with_reducible exact toExt ro _ | with_reducible exact toExt rq _ | with_reducible exact toExt ch _ | with_reducible exact toExt rh _ | with_reducible exact toExt ci _ | with_reducible exact toExt ri _ | with_reducible exact toExt xh _ | with_reducible exact toExt sh _ | with_reducible exact toExt xi _ | with_reducible exact toExt si _ | with_reducible exact toExt cw _ | with_reducible exact toExt rz _ | with_reducible exact toExt awake_any _); clear hK K)))
    as_aux_lemma =>
      iterate 20 (first | (refine rWalk_skip (Eq.refl false) ?_; simp only [Act.put, List.setIfInBounds_toArray, List.set_cons_succ, List.set_cons_zero]) | (refine rWalk_step (fun K hK => ?_); go_simp; first | (refine hK _ ?_; clear hK K) | (apply Exists.intro; refine ⟨fun _ => ?_, hK _ ?_⟩; (first | with_reducible exact toExt cv _ | with_reducible exact toExt rv _ | with_reducible exact toExt cc _ | with_reducible exact toExt rc _ | with_reducible exact toExt co _ | with_reducible exact toExt ro _ | with_reducible exact toExt rq _ | with_reducible exact toExt ch _ | with_reducible exact toExt rh _ | with_reducible exact toExt ci _ | with_reducible exact toExt ri _ | with_reducible exact toExt xh _ | with_reducible exact toExt sh _ | with_reducible exact toExt xi _ | with_reducible exact toExt si _ | with_reducible exact toExt cw _ | with_reducible exact toExt rz _ | with_reducible exact toExt awake_any _); clear hK K)))
      as_aux_lemma =>
        iterate 20 (first | (refine rWalk_skip (Eq.refl false) ?_; simp only [Act.put, List.setIfInBounds_toArray, List.set_cons_succ, List.set_cons_zero]) | (refine rWalk_step (fun K hK => ?_); go_simp; first | (refine hK _ ?_; clear hK K) | (apply Exists.intro; refine ⟨fun _ => ?_, hK _ ?_⟩; (first | with_reducible exact toExt cv _ | with_reducible exact toExt rv _ | with_reducible exact toExt cc _ | with_reducible exact toExt rc _ | with_reducible exact toExt co _ | with_reducible exact toExt ro _ | with_reducible exact toExt rq _ | with_reducible exact toExt ch _ | with_reducible exact toExt rh _ | with_reducible exact toExt ci _ | with_reducible exact toExt ri _ | with_reducible exact toExt xh _ | with_reducible exact toExt sh _ | with_reducible exact toExt xi _ | with_reducible exact toExt si _ | with_reducible exact toExt cw _ | with_reducible exact toExt rz _ | with_reducible exact toExt awake_any _); clear hK K)))
        as_aux_lemma =>
          iterate 20 (first | (refine rWalk_skip (Eq.refl false) ?_; simp only [Act.put, List.setIfInBounds_toArray, List.set_cons_succ, List.set_cons_zero]) | (refine rWalk_step (fun K hK => ?_); go_simp; first | (refine hK _ ?_; clear hK K) | (apply Exists.intro; refine ⟨fun _ => ?_, hK _ ?_⟩; (first | with_reducible exact toExt cv _ | with_reducible exact toExt rv _ | with_reducible exact toExt cc _ | with_reducible exact toExt rc _ | with_reducible exact toExt co _ | with_reducible exact toExt ro _ | with_reducible exact toExt rq _ | with_reducible exact toExt ch _ | with_reducible exact toExt rh _ | with_reducible exact toExt ci _ | with_reducible exact toExt ri _ | with_reducible exact toExt xh _ | with_reducible exact toExt sh _ | with_reducible exact toExt xi _ | with_reducible exact toExt si _ | with_reducible exact toExt cw _ | with_reducible exact toExt rz _ | with_reducible exact toExt awake_any _); clear hK K)))
          as_aux_lemma =>
            repeat (first | (refine rWalk_skip (Eq.refl false) ?_; simp only [Act.put, List.setIfInBounds_toArray, List.set_cons_succ, List.set_cons_zero]) | (refine rWalk_step (fun K hK => ?_); go_simp; first | (refine hK _ ?_; clear hK K) | (apply Exists.intro; refine ⟨fun _ => ?_, hK _ ?_⟩; (first | with_reducible exact toExt cv _ | with_reducible exact toExt rv _ | with_reducible exact toExt cc _ | with_reducible exact toExt rc _ | with_reducible exact toExt co _ | with_reducible exact toExt ro _ | with_reducible exact toExt rq _ | with_reducible exact toExt ch _ | with_reducible exact toExt rh _ | with_reducible exact toExt ci _ | with_reducible exact toExt ri _ | with_reducible exact toExt xh _ | with_reducible exact toExt sh _ | with_reducible exact toExt xi _ | with_reducible exact toExt si _ | with_reducible exact toExt cw _ | with_reducible exact toExt rz _ | with_reducible exact toExt awake_any _); clear hK K)))
            refine rWalk_nil ?_
            intro w9 hb
            clear ga gb gc gt gp gx gy gq gr
            replace Ba := Ba.ext hb rfl
            replace Bb := Bb.ext hb rfl
            replace Bc := Bc.ext hb rfl
            replace Bt := Bt.ext hb rfl
            replace Bp := Bp.ext hb rfl
            replace Bx := Bx.ext hb rfl
            replace By := By.ext hb rfl
            replace Bq := Bq.ext hb rfl
            replace Br := Br.ext hb rfl
            replace hw := hw.trans (hb.mono hw.size)
            go_wp2
            go_ret
            exact ⟨rfl, hw⟩

set_option maxRecDepth 100000 in
theorem triTells_lifted (os : Os) (started : os.Started) (H : Type) (enc : TypeId × Value → H) :
    ReturnsInHanded {} Try.checked os 3 .any (Rows.triTellsSpec.pre6 enc Try.prog Try.f3 Rows.triTellsRow.domain false) (Rows.triTellsSpec.post enc Try.prog Try.f3 false true false false) := by
  refine returnsInHanded_of_change (C := Try.checked) Try.own started (by kernel_rfl) Try.func3
    (ChangeSpec.witness6 (enc := enc) (C := Try.checked) false ⟨#[], #[.agg #[.int .i64 0, .int .i64 0], .agg #[.int .i64 0, .int .i64 0], .agg #[.int .i64 0, .int .i64 0], .agg #[.int .i64 0, .int .i64 0, .int .i64 0, .int .i64 0, .int .i64 0, .int .i64 0], .agg #[.int .i64 0, .int .i64 0], .int .i64 0], []⟩ 8 (by kernel_rfl) (by kernel_rfl) (by kernel_rfl) (by kernel_rfl)) ?_
  intro W base args ds gs before hval0 hW hcnd _
  have hval : ∀ (j : Nat) t v, Try.f3.params[j]? = some t → args[j]? = some v → Value.okWide Try.prog W .any base t v := hval0
  have hW' := hW
  obtain ⟨p, q, hA0, hV, rfl, hfz, hnd⟩ := hW
  have hA : DataW.TrodAll enc Try.prog W 0 (fun _ => true) true Try.f3.params.toList args.toList ds p := hA0
  rw [Try.params3] at hA hval
  obtain ⟨v0, v1, v2, v3, v4, v5, d0, d1, d2, d3, d4, d5, q0, q1, q2, q3, q4, q5, rfl, rfl, rfl, p0, p1, p2, p3, p4, p5⟩ := trodAll_six hA
  obtain ⟨rfl, rfl⟩ := trodVars_none hV
  obtain ⟨c0, e0, y0, z0, m0, rfl, rfl, rfl, hy0, hz0⟩ := Joins.open_agg2 Try.underlying23 (by kernel_rfl) (by kernel_rfl) (hval 0 23 v0 rfl rfl) p0
  obtain ⟨xa, f0, rfl, wxa⟩ := DataW.trod_int Try.underlying3 hy0
  obtain ⟨ya, g0, rfl, wya⟩ := DataW.trod_int Try.underlying3 hz0
  simp at f0 g0
  subst f0 g0
  obtain ⟨c1, e1, y1, z1, m1, rfl, rfl, rfl, hy1, hz1⟩ := Joins.open_agg2 Try.underlying23 (by kernel_rfl) (by kernel_rfl) (hval 1 23 v1 rfl rfl) p1
  obtain ⟨xb, f1, rfl, wxb⟩ := DataW.trod_int Try.underlying3 hy1
  obtain ⟨yb, g1, rfl, wyb⟩ := DataW.trod_int Try.underlying3 hz1
  simp at f1 g1
  subst f1 g1
  obtain ⟨c2, e2, y2, z2, m2, rfl, rfl, rfl, hy2, hz2⟩ := Joins.open_agg2 Try.underlying23 (by kernel_rfl) (by kernel_rfl) (hval 2 23 v2 rfl rfl) p2
  obtain ⟨xc, f2, rfl, wxc⟩ := DataW.trod_int Try.underlying3 hy2
  obtain ⟨yc, g2, rfl, wyc⟩ := DataW.trod_int Try.underlying3 hz2
  simp at f2 g2
  subst f2 g2
  obtain ⟨T, rfl, rfl, rfl, kT⟩ := open_tri (hval 3 25 v3 rfl rfl) p3
  obtain ⟨c4, e4, y4, z4, m4, rfl, rfl, rfl, hy4, hz4⟩ := Joins.open_agg2 Try.underlying23 (by kernel_rfl) (by kernel_rfl) (hval 4 23 v4 rfl rfl) p4
  obtain ⟨xp, f4, rfl, wxp⟩ := DataW.trod_int Try.underlying3 hy4
  obtain ⟨yp, g4, rfl, wyp⟩ := DataW.trod_int Try.underlying3 hz4
  simp at f4 g4
  subst f4 g4
  obtain ⟨i, rfl, rfl, rfl, wi⟩ := open_int Try.underlying3 (hval 5 3 v5 rfl rfl) p5
  clear hA0 hval0
  simp only [List.append_nil] at hW'
  refine (ttells_law ⟨xa, ya⟩ ⟨xb, yb⟩ ⟨xc, yc⟩ T ⟨xp, yp⟩ i W).mono fun e W' ⟨he, hb⟩ => ?_
  subst he
  exact ⟨_, rfl, post_of_below (pa := []) (pv := []) hW' (fun _ _ _ => trodAll_mk1 (shut_bool Try.underlying4 true)) (fun sp _ => trodAll_mk6 (Joins.shut_agg2 (y0 := (.lit (.int .i64 xa), [])) (y1 := (.lit (.int .i64 ya), [])) Try.underlying23 (by kernel_rfl) (by kernel_rfl) ⟨1, by simp [DataW.trod, Try.underlying3, wxa]⟩ ⟨1, by simp [DataW.trod, Try.underlying3, wya]⟩) (Joins.shut_agg2 (y0 := (.lit (.int .i64 xb), [])) (y1 := (.lit (.int .i64 yb), [])) Try.underlying23 (by kernel_rfl) (by kernel_rfl) ⟨1, by simp [DataW.trod, Try.underlying3, wxb]⟩ ⟨1, by simp [DataW.trod, Try.underlying3, wyb]⟩) (Joins.shut_agg2 (y0 := (.lit (.int .i64 xc), [])) (y1 := (.lit (.int .i64 yc), [])) Try.underlying23 (by kernel_rfl) (by kernel_rfl) ⟨1, by simp [DataW.trod, Try.underlying3, wxc]⟩ ⟨1, by simp [DataW.trod, Try.underlying3, wyc]⟩) (shut_tri kT) (Joins.shut_agg2 (y0 := (.lit (.int .i64 xp), [])) (y1 := (.lit (.int .i64 yp), [])) Try.underlying23 (by kernel_rfl) (by kernel_rfl) ⟨1, by simp [DataW.trod, Try.underlying3, wxp]⟩ ⟨1, by simp [DataW.trod, Try.underlying3, wyp]⟩) (shut_int Try.underlying3 wi)) (fun _ _ => rfl) rfl hb (ok_one (by kernel_rfl) rfl (okWide_bool_mk Try.underlying4 true))⟩
/-- The law TriTells holds of every input. -/
theorem triTells_holds : Rows.TriTellsSaid :=
  OpenClaim.holds_of_wide 3 Try.f3 rfl rfl rfl rfl rfl rfl rfl ⟨rfl, rfl, rfl, rfl, rfl⟩ rfl rfl rfl rfl rfl (by kernel_rfl) Try.func3 (by kernel_rfl)
    (of_decide_eq_true (by kernel_rfl)) (by unfold Func.isWrapper; rw [if_neg (of_decide_eq_false (by kernel_rfl))]; exact ⟨rfl, rfl⟩)
    (fun os started H enc _ => triTells_lifted os started H enc)
end Go.Proofs.Ytbbmcbkmfehidaa
