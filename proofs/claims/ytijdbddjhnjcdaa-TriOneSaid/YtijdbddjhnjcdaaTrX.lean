/- Three points are one triangle, in whatever order they are named; its corners are they; each edge's other way is on its outside: the law TriOne of package hectarelaw3 answers true at every input; no conditions. -/
import Derived.Test.YtijdbddjhnjcdaaRows
import Derived.Test.YtijdbddjhnjcdaaTrF
import Derived.Test.YtijdbddjhnjcdaaTrV
import Derived.Test.YtijdbddjhnjcdaaBuild
import Derived.Deep.Cut
import Derived.Test.YtijdbddjhnjcdaaTrL
import Derived.Test.YtijdbddjhnjcdaaPost
import Derived.WalkKit
import Derived.WalkSpells
import Derived.WalkLawsBesides
import Derived.Deep.QuietTactic
import Derived.BigQuiet
import Derived.Lib.Hide
import Derived.Handy
import Derived.LoopN
import Derived.Deep.RegionHeld3
import Derived.Test.YtijdbddjhnjcdaaFloat
import Derived.ProofKit
import Derived.Lib.SmallJoins
set_option linter.all false
namespace Go.Proofs.Ytijdbddjhnjcdaa
open Go.RowKit Go.Sort Go.ChangeShapes Go.WideShapes Go.ChangeAt
attribute [local go_sem] rOper rAt rUpon cell_set sg_i64 sg_u64 alloc_cell alloc_frozen
attribute [local go_sem 10000] pt_eql pt_neq tri_eql tri_neq
attribute [local irreducible] rWalk

set_option maxRecDepth 100000 in
set_option maxHeartbeats 16000000 in
theorem tone_1 (a b c : Pt) (h0 : ¬ ori a b c = 0) (w : World) :
    Calls Try.prog 3 #[.agg #[.int .i64 a.x, .int .i64 a.y], .agg #[.int .i64 b.x, .int .i64 b.y], .agg #[.int .i64 c.x, .int .i64 c.y]] w fun e w' => e = .returned (.bool true) ∧ Below w.heap.size w w' := by
  have cm := tmake_any a b c
  have m0 := tmake_any a c b
  rw [mk_swap a b c, ori_p0 a b c] at m0
  have m1 := tmake_any b a c
  rw [mk_p1 a b c, ori_p1 a b c] at m1
  have m2 := tmake_any b c a
  rw [mk_cyc a b c, show decide (ori b c a = 0) = decide (ori a b c = 0) by rw [ori_cyc]] at m2
  have m3 := tmake_any c a b
  rw [mk_p2 a b c, ori_p2 a b c] at m3
  have m4 := tmake_any c b a
  rw [mk_p3 a b c, ori_p3 a b c] at m4
  have wq0 : IntKind.i64.wrap 0 = 0 := by decide
  have wq2 : IntKind.i64.wrap 2 = 2 := by decide
  have wq3 : IntKind.i64.wrap 3 = 3 := by decide
  have wq4 : IntKind.i64.wrap 4 = 4 := by decide
  have ho : (!decide (ori a b c = 0)) = true := by simp [h0]
  rw [ho] at cm
  rw [ho] at m0
  rw [ho] at m1
  rw [ho] at m2
  rw [ho] at m3
  rw [ho] at m4
  obtain ⟨va, vb, vc, n1, n2, n3⟩ := mk_keys h0
  obtain ⟨hsr, hA, j1, j2, j3⟩ := srt3_mk h0
  have hM := (mk_ok h0).1
  obtain ⟨uA, uB, uC⟩ := valT_vld hM
  have cs1 := sort3_any a b c va vb vc n1 n2 n3
  have cs2 := sort3_any (mk a b c).A (mk a b c).B (mk a b c).C uA uB uC j1 j2 j3
  rw [hsr] at cs2
  have eA : peqI (mk a b c).A.x (mk a b c).A.y (srt3 a b c).A.x (srt3 a b c).A.y = true := by rw [hA]; exact pp rfl
  have eM : teq (mk a b c) (mk a b c) = true := teq_iff.2 rfl
  generalize mk a b c = M at *
  generalize srt3 a b c = S at *
  obtain ⟨o1, o2, o3, i1, i2, i3, f1, f2, f3, z0⟩ := corner_facts hM
  have cv := tvalid_any M
  rw [hM] at cv
  have cw := twi_any M
  have z1 : decide (twi M > 0) = true := z0
  have e0 := edge_any M 0
  rw [show crn M 0 = M.A from rfl, show crn M (0 + 1) = M.B from rfl] at e0
  have e1 := edge_any M 1
  rw [show crn M 1 = M.B from rfl, show crn M (1 + 1) = M.C from rfl] at e1
  have e2 := edge_any M 2
  rw [show crn M 2 = M.C from rfl, show crn M (2 + 1) = M.A from rfl] at e2
  have x0 := corner_any M 2
  rw [show crn M 2 = M.C from rfl] at x0
  have x1 := corner_any M 3
  rw [show crn M 3 = M.A from rfl] at x1
  have x2 := corner_any M 4
  rw [show crn M 4 = M.B from rfl] at x2
  have r0 := rorient_any M.A M.B M.C
  rw [o1] at r0
  have r1 := rorient_any M.B M.C M.A
  rw [o2] at r1
  have r2 := rorient_any M.C M.A M.B
  rw [o3] at r2
  have s0 := has_any M M.A
  rw [has_eq, i1] at s0
  have s1 := has_any M M.B
  rw [has_eq, i2] at s1
  have s2 := has_any M M.C
  rw [has_eq, i3] at s2
  have t0 := ins_any M M.A
  rw [ins_eq, f1] at t0
  have t1 := ins_any M M.B
  rw [ins_eq, f2] at t1
  have t2 := ins_any M M.C
  rw [ins_eq, f3] at t2
  generalize twi M = z at *
  clear o1 o2 o3 i1 i2 i3 f1 f2 f3 hM uA uB uC j1 j2 j3 hsr hA va vb vc n1 n2 n3 ho h0
  go_enter Try.func3, Try.ntmps3
  go_wp2_with fail
  refine at_call fun W1 hW => ?_
  have Ba : Box W1 (w.heap.size) [.int .i64 a.x, .int .i64 a.y] 23 := by rw [hW]; exact ((Box.new rfl).old _).old _
  have Bb : Box W1 (w.heap.size + 1) [.int .i64 b.x, .int .i64 b.y] 23 := by rw [hW]; exact (Box.new (by simp)).old _
  have Bc : Box W1 (w.heap.size + 1 + 1) [.int .i64 c.x, .int .i64 c.y] 23 := by rw [hW]; exact Box.new (by simp)
  have hw : Below w.heap.size w W1 := by rw [hW]; go_grown
  clear hW
  refine (cm _).mono ?_
  rintro e w2 ⟨rfl, hb⟩
  replace Ba := Ba.ext hb rfl
  replace Bb := Bb.ext hb rfl
  replace Bc := Bc.ext hb rfl
  replace hw := hw.trans (hb.mono hw.size)
  clear hb
  obtain ⟨xa, ya, za, va⟩ := Ba.facts
  obtain ⟨xb, yb, zb, vb⟩ := Bb.facts
  obtain ⟨xc, yc, zc, vc⟩ := Bc.facts
  go_upto_region 2 with (fail)
  go_step
  iterate 9 go_step
  refine bl3 _ _ _ rfl rfl _ _ _ _ _ _ rfl rfl rfl ?_
  simp only [Act.put, List.setIfInBounds_toArray, List.set_cons_succ, List.set_cons_zero]
  iterate 9 go_step
  refine bl3 _ _ _ rfl rfl _ _ _ _ _ _ rfl rfl rfl ?_
  simp only [Act.put, List.setIfInBounds_toArray, List.set_cons_succ, List.set_cons_zero]
  iterate 9 go_step
  refine bl3 _ _ _ rfl rfl _ _ _ _ _ _ rfl rfl rfl ?_
  simp only [Act.put, List.setIfInBounds_toArray, List.set_cons_succ, List.set_cons_zero]
  iterate 9 go_step
  refine bl3 _ _ _ rfl rfl _ _ _ _ _ _ rfl rfl rfl ?_
  simp only [Act.put, List.setIfInBounds_toArray, List.set_cons_succ, List.set_cons_zero]
  iterate 9 go_step
  refine bl3 _ _ _ rfl rfl _ _ _ _ _ _ rfl rfl rfl ?_
  simp only [Act.put, List.setIfInBounds_toArray, List.set_cons_succ, List.set_cons_zero]
  refine bl5 _ _ _ _ _ rfl rfl _ _ _ _ _ _ _ _ _ _ _ _ _ _ _ _ _ _ _ _ _ _ _ _ _ _ _ _ _ _ rfl rfl rfl rfl rfl ?_
  simp only [Act.put, List.setIfInBounds_toArray, List.set_cons_succ, List.set_cons_zero]
  iterate 3 go_step
  refine st30 _ _ rfl rfl _ _ _ _ _ _ _ _ _ _ _ _ _ _ _ _ _ _ _ _ _ _ _ _ _ _ _ _ _ _ _ (by simp) rfl rfl ?_
  simp only [Act.put]
  go_wp2_with fail
  refine at_world fun W3 hW => ?_
  obtain ⟨bkt, hbt⟩ : ∃ b, w2.heap.size = b := ⟨_, rfl⟩
  rw [hbt]
  have lat := Ba.lt
  rw [hbt] at lat
  have lbt := Bb.lt
  rw [hbt] at lbt
  have lct := Bc.lt
  rw [hbt] at lct
  have ft := hw.size
  rw [hbt] at ft
  have Bt : Box W3 (bkt) [.int .i64 M.A.x, .int .i64 M.A.y, .int .i64 M.B.x, .int .i64 M.B.y, .int .i64 M.C.x, .int .i64 M.C.y] 25 := by rw [hW, ← hbt]; exact (Box.new rfl).old _
  have Bl : Box W3 (bkt + 1) [.int .i64 a.x, .int .i64 a.y, .int .i64 c.x, .int .i64 c.y, .int .i64 b.x, .int .i64 b.y, .int .i64 b.x, .int .i64 b.y, .int .i64 a.x, .int .i64 a.y, .int .i64 c.x, .int .i64 c.y, .int .i64 b.x, .int .i64 b.y, .int .i64 c.x, .int .i64 c.y, .int .i64 a.x, .int .i64 a.y, .int .i64 c.x, .int .i64 c.y, .int .i64 a.x, .int .i64 a.y, .int .i64 b.x, .int .i64 b.y, .int .i64 c.x, .int .i64 c.y, .int .i64 b.x, .int .i64 b.y, .int .i64 a.x, .int .i64 a.y] 29 := by rw [hW, ← hbt]; exact Box.new (by simp)
  replace Ba : Box W3 (w.heap.size) [.int .i64 a.x, .int .i64 a.y] 23 := by rw [hW]; exact ((Ba).old _).old _
  replace Bb : Box W3 (w.heap.size + 1) [.int .i64 b.x, .int .i64 b.y] 23 := by rw [hW]; exact ((Bb).old _).old _
  replace Bc : Box W3 (w.heap.size + 1 + 1) [.int .i64 c.x, .int .i64 c.y] 23 := by rw [hW]; exact ((Bc).old _).old _
  replace hw : Below w.heap.size w W3 := by have hl := hw.size; rw [hW]; go_grown
  clear hW hbt
  clear xa ya za va xb yb zb vb xc yc zc vc
  focus
    refine wp_loop_rounds 6 ?_
    try rw [rounds_succ (n := 5)]
    obtain ⟨xa, ya, za, va⟩ := Ba.facts
    obtain ⟨xb, yb, zb, vb⟩ := Bb.facts
    obtain ⟨xc, yc, zc, vc⟩ := Bc.facts
    obtain ⟨xt, yt, zt, vt⟩ := Bt.facts
    obtain ⟨xl, yl, zl, vl⟩ := Bl.facts
    go_wp2_with fail
    refine at_world fun W4 hW => ?_
    replace hw : Below w.heap.size w W4 := by rw [hW]; exact hw
    replace Ba : Box W4 (w.heap.size) [.int .i64 a.x, .int .i64 a.y] 23 := by rw [hW]; exact Ba
    replace Bb : Box W4 (w.heap.size + 1) [.int .i64 b.x, .int .i64 b.y] 23 := by rw [hW]; exact Bb
    replace Bc : Box W4 (w.heap.size + 1 + 1) [.int .i64 c.x, .int .i64 c.y] 23 := by rw [hW]; exact Bc
    replace Bt : Box W4 (bkt) [.int .i64 M.A.x, .int .i64 M.A.y, .int .i64 M.B.x, .int .i64 M.B.y, .int .i64 M.C.x, .int .i64 M.C.y] 25 := by rw [hW]; exact Bt
    replace Bl : Box W4 (bkt + 1) [.int .i64 a.x, .int .i64 a.y, .int .i64 c.x, .int .i64 c.y, .int .i64 b.x, .int .i64 b.y, .int .i64 b.x, .int .i64 b.y, .int .i64 a.x, .int .i64 a.y, .int .i64 c.x, .int .i64 c.y, .int .i64 b.x, .int .i64 b.y, .int .i64 c.x, .int .i64 c.y, .int .i64 a.x, .int .i64 a.y, .int .i64 c.x, .int .i64 c.y, .int .i64 a.x, .int .i64 a.y, .int .i64 b.x, .int .i64 b.y, .int .i64 c.x, .int .i64 c.y, .int .i64 b.x, .int .i64 b.y, .int .i64 a.x, .int .i64 a.y] 29 := by rw [hW]; exact Bl
    clear hW
    clear xa ya za va xb yb zb vb xc yc zc vc xt yt zt vt xl yl zl vl
    focus
      have ga := Ba.cells
      have gb := Bb.cells
      have gc := Bc.cells
      have gt := Bt.cells
      have gl := Bl.cells
      refine wp_region_lateG2 16 11 63 [.int .i64 M.A.x, .int .i64 M.A.y, .int .i64 M.B.x, .int .i64 M.B.y, .int .i64 M.C.x, .int .i64 M.C.y] (zs := [.int .i64 0, .int .i64 0, .int .i64 0, .int .i64 0, .int .i64 0, .int .i64 0]) (eff := eff6 (.int .i64 M.A.x) (.int .i64 M.A.y) (.int .i64 M.B.x) (.int .i64 M.B.y) (.int .i64 M.C.x) (.int .i64 M.C.y)) eff6_spec rfl rfl rfl rfl rfl rfl rfl (by simp) (fun ρ W => by simp [execOp, go_sem]; rfl) (by kernel_rfl) (by as_aux_lemma => kernel_rfl) (C := fun w' => ∃ p : Regrown, w' = grow (redrawn W4 p.d) p.os) (fun w' h => regrown_of_below h) ?_ (fun ρ W b e1 e2 hB => by obtain ⟨x, y, _, _⟩ := hB.facts; simp [execOp, go_sem, e1, e2, x, y, eff6])
      simp only [List.take_succ_cons, List.take_zero, List.drop_succ_cons, List.drop_zero]
      repeat (first | (refine rWalk_skip (Eq.refl false) ?_; simp only [Act.put, List.setIfInBounds_toArray, List.set_cons_succ, List.set_cons_zero]) | (refine rWalk_step (fun K hK => ?_); go_simp; first | (refine hK _ ?_; clear hK K) | (apply Exists.intro; refine ⟨fun _ => ?_, hK _ ?_⟩; (first | with_reducible exact toExt m0 _); clear hK K)))
      refine rWalk_nil ⟨rfl, ?_⟩
      intro w5 bks0 hb h1b h2b Bs0
      have las0 := Ba.lt
      have lbs0 := Bb.lt
      have lcs0 := Bc.lt
      have lts0 := Bt.lt
      have lls0 := Bl.lt
      have hw0z := hw.size
      clear ga gb gc gt gl
      replace Ba := Ba.ext hb rfl
      replace Bb := Bb.ext hb rfl
      replace Bc := Bc.ext hb rfl
      replace Bt := Bt.ext hb rfl
      replace Bl := Bl.ext hb rfl
      replace hw := hw.trans (hb.mono hw.size)
      have fs0 := h1b
      have hwz : w.heap.size ≤ W4.heap.size := hw0z
      clear hb h1b h2b hw0z
      simp only [Act.put]
      focus
        obtain ⟨xa, ya, za, va⟩ := Ba.facts
        obtain ⟨xb, yb, zb, vb⟩ := Bb.facts
        obtain ⟨xc, yc, zc, vc⟩ := Bc.facts
        obtain ⟨xt, yt, zt, vt⟩ := Bt.facts
        obtain ⟨xl, yl, zl, vl⟩ := Bl.facts
        obtain ⟨xs0, ys0, zs0, vs0⟩ := Bs0.facts
        go_wp2_with fail
        clear xa ya za va xb yb zb vb xc yc zc vc xt yt zt vt xl yl zl vl xs0 ys0 zs0 vs0
        focus
          clear Bs0
          try rw [rounds_succ (n := 4)]
          obtain ⟨xa, ya, za, va⟩ := Ba.facts
          obtain ⟨xb, yb, zb, vb⟩ := Bb.facts
          obtain ⟨xc, yc, zc, vc⟩ := Bc.facts
          obtain ⟨xt, yt, zt, vt⟩ := Bt.facts
          obtain ⟨xl, yl, zl, vl⟩ := Bl.facts
          go_wp2_with fail
          refine at_world fun W6 hW => ?_
          replace hw : Below w.heap.size w W6 := by rw [hW]; exact hw
          replace Ba : Box W6 (w.heap.size) [.int .i64 a.x, .int .i64 a.y] 23 := by rw [hW]; exact Ba
          replace Bb : Box W6 (w.heap.size + 1) [.int .i64 b.x, .int .i64 b.y] 23 := by rw [hW]; exact Bb
          replace Bc : Box W6 (w.heap.size + 1 + 1) [.int .i64 c.x, .int .i64 c.y] 23 := by rw [hW]; exact Bc
          replace Bt : Box W6 (bkt) [.int .i64 M.A.x, .int .i64 M.A.y, .int .i64 M.B.x, .int .i64 M.B.y, .int .i64 M.C.x, .int .i64 M.C.y] 25 := by rw [hW]; exact Bt
          replace Bl : Box W6 (bkt + 1) [.int .i64 a.x, .int .i64 a.y, .int .i64 c.x, .int .i64 c.y, .int .i64 b.x, .int .i64 b.y, .int .i64 b.x, .int .i64 b.y, .int .i64 a.x, .int .i64 a.y, .int .i64 c.x, .int .i64 c.y, .int .i64 b.x, .int .i64 b.y, .int .i64 c.x, .int .i64 c.y, .int .i64 a.x, .int .i64 a.y, .int .i64 c.x, .int .i64 c.y, .int .i64 a.x, .int .i64 a.y, .int .i64 b.x, .int .i64 b.y, .int .i64 c.x, .int .i64 c.y, .int .i64 b.x, .int .i64 b.y, .int .i64 a.x, .int .i64 a.y] 29 := by rw [hW]; exact Bl
          clear hW
          clear xa ya za va xb yb zb vb xc yc zc vc xt yt zt vt xl yl zl vl
          focus
            have ga := Ba.cells
            have gb := Bb.cells
            have gc := Bc.cells
            have gt := Bt.cells
            have gl := Bl.cells
            refine wp_region_lateG2 16 11 63 [.int .i64 M.A.x, .int .i64 M.A.y, .int .i64 M.B.x, .int .i64 M.B.y, .int .i64 M.C.x, .int .i64 M.C.y] (zs := [.int .i64 0, .int .i64 0, .int .i64 0, .int .i64 0, .int .i64 0, .int .i64 0]) (eff := eff6 (.int .i64 M.A.x) (.int .i64 M.A.y) (.int .i64 M.B.x) (.int .i64 M.B.y) (.int .i64 M.C.x) (.int .i64 M.C.y)) eff6_spec rfl rfl rfl rfl rfl rfl rfl (by simp) (fun ρ W => by simp [execOp, go_sem]; rfl) (by kernel_rfl) (by as_aux_lemma => kernel_rfl) (C := fun w' => ∃ p : Regrown, w' = grow (redrawn W6 p.d) p.os) (fun w' h => regrown_of_below h) ?_ (fun ρ W b e1 e2 hB => by obtain ⟨x, y, _, _⟩ := hB.facts; simp [execOp, go_sem, e1, e2, x, y, eff6])
            simp only [List.take_succ_cons, List.take_zero, List.drop_succ_cons, List.drop_zero]
            repeat (first | (refine rWalk_skip (Eq.refl false) ?_; simp only [Act.put, List.setIfInBounds_toArray, List.set_cons_succ, List.set_cons_zero]) | (refine rWalk_step (fun K hK => ?_); go_simp; first | (refine hK _ ?_; clear hK K) | (apply Exists.intro; refine ⟨fun _ => ?_, hK _ ?_⟩; (first | with_reducible exact toExt m1 _); clear hK K)))
            refine rWalk_nil ⟨rfl, ?_⟩
            intro w7 bks1 hb h1b h2b Bs1
            have las1 := Ba.lt
            have lbs1 := Bb.lt
            have lcs1 := Bc.lt
            have lts1 := Bt.lt
            have lls1 := Bl.lt
            have hw0z := hw.size
            clear ga gb gc gt gl
            replace Ba := Ba.ext hb rfl
            replace Bb := Bb.ext hb rfl
            replace Bc := Bc.ext hb rfl
            replace Bt := Bt.ext hb rfl
            replace Bl := Bl.ext hb rfl
            replace hw := hw.trans (hb.mono hw.size)
            have fs1 := h1b
            have hwz : w.heap.size ≤ W6.heap.size := hw0z
            clear hb h1b h2b hw0z
            simp only [Act.put]
            focus
              obtain ⟨xa, ya, za, va⟩ := Ba.facts
              obtain ⟨xb, yb, zb, vb⟩ := Bb.facts
              obtain ⟨xc, yc, zc, vc⟩ := Bc.facts
              obtain ⟨xt, yt, zt, vt⟩ := Bt.facts
              obtain ⟨xl, yl, zl, vl⟩ := Bl.facts
              obtain ⟨xs1, ys1, zs1, vs1⟩ := Bs1.facts
              go_wp2_with fail
              clear xa ya za va xb yb zb vb xc yc zc vc xt yt zt vt xl yl zl vl xs1 ys1 zs1 vs1
              focus
                clear Bs1
                try rw [rounds_succ (n := 3)]
                obtain ⟨xa, ya, za, va⟩ := Ba.facts
                obtain ⟨xb, yb, zb, vb⟩ := Bb.facts
                obtain ⟨xc, yc, zc, vc⟩ := Bc.facts
                obtain ⟨xt, yt, zt, vt⟩ := Bt.facts
                obtain ⟨xl, yl, zl, vl⟩ := Bl.facts
                go_wp2_with fail
                refine at_world fun W8 hW => ?_
                replace hw : Below w.heap.size w W8 := by rw [hW]; exact hw
                replace Ba : Box W8 (w.heap.size) [.int .i64 a.x, .int .i64 a.y] 23 := by rw [hW]; exact Ba
                replace Bb : Box W8 (w.heap.size + 1) [.int .i64 b.x, .int .i64 b.y] 23 := by rw [hW]; exact Bb
                replace Bc : Box W8 (w.heap.size + 1 + 1) [.int .i64 c.x, .int .i64 c.y] 23 := by rw [hW]; exact Bc
                replace Bt : Box W8 (bkt) [.int .i64 M.A.x, .int .i64 M.A.y, .int .i64 M.B.x, .int .i64 M.B.y, .int .i64 M.C.x, .int .i64 M.C.y] 25 := by rw [hW]; exact Bt
                replace Bl : Box W8 (bkt + 1) [.int .i64 a.x, .int .i64 a.y, .int .i64 c.x, .int .i64 c.y, .int .i64 b.x, .int .i64 b.y, .int .i64 b.x, .int .i64 b.y, .int .i64 a.x, .int .i64 a.y, .int .i64 c.x, .int .i64 c.y, .int .i64 b.x, .int .i64 b.y, .int .i64 c.x, .int .i64 c.y, .int .i64 a.x, .int .i64 a.y, .int .i64 c.x, .int .i64 c.y, .int .i64 a.x, .int .i64 a.y, .int .i64 b.x, .int .i64 b.y, .int .i64 c.x, .int .i64 c.y, .int .i64 b.x, .int .i64 b.y, .int .i64 a.x, .int .i64 a.y] 29 := by rw [hW]; exact Bl
                clear hW
                clear xa ya za va xb yb zb vb xc yc zc vc xt yt zt vt xl yl zl vl
                focus
                  have ga := Ba.cells
                  have gb := Bb.cells
                  have gc := Bc.cells
                  have gt := Bt.cells
                  have gl := Bl.cells
                  refine wp_region_lateG2 16 11 63 [.int .i64 M.A.x, .int .i64 M.A.y, .int .i64 M.B.x, .int .i64 M.B.y, .int .i64 M.C.x, .int .i64 M.C.y] (zs := [.int .i64 0, .int .i64 0, .int .i64 0, .int .i64 0, .int .i64 0, .int .i64 0]) (eff := eff6 (.int .i64 M.A.x) (.int .i64 M.A.y) (.int .i64 M.B.x) (.int .i64 M.B.y) (.int .i64 M.C.x) (.int .i64 M.C.y)) eff6_spec rfl rfl rfl rfl rfl rfl rfl (by simp) (fun ρ W => by simp [execOp, go_sem]; rfl) (by kernel_rfl) (by as_aux_lemma => kernel_rfl) (C := fun w' => ∃ p : Regrown, w' = grow (redrawn W8 p.d) p.os) (fun w' h => regrown_of_below h) ?_ (fun ρ W b e1 e2 hB => by obtain ⟨x, y, _, _⟩ := hB.facts; simp [execOp, go_sem, e1, e2, x, y, eff6])
                  simp only [List.take_succ_cons, List.take_zero, List.drop_succ_cons, List.drop_zero]
                  repeat (first | (refine rWalk_skip (Eq.refl false) ?_; simp only [Act.put, List.setIfInBounds_toArray, List.set_cons_succ, List.set_cons_zero]) | (refine rWalk_step (fun K hK => ?_); go_simp; first | (refine hK _ ?_; clear hK K) | (apply Exists.intro; refine ⟨fun _ => ?_, hK _ ?_⟩; (first | with_reducible exact toExt m2 _); clear hK K)))
                  refine rWalk_nil ⟨rfl, ?_⟩
                  intro w9 bks2 hb h1b h2b Bs2
                  have las2 := Ba.lt
                  have lbs2 := Bb.lt
                  have lcs2 := Bc.lt
                  have lts2 := Bt.lt
                  have lls2 := Bl.lt
                  have hw0z := hw.size
                  clear ga gb gc gt gl
                  replace Ba := Ba.ext hb rfl
                  replace Bb := Bb.ext hb rfl
                  replace Bc := Bc.ext hb rfl
                  replace Bt := Bt.ext hb rfl
                  replace Bl := Bl.ext hb rfl
                  replace hw := hw.trans (hb.mono hw.size)
                  have fs2 := h1b
                  have hwz : w.heap.size ≤ W8.heap.size := hw0z
                  clear hb h1b h2b hw0z
                  simp only [Act.put]
                  focus
                    obtain ⟨xa, ya, za, va⟩ := Ba.facts
                    obtain ⟨xb, yb, zb, vb⟩ := Bb.facts
                    obtain ⟨xc, yc, zc, vc⟩ := Bc.facts
                    obtain ⟨xt, yt, zt, vt⟩ := Bt.facts
                    obtain ⟨xl, yl, zl, vl⟩ := Bl.facts
                    obtain ⟨xs2, ys2, zs2, vs2⟩ := Bs2.facts
                    go_wp2_with fail
                    clear xa ya za va xb yb zb vb xc yc zc vc xt yt zt vt xl yl zl vl xs2 ys2 zs2 vs2
                    focus
                      clear Bs2
                      try rw [rounds_succ (n := 2)]
                      obtain ⟨xa, ya, za, va⟩ := Ba.facts
                      obtain ⟨xb, yb, zb, vb⟩ := Bb.facts
                      obtain ⟨xc, yc, zc, vc⟩ := Bc.facts
                      obtain ⟨xt, yt, zt, vt⟩ := Bt.facts
                      obtain ⟨xl, yl, zl, vl⟩ := Bl.facts
                      go_wp2_with fail
                      refine at_world fun W10 hW => ?_
                      replace hw : Below w.heap.size w W10 := by rw [hW]; exact hw
                      replace Ba : Box W10 (w.heap.size) [.int .i64 a.x, .int .i64 a.y] 23 := by rw [hW]; exact Ba
                      replace Bb : Box W10 (w.heap.size + 1) [.int .i64 b.x, .int .i64 b.y] 23 := by rw [hW]; exact Bb
                      replace Bc : Box W10 (w.heap.size + 1 + 1) [.int .i64 c.x, .int .i64 c.y] 23 := by rw [hW]; exact Bc
                      replace Bt : Box W10 (bkt) [.int .i64 M.A.x, .int .i64 M.A.y, .int .i64 M.B.x, .int .i64 M.B.y, .int .i64 M.C.x, .int .i64 M.C.y] 25 := by rw [hW]; exact Bt
                      replace Bl : Box W10 (bkt + 1) [.int .i64 a.x, .int .i64 a.y, .int .i64 c.x, .int .i64 c.y, .int .i64 b.x, .int .i64 b.y, .int .i64 b.x, .int .i64 b.y, .int .i64 a.x, .int .i64 a.y, .int .i64 c.x, .int .i64 c.y, .int .i64 b.x, .int .i64 b.y, .int .i64 c.x, .int .i64 c.y, .int .i64 a.x, .int .i64 a.y, .int .i64 c.x, .int .i64 c.y, .int .i64 a.x, .int .i64 a.y, .int .i64 b.x, .int .i64 b.y, .int .i64 c.x, .int .i64 c.y, .int .i64 b.x, .int .i64 b.y, .int .i64 a.x, .int .i64 a.y] 29 := by rw [hW]; exact Bl
                      clear hW
                      clear xa ya za va xb yb zb vb xc yc zc vc xt yt zt vt xl yl zl vl
                      focus
                        have ga := Ba.cells
                        have gb := Bb.cells
                        have gc := Bc.cells
                        have gt := Bt.cells
                        have gl := Bl.cells
                        refine wp_region_lateG2 16 11 63 [.int .i64 M.A.x, .int .i64 M.A.y, .int .i64 M.B.x, .int .i64 M.B.y, .int .i64 M.C.x, .int .i64 M.C.y] (zs := [.int .i64 0, .int .i64 0, .int .i64 0, .int .i64 0, .int .i64 0, .int .i64 0]) (eff := eff6 (.int .i64 M.A.x) (.int .i64 M.A.y) (.int .i64 M.B.x) (.int .i64 M.B.y) (.int .i64 M.C.x) (.int .i64 M.C.y)) eff6_spec rfl rfl rfl rfl rfl rfl rfl (by simp) (fun ρ W => by simp [execOp, go_sem]; rfl) (by kernel_rfl) (by as_aux_lemma => kernel_rfl) (C := fun w' => ∃ p : Regrown, w' = grow (redrawn W10 p.d) p.os) (fun w' h => regrown_of_below h) ?_ (fun ρ W b e1 e2 hB => by obtain ⟨x, y, _, _⟩ := hB.facts; simp [execOp, go_sem, e1, e2, x, y, eff6])
                        simp only [List.take_succ_cons, List.take_zero, List.drop_succ_cons, List.drop_zero]
                        repeat (first | (refine rWalk_skip (Eq.refl false) ?_; simp only [Act.put, List.setIfInBounds_toArray, List.set_cons_succ, List.set_cons_zero]) | (refine rWalk_step (fun K hK => ?_); go_simp; first | (refine hK _ ?_; clear hK K) | (apply Exists.intro; refine ⟨fun _ => ?_, hK _ ?_⟩; (first | with_reducible exact toExt m3 _); clear hK K)))
                        refine rWalk_nil ⟨rfl, ?_⟩
                        intro w11 bks3 hb h1b h2b Bs3
                        have las3 := Ba.lt
                        have lbs3 := Bb.lt
                        have lcs3 := Bc.lt
                        have lts3 := Bt.lt
                        have lls3 := Bl.lt
                        have hw0z := hw.size
                        clear ga gb gc gt gl
                        replace Ba := Ba.ext hb rfl
                        replace Bb := Bb.ext hb rfl
                        replace Bc := Bc.ext hb rfl
                        replace Bt := Bt.ext hb rfl
                        replace Bl := Bl.ext hb rfl
                        replace hw := hw.trans (hb.mono hw.size)
                        have fs3 := h1b
                        have hwz : w.heap.size ≤ W10.heap.size := hw0z
                        clear hb h1b h2b hw0z
                        simp only [Act.put]
                        focus
                          obtain ⟨xa, ya, za, va⟩ := Ba.facts
                          obtain ⟨xb, yb, zb, vb⟩ := Bb.facts
                          obtain ⟨xc, yc, zc, vc⟩ := Bc.facts
                          obtain ⟨xt, yt, zt, vt⟩ := Bt.facts
                          obtain ⟨xl, yl, zl, vl⟩ := Bl.facts
                          obtain ⟨xs3, ys3, zs3, vs3⟩ := Bs3.facts
                          go_wp2_with fail
                          clear xa ya za va xb yb zb vb xc yc zc vc xt yt zt vt xl yl zl vl xs3 ys3 zs3 vs3
                          focus
                            clear Bs3
                            try rw [rounds_succ (n := 1)]
                            obtain ⟨xa, ya, za, va⟩ := Ba.facts
                            obtain ⟨xb, yb, zb, vb⟩ := Bb.facts
                            obtain ⟨xc, yc, zc, vc⟩ := Bc.facts
                            obtain ⟨xt, yt, zt, vt⟩ := Bt.facts
                            obtain ⟨xl, yl, zl, vl⟩ := Bl.facts
                            go_wp2_with fail
                            refine at_world fun W12 hW => ?_
                            replace hw : Below w.heap.size w W12 := by rw [hW]; exact hw
                            replace Ba : Box W12 (w.heap.size) [.int .i64 a.x, .int .i64 a.y] 23 := by rw [hW]; exact Ba
                            replace Bb : Box W12 (w.heap.size + 1) [.int .i64 b.x, .int .i64 b.y] 23 := by rw [hW]; exact Bb
                            replace Bc : Box W12 (w.heap.size + 1 + 1) [.int .i64 c.x, .int .i64 c.y] 23 := by rw [hW]; exact Bc
                            replace Bt : Box W12 (bkt) [.int .i64 M.A.x, .int .i64 M.A.y, .int .i64 M.B.x, .int .i64 M.B.y, .int .i64 M.C.x, .int .i64 M.C.y] 25 := by rw [hW]; exact Bt
                            replace Bl : Box W12 (bkt + 1) [.int .i64 a.x, .int .i64 a.y, .int .i64 c.x, .int .i64 c.y, .int .i64 b.x, .int .i64 b.y, .int .i64 b.x, .int .i64 b.y, .int .i64 a.x, .int .i64 a.y, .int .i64 c.x, .int .i64 c.y, .int .i64 b.x, .int .i64 b.y, .int .i64 c.x, .int .i64 c.y, .int .i64 a.x, .int .i64 a.y, .int .i64 c.x, .int .i64 c.y, .int .i64 a.x, .int .i64 a.y, .int .i64 b.x, .int .i64 b.y, .int .i64 c.x, .int .i64 c.y, .int .i64 b.x, .int .i64 b.y, .int .i64 a.x, .int .i64 a.y] 29 := by rw [hW]; exact Bl
                            clear hW
                            clear xa ya za va xb yb zb vb xc yc zc vc xt yt zt vt xl yl zl vl
                            focus
                              have ga := Ba.cells
                              have gb := Bb.cells
                              have gc := Bc.cells
                              have gt := Bt.cells
                              have gl := Bl.cells
                              refine wp_region_lateG2 16 11 63 [.int .i64 M.A.x, .int .i64 M.A.y, .int .i64 M.B.x, .int .i64 M.B.y, .int .i64 M.C.x, .int .i64 M.C.y] (zs := [.int .i64 0, .int .i64 0, .int .i64 0, .int .i64 0, .int .i64 0, .int .i64 0]) (eff := eff6 (.int .i64 M.A.x) (.int .i64 M.A.y) (.int .i64 M.B.x) (.int .i64 M.B.y) (.int .i64 M.C.x) (.int .i64 M.C.y)) eff6_spec rfl rfl rfl rfl rfl rfl rfl (by simp) (fun ρ W => by simp [execOp, go_sem]; rfl) (by kernel_rfl) (by as_aux_lemma => kernel_rfl) (C := fun w' => ∃ p : Regrown, w' = grow (redrawn W12 p.d) p.os) (fun w' h => regrown_of_below h) ?_ (fun ρ W b e1 e2 hB => by obtain ⟨x, y, _, _⟩ := hB.facts; simp [execOp, go_sem, e1, e2, x, y, eff6])
                              simp only [List.take_succ_cons, List.take_zero, List.drop_succ_cons, List.drop_zero]
                              repeat (first | (refine rWalk_skip (Eq.refl false) ?_; simp only [Act.put, List.setIfInBounds_toArray, List.set_cons_succ, List.set_cons_zero]) | (refine rWalk_step (fun K hK => ?_); go_simp; first | (refine hK _ ?_; clear hK K) | (apply Exists.intro; refine ⟨fun _ => ?_, hK _ ?_⟩; (first | with_reducible exact toExt m4 _); clear hK K)))
                              refine rWalk_nil ⟨rfl, ?_⟩
                              intro w13 bks4 hb h1b h2b Bs4
                              have las4 := Ba.lt
                              have lbs4 := Bb.lt
                              have lcs4 := Bc.lt
                              have lts4 := Bt.lt
                              have lls4 := Bl.lt
                              have hw0z := hw.size
                              clear ga gb gc gt gl
                              replace Ba := Ba.ext hb rfl
                              replace Bb := Bb.ext hb rfl
                              replace Bc := Bc.ext hb rfl
                              replace Bt := Bt.ext hb rfl
                              replace Bl := Bl.ext hb rfl
                              replace hw := hw.trans (hb.mono hw.size)
                              have fs4 := h1b
                              have hwz : w.heap.size ≤ W12.heap.size := hw0z
                              clear hb h1b h2b hw0z
                              simp only [Act.put]
                              focus
                                obtain ⟨xa, ya, za, va⟩ := Ba.facts
                                obtain ⟨xb, yb, zb, vb⟩ := Bb.facts
                                obtain ⟨xc, yc, zc, vc⟩ := Bc.facts
                                obtain ⟨xt, yt, zt, vt⟩ := Bt.facts
                                obtain ⟨xl, yl, zl, vl⟩ := Bl.facts
                                obtain ⟨xs4, ys4, zs4, vs4⟩ := Bs4.facts
                                go_wp2_with fail
                                clear xa ya za va xb yb zb vb xc yc zc vc xt yt zt vt xl yl zl vl xs4 ys4 zs4 vs4
                                focus
                                  clear Bs4
                                  clear Bl
                                  try rw [rounds_succ (n := 0)]
                                  obtain ⟨xa, ya, za, va⟩ := Ba.facts
                                  obtain ⟨xb, yb, zb, vb⟩ := Bb.facts
                                  obtain ⟨xc, yc, zc, vc⟩ := Bc.facts
                                  obtain ⟨xt, yt, zt, vt⟩ := Bt.facts
                                  go_wp2_with fail
                                  refine at_call fun W14 hW => ?_
                                  obtain ⟨bkk, hbk⟩ : ∃ b, w13.heap.size = b := ⟨_, rfl⟩
                                  rw [hbk]
                                  have lak := Ba.lt
                                  rw [hbk] at lak
                                  have lbk := Bb.lt
                                  rw [hbk] at lbk
                                  have lck := Bc.lt
                                  rw [hbk] at lck
                                  have ltk := Bt.lt
                                  rw [hbk] at ltk
                                  have fk := hw.size
                                  rw [hbk] at fk
                                  have Bk : Box W14 bkk [.int .i64 a.x, .int .i64 a.y, .int .i64 b.x, .int .i64 b.y, .int .i64 c.x, .int .i64 c.y] 23 := by rw [hW]; exact Box.new hbk.symm
                                  replace Ba : Box W14 (w.heap.size) [.int .i64 a.x, .int .i64 a.y] 23 := by rw [hW]; exact Ba.old _
                                  replace Bb : Box W14 (w.heap.size + 1) [.int .i64 b.x, .int .i64 b.y] 23 := by rw [hW]; exact Bb.old _
                                  replace Bc : Box W14 (w.heap.size + 1 + 1) [.int .i64 c.x, .int .i64 c.y] 23 := by rw [hW]; exact Bc.old _
                                  replace Bt : Box W14 (bkt) [.int .i64 M.A.x, .int .i64 M.A.y, .int .i64 M.B.x, .int .i64 M.B.y, .int .i64 M.C.x, .int .i64 M.C.y] 25 := by rw [hW]; exact Bt.old _
                                  replace hw : Below w.heap.size w W14 := by have hl := hw.size; rw [hW]; go_grown
                                  clear hW hbk
                                  focus
                                    refine (cs1 _ bkk Bk).mono ?_
                                    rintro e w9 ⟨g1, cap1, tl1, rfl, hg1, Bp, hb⟩
                                    unfold cells3 at Bp
                                    clear xa ya za va xb yb zb vb xc yc zc vc xt yt zt vt
                                    have ltp : (bkt : Nat) < g1 := by have := Bt.lt; omega
                                    replace Ba := Ba.ext hb rfl
                                    replace Bb := Bb.ext hb rfl
                                    replace Bc := Bc.ext hb rfl
                                    replace Bt := Bt.ext hb rfl
                                    replace Bk := Bk.ext hb rfl
                                    replace hw := hw.trans (hb.mono hw.size)
                                    clear hb hg1
                                    clear Ba
                                    clear Bb
                                    clear Bc
                                    clear Bk
                                    focus
                                      obtain ⟨xt, yt, zt, vt⟩ := Bt.facts
                                      obtain ⟨xp, yp, zp, vp⟩ := Bp.facts
                                      go_wp2_with fail
                                      refine at_world fun W15 hW => ?_
                                      replace hw : Below w.heap.size w W15 := by rw [hW]; exact hw
                                      replace Bt : Box W15 (bkt) [.int .i64 M.A.x, .int .i64 M.A.y, .int .i64 M.B.x, .int .i64 M.B.y, .int .i64 M.C.x, .int .i64 M.C.y] 25 := by rw [hW]; exact Bt
                                      replace Bp : Box W15 (g1) (.int .i64 S.A.x :: .int .i64 S.A.y :: .int .i64 S.B.x :: .int .i64 S.B.y :: .int .i64 S.C.x :: .int .i64 S.C.y :: tl1) 23 := by rw [hW]; exact Bp
                                      clear hW
                                      clear xt yt zt vt xp yp zp vp
                                      focus
                                        clear cm m0 m1 m2 m3 m4 cs1
                                        have gt := Bt.cells
                                        have gp := Bp.cells
                                        refine wp_region_float 7 15 13 [13, 14, 16, 17, 18] (by kernel_rfl) (by as_aux_lemma => kernel_rfl) rfl rfl rfl rfl (fun _ _ _ _ h => h) (C := fun w' => ∃ p : Regrown, w' = grow (redrawn W15 p.d) p.os) (fun w' h => regrown_of_below h) ?_
                                        simp only [List.take_succ_cons, List.take_zero, List.drop_succ_cons, List.drop_zero, List.eraseIdx_cons_succ, List.eraseIdx_cons_zero, Nat.reduceSub]
                                        repeat (first | (refine rWalk_skip (Eq.refl false) ?_; simp only [Act.put, List.setIfInBounds_toArray, List.set_cons_succ, List.set_cons_zero]) | (refine rWalk_step (fun K hK => ?_); go_simp; first | (refine hK _ ?_; clear hK K) | (apply Exists.intro; refine ⟨fun _ => ?_, hK _ ?_⟩; (first | fail); clear hK K)))
                                        refine rWalk_nil ?_
                                        refine ⟨_, Or.inl ⟨rfl, fun _ => rfl⟩, ?_⟩
                                        simp only [Act.put, List.setIfInBounds_toArray, List.set_cons_succ, List.set_cons_zero]
                                        repeat (first | (refine rWalk_skip (Eq.refl false) ?_; simp only [Act.put, List.setIfInBounds_toArray, List.set_cons_succ, List.set_cons_zero]) | (refine rWalk_step (fun K hK => ?_); go_simp; first | (refine hK _ ?_; clear hK K) | (apply Exists.intro; refine ⟨fun _ => ?_, hK _ ?_⟩; (first | fail); clear hK K)))
                                        refine rWalk_nil ?_
                                        intro w16 hb
                                        clear gt gp
                                        replace Bt := Bt.ext hb rfl
                                        replace Bp := Bp.ext hb rfl
                                        replace hw := hw.trans (hb.mono hw.size)
                                        clear hb
                                        focus
                                          obtain ⟨xt, yt, zt, vt⟩ := Bt.facts
                                          obtain ⟨xp, yp, zp, vp⟩ := Bp.facts
                                          go_wp2_with fail
                                          refine at_call fun W17 hW => ?_
                                          obtain ⟨bkk, hbk⟩ : ∃ b, w16.heap.size = b := ⟨_, rfl⟩
                                          rw [hbk]
                                          have ltk := Bt.lt
                                          rw [hbk] at ltk
                                          have lpk := Bp.lt
                                          rw [hbk] at lpk
                                          have fk := hw.size
                                          rw [hbk] at fk
                                          have Bk : Box W17 bkk [.int .i64 M.A.x, .int .i64 M.A.y, .int .i64 M.B.x, .int .i64 M.B.y, .int .i64 M.C.x, .int .i64 M.C.y] 23 := by rw [hW]; exact Box.new hbk.symm
                                          replace Bt : Box W17 (bkt) [.int .i64 M.A.x, .int .i64 M.A.y, .int .i64 M.B.x, .int .i64 M.B.y, .int .i64 M.C.x, .int .i64 M.C.y] 25 := by rw [hW]; exact Bt.old _
                                          replace Bp : Box W17 (g1) (.int .i64 S.A.x :: .int .i64 S.A.y :: .int .i64 S.B.x :: .int .i64 S.B.y :: .int .i64 S.C.x :: .int .i64 S.C.y :: tl1) 23 := by rw [hW]; exact Bp.old _
                                          replace hw : Below w.heap.size w W17 := by have hl := hw.size; rw [hW]; go_grown
                                          clear hW hbk
                                          refine (cs2 _ bkk Bk).mono ?_
                                          rintro e w19 ⟨g2, cap2, tl2, rfl, hg2, Bq, hb⟩
                                          clear xt yt zt vt xp yp zp vp
                                          replace Bt := Bt.ext hb rfl
                                          replace Bp := Bp.ext hb rfl
                                          replace Bk := Bk.ext hb rfl
                                          replace hw := hw.trans (hb.mono hw.size)
                                          clear hb hg2 Bk cs2
                                          focus
                                            obtain ⟨xt, yt, zt, vt⟩ := Bt.facts
                                            go_wp2_with fail
                                            refine (points_eq S _ g2 g1 cap2 cap1 tl2 tl1 Bq Bp).mono ?_
                                            rintro e w20 ⟨rfl, hb⟩
                                            clear xt yt zt vt
                                            replace Bt := Bt.ext hb rfl
                                            replace hw := hw.trans (hb.mono hw.size)
                                            clear hb Bp Bq
                                            focus
                                              obtain ⟨xt, yt, zt, vt⟩ := Bt.facts
                                              go_wp2_with fail
                                              refine wp_loop_rounds 5 ?_
                                              try rw [rounds_succ]
                                              go_wp2_with fail
                                              refine (e0 _).mono ?_
                                              rintro e w18 ⟨rfl, hb⟩
                                              clear xt yt zt vt
                                              replace Bt := Bt.ext hb rfl
                                              replace hw := hw.trans (hb.mono hw.size)
                                              clear hb
                                              obtain ⟨xt, yt, zt, vt⟩ := Bt.facts
                                              go_wp2_with fail
                                              refine at_world fun W19 hW => ?_
                                              obtain ⟨bkx0, hbx0⟩ : ∃ b, w18.heap.size = b := ⟨_, rfl⟩
                                              rw [hbx0]
                                              have ltx0 := Bt.lt
                                              rw [hbx0] at ltx0
                                              have fx0 := hw.size
                                              rw [hbx0] at fx0
                                              have Bx0 : Box W19 (bkx0) [.int .i64 M.A.x, .int .i64 M.A.y] 23 := by rw [hW, ← hbx0]; exact (Box.new rfl).old _
                                              have By0 : Box W19 (bkx0 + 1) [.int .i64 M.B.x, .int .i64 M.B.y] 23 := by rw [hW, ← hbx0]; exact Box.new (by simp)
                                              replace Bt : Box W19 (bkt) [.int .i64 M.A.x, .int .i64 M.A.y, .int .i64 M.B.x, .int .i64 M.B.y, .int .i64 M.C.x, .int .i64 M.C.y] 25 := by rw [hW]; exact ((Bt).old _).old _
                                              replace hw : Below w.heap.size w W19 := by have hl := hw.size; rw [hW]; go_grown
                                              clear hW hbx0
                                              clear xt yt zt vt
                                              focus
                                                have gt := Bt.cells
                                                have gx0 := Bx0.cells
                                                have gy0 := By0.cells
                                                refine wp_region_tail 18 (by kernel_rfl) (by kernel_rfl) (C := fun w' => ∃ p : Regrown, w' = grow (redrawn W19 p.d) p.os) (fun w' h => regrown_of_below h) ?_
                                                simp only [List.take_succ_cons, List.take_zero, List.drop_succ_cons, List.drop_zero]
                                                repeat (first | (refine rWalk_skip (Eq.refl false) ?_; simp only [Act.put, List.setIfInBounds_toArray, List.set_cons_succ, List.set_cons_zero]) | (refine rWalk_step (fun K hK => ?_); go_simp; first | (refine hK _ ?_; clear hK K) | (apply Exists.intro; refine ⟨fun _ => ?_, hK _ ?_⟩; (first | with_reducible exact toExt x0 _ | with_reducible exact toExt r0 _ | with_reducible exact toExt s0 _ | with_reducible exact toExt t0 _); clear hK K)))
                                                refine rWalk_nil ?_
                                                intro w20 hb
                                                clear gt gx0 gy0
                                                replace Bt := Bt.ext hb rfl
                                                replace Bx0 := Bx0.ext hb rfl
                                                replace By0 := By0.ext hb rfl
                                                replace hw := hw.trans (hb.mono hw.size)
                                                clear Bx0
                                                clear By0
                                                focus
                                                  obtain ⟨xt, yt, zt, vt⟩ := Bt.facts
                                                  go_wp2_with fail
                                                  try rw [rounds_succ]
                                                  go_wp2_with fail
                                                  refine (e1 _).mono ?_
                                                  rintro e w21 ⟨rfl, hb⟩
                                                  clear xt yt zt vt
                                                  replace Bt := Bt.ext hb rfl
                                                  replace hw := hw.trans (hb.mono hw.size)
                                                  clear hb
                                                  obtain ⟨xt, yt, zt, vt⟩ := Bt.facts
                                                  go_wp2_with fail
                                                  refine at_world fun W22 hW => ?_
                                                  obtain ⟨bkx1, hbx1⟩ : ∃ b, w21.heap.size = b := ⟨_, rfl⟩
                                                  rw [hbx1]
                                                  have ltx1 := Bt.lt
                                                  rw [hbx1] at ltx1
                                                  have fx1 := hw.size
                                                  rw [hbx1] at fx1
                                                  have Bx1 : Box W22 (bkx1) [.int .i64 M.B.x, .int .i64 M.B.y] 23 := by rw [hW, ← hbx1]; exact (Box.new rfl).old _
                                                  have By1 : Box W22 (bkx1 + 1) [.int .i64 M.C.x, .int .i64 M.C.y] 23 := by rw [hW, ← hbx1]; exact Box.new (by simp)
                                                  replace Bt : Box W22 (bkt) [.int .i64 M.A.x, .int .i64 M.A.y, .int .i64 M.B.x, .int .i64 M.B.y, .int .i64 M.C.x, .int .i64 M.C.y] 25 := by rw [hW]; exact ((Bt).old _).old _
                                                  replace hw : Below w.heap.size w W22 := by have hl := hw.size; rw [hW]; go_grown
                                                  clear hW hbx1
                                                  clear xt yt zt vt
                                                  focus
                                                    have gt := Bt.cells
                                                    have gx1 := Bx1.cells
                                                    have gy1 := By1.cells
                                                    refine wp_region_tail 18 (by kernel_rfl) (by kernel_rfl) (C := fun w' => ∃ p : Regrown, w' = grow (redrawn W22 p.d) p.os) (fun w' h => regrown_of_below h) ?_
                                                    simp only [List.take_succ_cons, List.take_zero, List.drop_succ_cons, List.drop_zero]
                                                    repeat (first | (refine rWalk_skip (Eq.refl false) ?_; simp only [Act.put, List.setIfInBounds_toArray, List.set_cons_succ, List.set_cons_zero]) | (refine rWalk_step (fun K hK => ?_); go_simp; first | (refine hK _ ?_; clear hK K) | (apply Exists.intro; refine ⟨fun _ => ?_, hK _ ?_⟩; (first | with_reducible exact toExt x1 _ | with_reducible exact toExt r1 _ | with_reducible exact toExt s1 _ | with_reducible exact toExt t1 _); clear hK K)))
                                                    refine rWalk_nil ?_
                                                    intro w23 hb
                                                    clear gt gx1 gy1
                                                    replace Bt := Bt.ext hb rfl
                                                    replace Bx1 := Bx1.ext hb rfl
                                                    replace By1 := By1.ext hb rfl
                                                    replace hw := hw.trans (hb.mono hw.size)
                                                    clear Bx1
                                                    clear By1
                                                    focus
                                                      obtain ⟨xt, yt, zt, vt⟩ := Bt.facts
                                                      go_wp2_with fail
                                                      try rw [rounds_succ]
                                                      go_wp2_with fail
                                                      refine (e2 _).mono ?_
                                                      rintro e w24 ⟨rfl, hb⟩
                                                      clear xt yt zt vt
                                                      replace Bt := Bt.ext hb rfl
                                                      replace hw := hw.trans (hb.mono hw.size)
                                                      clear hb
                                                      obtain ⟨xt, yt, zt, vt⟩ := Bt.facts
                                                      go_wp2_with fail
                                                      refine at_world fun W25 hW => ?_
                                                      obtain ⟨bkx2, hbx2⟩ : ∃ b, w24.heap.size = b := ⟨_, rfl⟩
                                                      rw [hbx2]
                                                      have ltx2 := Bt.lt
                                                      rw [hbx2] at ltx2
                                                      have fx2 := hw.size
                                                      rw [hbx2] at fx2
                                                      have Bx2 : Box W25 (bkx2) [.int .i64 M.C.x, .int .i64 M.C.y] 23 := by rw [hW, ← hbx2]; exact (Box.new rfl).old _
                                                      have By2 : Box W25 (bkx2 + 1) [.int .i64 M.A.x, .int .i64 M.A.y] 23 := by rw [hW, ← hbx2]; exact Box.new (by simp)
                                                      replace Bt : Box W25 (bkt) [.int .i64 M.A.x, .int .i64 M.A.y, .int .i64 M.B.x, .int .i64 M.B.y, .int .i64 M.C.x, .int .i64 M.C.y] 25 := by rw [hW]; exact ((Bt).old _).old _
                                                      replace hw : Below w.heap.size w W25 := by have hl := hw.size; rw [hW]; go_grown
                                                      clear hW hbx2
                                                      clear xt yt zt vt
                                                      focus
                                                        have gt := Bt.cells
                                                        have gx2 := Bx2.cells
                                                        have gy2 := By2.cells
                                                        refine wp_region_tail 18 (by kernel_rfl) (by kernel_rfl) (C := fun w' => ∃ p : Regrown, w' = grow (redrawn W25 p.d) p.os) (fun w' h => regrown_of_below h) ?_
                                                        simp only [List.take_succ_cons, List.take_zero, List.drop_succ_cons, List.drop_zero]
                                                        repeat (first | (refine rWalk_skip (Eq.refl false) ?_; simp only [Act.put, List.setIfInBounds_toArray, List.set_cons_succ, List.set_cons_zero]) | (refine rWalk_step (fun K hK => ?_); go_simp; first | (refine hK _ ?_; clear hK K) | (apply Exists.intro; refine ⟨fun _ => ?_, hK _ ?_⟩; (first | with_reducible exact toExt x2 _ | with_reducible exact toExt r2 _ | with_reducible exact toExt s2 _ | with_reducible exact toExt t2 _); clear hK K)))
                                                        refine rWalk_nil ?_
                                                        intro w26 hb
                                                        clear gt gx2 gy2
                                                        replace Bt := Bt.ext hb rfl
                                                        replace Bx2 := Bx2.ext hb rfl
                                                        replace By2 := By2.ext hb rfl
                                                        replace hw := hw.trans (hb.mono hw.size)
                                                        clear Bx2
                                                        clear By2
                                                        focus
                                                          obtain ⟨xt, yt, zt, vt⟩ := Bt.facts
                                                          go_wp2_with fail
                                                          try rw [rounds_succ]
                                                          go_wp2_with fail
                                                          refine (cv _).mono ?_
                                                          rintro e w27 ⟨rfl, hb⟩
                                                          clear xt yt zt vt
                                                          replace Bt := Bt.ext hb rfl
                                                          replace hw := hw.trans (hb.mono hw.size)
                                                          clear hb
                                                          obtain ⟨xt, yt, zt, vt⟩ := Bt.facts
                                                          go_wp2_with fail
                                                          refine (cw _).mono ?_
                                                          rintro e w28 ⟨rfl, hb⟩
                                                          clear xt yt zt vt
                                                          replace Bt := Bt.ext hb rfl
                                                          replace hw := hw.trans (hb.mono hw.size)
                                                          clear hb
                                                          obtain ⟨xt, yt, zt, vt⟩ := Bt.facts
                                                          go_wp2_with fail
                                                          refine (awake_any _).mono ?_
                                                          rintro e w29 ⟨rfl, hb⟩
                                                          clear xt yt zt vt
                                                          replace Bt := Bt.ext hb rfl
                                                          replace hw := hw.trans (hb.mono hw.size)
                                                          clear hb
                                                          go_wp2
                                                          go_ret
                                                          exact ⟨rfl, hw⟩

end Go.Proofs.Ytijdbddjhnjcdaa
