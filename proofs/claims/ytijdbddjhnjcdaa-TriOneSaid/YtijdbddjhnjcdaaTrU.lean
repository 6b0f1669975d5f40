/- Three points are one triangle, in whatever order they are named; its corners are they; each edge's other way is on its outside: the law TriOne of package hectarelaw3 answers true at every input; no conditions. -/
import Derived.Test.YtijdbddjhnjcdaaRows
import Derived.Test.YtijdbddjhnjcdaaTrF
import Derived.Test.YtijdbddjhnjcdaaTrV
import Derived.Test.YtijdbddjhnjcdaaBuild
import Derived.Deep.Cut
import Derived.Test.YtijdbddjhnjcdaaTrL
import Derived.Test.YtijdbddjhnjcdaaPost
import Derived.WalkKit
import Derived.WalkSpells
import Derived.WalkLawsBesides
import Derived.Deep.QuietTactic
import Derived.BigQuiet
import Derived.Lib.Hide
import Derived.Handy
import Derived.LoopN
import Derived.Deep.RegionHeld3
import Derived.ProofKit
import Derived.Lib.SmallJoins
set_option linter.all false
namespace Go.Proofs.Ytijdbddjhnjcdaa
open Go.RowKit Go.Sort Go.ChangeShapes Go.WideShapes Go.ChangeAt
attribute [local go_sem] rOper rAt rUpon cell_set sg_i64 sg_u64 alloc_cell alloc_frozen
attribute [local go_sem 10000] pt_eql pt_neq tri_eql tri_neq
attribute [local irreducible] rWalk

set_option maxRecDepth 100000 in
set_option maxHeartbeats 16000000 in
theorem tone_0 (a b c : Pt) (h0 : ori a b c = 0) (hm : mk a b c = ⟨⟨0, 0⟩, ⟨0, 0⟩, ⟨0, 0⟩⟩) (ho : (!decide (ori a b c = 0)) = false) (w : World) :
    Calls Try.prog 3 #[.agg #[.int .i64 a.x, .int .i64 a.y], .agg #[.int .i64 b.x, .int .i64 b.y], .agg #[.int .i64 c.x, .int .i64 c.y]] w fun e w' => e = .returned (.bool true) ∧ Below w.heap.size w w' := by
  have cm := tmake_any a b c
  have m0 := tmake_any a c b
  rw [mk_swap a b c, ori_p0 a b c] at m0
  have m1 := tmake_any b a c
  rw [mk_p1 a b c, ori_p1 a b c] at m1
  have m2 := tmake_any b c a
  rw [mk_cyc a b c, show decide (ori b c a = 0) = decide (ori a b c = 0) by rw [ori_cyc]] at m2
  have m3 := tmake_any c a b
  rw [mk_p2 a b c, ori_p2 a b c] at m3
  have m4 := tmake_any c b a
  rw [mk_p3 a b c, ori_p3 a b c] at m4
  have wq0 : IntKind.i64.wrap 0 = 0 := by decide
  have wq2 : IntKind.i64.wrap 2 = 2 := by decide
  have wq3 : IntKind.i64.wrap 3 = 3 := by decide
  have wq4 : IntKind.i64.wrap 4 = 4 := by decide
  have co := rorient_any a b c
  rw [h0] at co
  rw [hm, ho] at cm
  rw [hm, ho] at m0
  rw [hm, ho] at m1
  rw [hm, ho] at m2
  rw [hm, ho] at m3
  rw [hm, ho] at m4
  dsimp only at cm m0 m1 m2 m3 m4
  clear h0 hm ho
  go_enter Try.func3, Try.ntmps3
  go_wp2_with fail
  refine at_call fun W1 hW => ?_
  have Ba : Box W1 (w.heap.size) [.int .i64 a.x, .int .i64 a.y] 23 := by rw [hW]; exact ((Box.new rfl).old _).old _
  have Bb : Box W1 (w.heap.size + 1) [.int .i64 b.x, .int .i64 b.y] 23 := by rw [hW]; exact (Box.new (by simp)).old _
  have Bc : Box W1 (w.heap.size + 1 + 1) [.int .i64 c.x, .int .i64 c.y] 23 := by rw [hW]; exact Box.new (by simp)
  have hw : Below w.heap.size w W1 := by rw [hW]; go_grown
  clear hW
  focus
    refine (cm _).mono ?_
    rintro e w2 ⟨rfl, hb⟩
    replace Ba := Ba.ext hb rfl
    replace Bb := Bb.ext hb rfl
    replace Bc := Bc.ext hb rfl
    replace hw := hw.trans (hb.mono hw.size)
    clear hb
    focus
      obtain ⟨xa, ya, za, va⟩ := Ba.facts
      obtain ⟨xb, yb, zb, vb⟩ := Bb.facts
      obtain ⟨xc, yc, zc, vc⟩ := Bc.facts
      go_upto_region 2 with (fail)
      go_step
      iterate 9 go_step
      refine bl3 _ _ _ rfl rfl _ _ _ _ _ _ rfl rfl rfl ?_
      simp only [Act.put, List.setIfInBounds_toArray, List.set_cons_succ, List.set_cons_zero]
      iterate 9 go_step
      refine bl3 _ _ _ rfl rfl _ _ _ _ _ _ rfl rfl rfl ?_
      simp only [Act.put, List.setIfInBounds_toArray, List.set_cons_succ, List.set_cons_zero]
      iterate 9 go_step
      refine bl3 _ _ _ rfl rfl _ _ _ _ _ _ rfl rfl rfl ?_
      simp only [Act.put, List.setIfInBounds_toArray, List.set_cons_succ, List.set_cons_zero]
      iterate 9 go_step
      refine bl3 _ _ _ rfl rfl _ _ _ _ _ _ rfl rfl rfl ?_
      simp only [Act.put, List.setIfInBounds_toArray, List.set_cons_succ, List.set_cons_zero]
      iterate 9 go_step
      refine bl3 _ _ _ rfl rfl _ _ _ _ _ _ rfl rfl rfl ?_
      simp only [Act.put, List.setIfInBounds_toArray, List.set_cons_succ, List.set_cons_zero]
      refine bl5 _ _ _ _ _ rfl rfl _ _ _ _ _ _ _ _ _ _ _ _ _ _ _ _ _ _ _ _ _ _ _ _ _ _ _ _ _ _ rfl rfl rfl rfl rfl ?_
      simp only [Act.put, List.setIfInBounds_toArray, List.set_cons_succ, List.set_cons_zero]
      iterate 3 go_step
      refine st30 _ _ rfl rfl _ _ _ _ _ _ _ _ _ _ _ _ _ _ _ _ _ _ _ _ _ _ _ _ _ _ _ _ _ _ _ (by simp) rfl rfl ?_
      simp only [Act.put]
      go_wp2_with fail
      refine at_world fun W3 hW => ?_
      obtain ⟨bkt, hbt⟩ : ∃ b, w2.heap.size = b := ⟨_, rfl⟩
      rw [hbt]
      have lat := Ba.lt
      rw [hbt] at lat
      have lbt := Bb.lt
      rw [hbt] at lbt
      have lct := Bc.lt
      rw [hbt] at lct
      have ft := hw.size
      rw [hbt] at ft
      have Bt : Box W3 (bkt) [.int .i64 0, .int .i64 0, .int .i64 0, .int .i64 0, .int .i64 0, .int .i64 0] 25 := by rw [hW, ← hbt]; exact (Box.new rfl).old _
      have Bl : Box W3 (bkt + 1) [.int .i64 a.x, .int .i64 a.y, .int .i64 c.x, .int .i64 c.y, .int .i64 b.x, .int .i64 b.y, .int .i64 b.x, .int .i64 b.y, .int .i64 a.x, .int .i64 a.y, .int .i64 c.x, .int .i64 c.y, .int .i64 b.x, .int .i64 b.y, .int .i64 c.x, .int .i64 c.y, .int .i64 a.x, .int .i64 a.y, .int .i64 c.x, .int .i64 c.y, .int .i64 a.x, .int .i64 a.y, .int .i64 b.x, .int .i64 b.y, .int .i64 c.x, .int .i64 c.y, .int .i64 b.x, .int .i64 b.y, .int .i64 a.x, .int .i64 a.y] 29 := by rw [hW, ← hbt]; exact Box.new (by simp)
      replace Ba : Box W3 (w.heap.size) [.int .i64 a.x, .int .i64 a.y] 23 := by rw [hW]; exact ((Ba).old _).old _
      replace Bb : Box W3 (w.heap.size + 1) [.int .i64 b.x, .int .i64 b.y] 23 := by rw [hW]; exact ((Bb).old _).old _
      replace Bc : Box W3 (w.heap.size + 1 + 1) [.int .i64 c.x, .int .i64 c.y] 23 := by rw [hW]; exact ((Bc).old _).old _
      replace hw : Below w.heap.size w W3 := by have hl := hw.size; rw [hW]; go_grown
      clear hW hbt
      clear xa ya za va xb yb zb vb xc yc zc vc
      focus
        refine wp_loop_rounds 6 ?_
        try rw [rounds_succ (n := 5)]
        obtain ⟨xa, ya, za, va⟩ := Ba.facts
        obtain ⟨xb, yb, zb, vb⟩ := Bb.facts
        obtain ⟨xc, yc, zc, vc⟩ := Bc.facts
        obtain ⟨xt, yt, zt, vt⟩ := Bt.facts
        obtain ⟨xl, yl, zl, vl⟩ := Bl.facts
        go_wp2_with fail
        refine at_world fun W4 hW => ?_
        replace hw : Below w.heap.size w W4 := by rw [hW]; exact hw
        replace Ba : Box W4 (w.heap.size) [.int .i64 a.x, .int .i64 a.y] 23 := by rw [hW]; exact Ba
        replace Bb : Box W4 (w.heap.size + 1) [.int .i64 b.x, .int .i64 b.y] 23 := by rw [hW]; exact Bb
        replace Bc : Box W4 (w.heap.size + 1 + 1) [.int .i64 c.x, .int .i64 c.y] 23 := by rw [hW]; exact Bc
        replace Bt : Box W4 (bkt) [.int .i64 0, .int .i64 0, .int .i64 0, .int .i64 0, .int .i64 0, .int .i64 0] 25 := by rw [hW]; exact Bt
        replace Bl : Box W4 (bkt + 1) [.int .i64 a.x, .int .i64 a.y, .int .i64 c.x, .int .i64 c.y, .int .i64 b.x, .int .i64 b.y, .int .i64 b.x, .int .i64 b.y, .int .i64 a.x, .int .i64 a.y, .int .i64 c.x, .int .i64 c.y, .int .i64 b.x, .int .i64 b.y, .int .i64 c.x, .int .i64 c.y, .int .i64 a.x, .int .i64 a.y, .int .i64 c.x, .int .i64 c.y, .int .i64 a.x, .int .i64 a.y, .int .i64 b.x, .int .i64 b.y, .int .i64 c.x, .int .i64 c.y, .int .i64 b.x, .int .i64 b.y, .int .i64 a.x, .int .i64 a.y] 29 := by rw [hW]; exact Bl
        clear hW
        clear xa ya za va xb yb zb vb xc yc zc vc xt yt zt vt xl yl zl vl
        focus
          have ga := Ba.cells
          have gb := Bb.cells
          have gc := Bc.cells
          have gt := Bt.cells
          have gl := Bl.cells
          refine wp_region_lateG2 16 11 63 [.int .i64 0, .int .i64 0, .int .i64 0, .int .i64 0, .int .i64 0, .int .i64 0] (zs := [.int .i64 0, .int .i64 0, .int .i64 0, .int .i64 0, .int .i64 0, .int .i64 0]) (eff := eff6 (.int .i64 0) (.int .i64 0) (.int .i64 0) (.int .i64 0) (.int .i64 0) (.int .i64 0)) eff6_spec rfl rfl rfl rfl rfl rfl rfl (by simp) (fun ρ W => by simp [execOp, go_sem]; rfl) (by kernel_rfl) (by as_aux_lemma => kernel_rfl) (C := fun w' => ∃ p : Regrown, w' = grow (redrawn W4 p.d) p.os) (fun w' h => regrown_of_below h) ?_ (fun ρ W b e1 e2 hB => by obtain ⟨x, y, _, _⟩ := hB.facts; simp [execOp, go_sem, e1, e2, x, y, eff6])
          simp only [List.take_succ_cons, List.take_zero, List.drop_succ_cons, List.drop_zero]
          repeat (first | (refine rWalk_skip (Eq.refl false) ?_; simp only [Act.put, List.setIfInBounds_toArray, List.set_cons_succ, List.set_cons_zero]) | (refine rWalk_step (fun K hK => ?_); go_simp; first | (refine hK _ ?_; clear hK K) | (apply Exists.intro; refine ⟨fun _ => ?_, hK _ ?_⟩; (first | with_reducible exact toExt m0 _); clear hK K)))
          refine rWalk_nil ⟨rfl, ?_⟩
          intro w5 bks0 hb h1b h2b Bs0
          have las0 := Ba.lt
          have lbs0 := Bb.lt
          have lcs0 := Bc.lt
          have lts0 := Bt.lt
          have lls0 := Bl.lt
          have hw0z := hw.size
          clear ga gb gc gt gl
          replace Ba := Ba.ext hb rfl
          replace Bb := Bb.ext hb rfl
          replace Bc := Bc.ext hb rfl
          replace Bt := Bt.ext hb rfl
          replace Bl := Bl.ext hb rfl
          replace hw := hw.trans (hb.mono hw.size)
          have fs0 := h1b
          have hwz : w.heap.size ≤ W4.heap.size := hw0z
          clear hb h1b h2b hw0z
          simp only [Act.put]
          focus
            obtain ⟨xa, ya, za, va⟩ := Ba.facts
            obtain ⟨xb, yb, zb, vb⟩ := Bb.facts
            obtain ⟨xc, yc, zc, vc⟩ := Bc.facts
            obtain ⟨xt, yt, zt, vt⟩ := Bt.facts
            obtain ⟨xl, yl, zl, vl⟩ := Bl.facts
            obtain ⟨xs0, ys0, zs0, vs0⟩ := Bs0.facts
            go_wp2_with fail
            clear xa ya za va xb yb zb vb xc yc zc vc xt yt zt vt xl yl zl vl xs0 ys0 zs0 vs0
            focus
              clear Bs0
              try rw [rounds_succ (n := 4)]
              obtain ⟨xa, ya, za, va⟩ := Ba.facts
              obtain ⟨xb, yb, zb, vb⟩ := Bb.facts
              obtain ⟨xc, yc, zc, vc⟩ := Bc.facts
              obtain ⟨xt, yt, zt, vt⟩ := Bt.facts
              obtain ⟨xl, yl, zl, vl⟩ := Bl.facts
              go_wp2_with fail
              refine at_world fun W6 hW => ?_
              replace hw : Below w.heap.size w W6 := by rw [hW]; exact hw
              replace Ba : Box W6 (w.heap.size) [.int .i64 a.x, .int .i64 a.y] 23 := by rw [hW]; exact Ba
              replace Bb : Box W6 (w.heap.size + 1) [.int .i64 b.x, .int .i64 b.y] 23 := by rw [hW]; exact Bb
              replace Bc : Box W6 (w.heap.size + 1 + 1) [.int .i64 c.x, .int .i64 c.y] 23 := by rw [hW]; exact Bc
              replace Bt : Box W6 (bkt) [.int .i64 0, .int .i64 0, .int .i64 0, .int .i64 0, .int .i64 0, .int .i64 0] 25 := by rw [hW]; exact Bt
              replace Bl : Box W6 (bkt + 1) [.int .i64 a.x, .int .i64 a.y, .int .i64 c.x, .int .i64 c.y, .int .i64 b.x, .int .i64 b.y, .int .i64 b.x, .int .i64 b.y, .int .i64 a.x, .int .i64 a.y, .int .i64 c.x, .int .i64 c.y, .int .i64 b.x, .int .i64 b.y, .int .i64 c.x, .int .i64 c.y, .int .i64 a.x, .int .i64 a.y, .int .i64 c.x, .int .i64 c.y, .int .i64 a.x, .int .i64 a.y, .int .i64 b.x, .int .i64 b.y, .int .i64 c.x, .int .i64 c.y, .int .i64 b.x, .int .i64 b.y, .int .i64 a.x, .int .i64 a.y] 29 := by rw [hW]; exact Bl
              clear hW
              clear xa ya za va xb yb zb vb xc yc zc vc xt yt zt vt xl yl zl vl
              focus
                have ga := Ba.cells
                have gb := Bb.cells
                have gc := Bc.cells
                have gt := Bt.cells
                have gl := Bl.cells
                refine wp_region_lateG2 16 11 63 [.int .i64 0, .int .i64 0, .int .i64 0, .int .i64 0, .int .i64 0, .int .i64 0] (zs := [.int .i64 0, .int .i64 0, .int .i64 0, .int .i64 0, .int .i64 0, .int .i64 0]) (eff := eff6 (.int .i64 0) (.int .i64 0) (.int .i64 0) (.int .i64 0) (.int .i64 0) (.int .i64 0)) eff6_spec rfl rfl rfl rfl rfl rfl rfl (by simp) (fun ρ W => by simp [execOp, go_sem]; rfl) (by kernel_rfl) (by as_aux_lemma => kernel_rfl) (C := fun w' => ∃ p : Regrown, w' = grow (redrawn W6 p.d) p.os) (fun w' h => regrown_of_below h) ?_ (fun ρ W b e1 e2 hB => by obtain ⟨x, y, _, _⟩ := hB.facts; simp [execOp, go_sem, e1, e2, x, y, eff6])
                simp only [List.take_succ_cons, List.take_zero, List.drop_succ_cons, List.drop_zero]
                repeat (first | (refine rWalk_skip (Eq.refl false) ?_; simp only [Act.put, List.setIfInBounds_toArray, List.set_cons_succ, List.set_cons_zero]) | (refine rWalk_step (fun K hK => ?_); go_simp; first | (refine hK _ ?_; clear hK K) | (apply Exists.intro; refine ⟨fun _ => ?_, hK _ ?_⟩; (first | with_reducible exact toExt m1 _); clear hK K)))
                refine rWalk_nil ⟨rfl, ?_⟩
                intro w7 bks1 hb h1b h2b Bs1
                have las1 := Ba.lt
                have lbs1 := Bb.lt
                have lcs1 := Bc.lt
                have lts1 := Bt.lt
                have lls1 := Bl.lt
                have hw0z := hw.size
                clear ga gb gc gt gl
                replace Ba := Ba.ext hb rfl
                replace Bb := Bb.ext hb rfl
                replace Bc := Bc.ext hb rfl
                replace Bt := Bt.ext hb rfl
                replace Bl := Bl.ext hb rfl
                replace hw := hw.trans (hb.mono hw.size)
                have fs1 := h1b
                have hwz : w.heap.size ≤ W6.heap.size := hw0z
                clear hb h1b h2b hw0z
                simp only [Act.put]
                focus
                  obtain ⟨xa, ya, za, va⟩ := Ba.facts
                  obtain ⟨xb, yb, zb, vb⟩ := Bb.facts
                  obtain ⟨xc, yc, zc, vc⟩ := Bc.facts
                  obtain ⟨xt, yt, zt, vt⟩ := Bt.facts
                  obtain ⟨xl, yl, zl, vl⟩ := Bl.facts
                  obtain ⟨xs1, ys1, zs1, vs1⟩ := Bs1.facts
                  go_wp2_with fail
                  clear xa ya za va xb yb zb vb xc yc zc vc xt yt zt vt xl yl zl vl xs1 ys1 zs1 vs1
                  focus
                    clear Bs1
                    try rw [rounds_succ (n := 3)]
                    obtain ⟨xa, ya, za, va⟩ := Ba.facts
                    obtain ⟨xb, yb, zb, vb⟩ := Bb.facts
                    obtain ⟨xc, yc, zc, vc⟩ := Bc.facts
                    obtain ⟨xt, yt, zt, vt⟩ := Bt.facts
                    obtain ⟨xl, yl, zl, vl⟩ := Bl.facts
                    go_wp2_with fail
                    refine at_world fun W8 hW => ?_
                    replace hw : Below w.heap.size w W8 := by rw [hW]; exact hw
                    replace Ba : Box W8 (w.heap.size) [.int .i64 a.x, .int .i64 a.y] 23 := by rw [hW]; exact Ba
                    replace Bb : Box W8 (w.heap.size + 1) [.int .i64 b.x, .int .i64 b.y] 23 := by rw [hW]; exact Bb
                    replace Bc : Box W8 (w.heap.size + 1 + 1) [.int .i64 c.x, .int .i64 c.y] 23 := by rw [hW]; exact Bc
                    replace Bt : Box W8 (bkt) [.int .i64 0, .int .i64 0, .int .i64 0, .int .i64 0, .int .i64 0, .int .i64 0] 25 := by rw [hW]; exact Bt
                    replace Bl : Box W8 (bkt + 1) [.int .i64 a.x, .int .i64 a.y, .int .i64 c.x, .int .i64 c.y, .int .i64 b.x, .int .i64 b.y, .int .i64 b.x, .int .i64 b.y, .int .i64 a.x, .int .i64 a.y, .int .i64 c.x, .int .i64 c.y, .int .i64 b.x, .int .i64 b.y, .int .i64 c.x, .int .i64 c.y, .int .i64 a.x, .int .i64 a.y, .int .i64 c.x, .int .i64 c.y, .int .i64 a.x, .int .i64 a.y, .int .i64 b.x, .int .i64 b.y, .int .i64 c.x, .int .i64 c.y, .int .i64 b.x, .int .i64 b.y, .int .i64 a.x, .int .i64 a.y] 29 := by rw [hW]; exact Bl
                    clear hW
                    clear xa ya za va xb yb zb vb xc yc zc vc xt yt zt vt xl yl zl vl
                    focus
                      have ga := Ba.cells
                      have gb := Bb.cells
                      have gc := Bc.cells
                      have gt := Bt.cells
                      have gl := Bl.cells
                      refine wp_region_lateG2 16 11 63 [.int .i64 0, .int .i64 0, .int .i64 0, .int .i64 0, .int .i64 0, .int .i64 0] (zs := [.int .i64 0, .int .i64 0, .int .i64 0, .int .i64 0, .int .i64 0, .int .i64 0]) (eff := eff6 (.int .i64 0) (.int .i64 0) (.int .i64 0) (.int .i64 0) (.int .i64 0) (.int .i64 0)) eff6_spec rfl rfl rfl rfl rfl rfl rfl (by simp) (fun ρ W => by simp [execOp, go_sem]; rfl) (by kernel_rfl) (by as_aux_lemma => kernel_rfl) (C := fun w' => ∃ p : Regrown, w' = grow (redrawn W8 p.d) p.os) (fun w' h => regrown_of_below h) ?_ (fun ρ W b e1 e2 hB => by obtain ⟨x, y, _, _⟩ := hB.facts; simp [execOp, go_sem, e1, e2, x, y, eff6])
                      simp only [List.take_succ_cons, List.take_zero, List.drop_succ_cons, List.drop_zero]
                      repeat (first | (refine rWalk_skip (Eq.refl false) ?_; simp only [Act.put, List.setIfInBounds_toArray, List.set_cons_succ, List.set_cons_zero]) | (refine rWalk_step (fun K hK => ?_); go_simp; first | (refine hK _ ?_; clear hK K) | (apply Exists.intro; refine ⟨fun _ => ?_, hK _ ?_⟩; (first | with_reducible exact toExt m2 _); clear hK K)))
                      refine rWalk_nil ⟨rfl, ?_⟩
                      intro w9 bks2 hb h1b h2b Bs2
                      have las2 := Ba.lt
                      have lbs2 := Bb.lt
                      have lcs2 := Bc.lt
                      have lts2 := Bt.lt
                      have lls2 := Bl.lt
                      have hw0z := hw.size
                      clear ga gb gc gt gl
                      replace Ba := Ba.ext hb rfl
                      replace Bb := Bb.ext hb rfl
                      replace Bc := Bc.ext hb rfl
                      replace Bt := Bt.ext hb rfl
                      replace Bl := Bl.ext hb rfl
                      replace hw := hw.trans (hb.mono hw.size)
                      have fs2 := h1b
                      have hwz : w.heap.size ≤ W8.heap.size := hw0z
                      clear hb h1b h2b hw0z
                      simp only [Act.put]
                      focus
                        obtain ⟨xa, ya, za, va⟩ := Ba.facts
                        obtain ⟨xb, yb, zb, vb⟩ := Bb.facts
                        obtain ⟨xc, yc, zc, vc⟩ := Bc.facts
                        obtain ⟨xt, yt, zt, vt⟩ := Bt.facts
                        obtain ⟨xl, yl, zl, vl⟩ := Bl.facts
                        obtain ⟨xs2, ys2, zs2, vs2⟩ := Bs2.facts
                        go_wp2_with fail
                        clear xa ya za va xb yb zb vb xc yc zc vc xt yt zt vt xl yl zl vl xs2 ys2 zs2 vs2
                        focus
                          clear Bs2
                          try rw [rounds_succ (n := 2)]
                          obtain ⟨xa, ya, za, va⟩ := Ba.facts
                          obtain ⟨xb, yb, zb, vb⟩ := Bb.facts
                          obtain ⟨xc, yc, zc, vc⟩ := Bc.facts
                          obtain ⟨xt, yt, zt, vt⟩ := Bt.facts
                          obtain ⟨xl, yl, zl, vl⟩ := Bl.facts
                          go_wp2_with fail
                          refine at_world fun W10 hW => ?_
                          replace hw : Below w.heap.size w W10 := by rw [hW]; exact hw
                          replace Ba : Box W10 (w.heap.size) [.int .i64 a.x, .int .i64 a.y] 23 := by rw [hW]; exact Ba
                          replace Bb : Box W10 (w.heap.size + 1) [.int .i64 b.x, .int .i64 b.y] 23 := by rw [hW]; exact Bb
                          replace Bc : Box W10 (w.heap.size + 1 + 1) [.int .i64 c.x, .int .i64 c.y] 23 := by rw [hW]; exact Bc
                          replace Bt : Box W10 (bkt) [.int .i64 0, .int .i64 0, .int .i64 0, .int .i64 0, .int .i64 0, .int .i64 0] 25 := by rw [hW]; exact Bt
                          replace Bl : Box W10 (bkt + 1) [.int .i64 a.x, .int .i64 a.y, .int .i64 c.x, .int .i64 c.y, .int .i64 b.x, .int .i64 b.y, .int .i64 b.x, .int .i64 b.y, .int .i64 a.x, .int .i64 a.y, .int .i64 c.x, .int .i64 c.y, .int .i64 b.x, .int .i64 b.y, .int .i64 c.x, .int .i64 c.y, .int .i64 a.x, .int .i64 a.y, .int .i64 c.x, .int .i64 c.y, .int .i64 a.x, .int .i64 a.y, .int .i64 b.x, .int .i64 b.y, .int .i64 c.x, .int .i64 c.y, .int .i64 b.x, .int .i64 b.y, .int .i64 a.x, .int .i64 a.y] 29 := by rw [hW]; exact Bl
                          clear hW
                          clear xa ya za va xb yb zb vb xc yc zc vc xt yt zt vt xl yl zl vl
                          focus
                            have ga := Ba.cells
                            have gb := Bb.cells
                            have gc := Bc.cells
                            have gt := Bt.cells
                            have gl := Bl.cells
                            refine wp_region_lateG2 16 11 63 [.int .i64 0, .int .i64 0, .int .i64 0, .int .i64 0, .int .i64 0, .int .i64 0] (zs := [.int .i64 0, .int .i64 0, .int .i64 0, .int .i64 0, .int .i64 0, .int .i64 0]) (eff := eff6 (.int .i64 0) (.int .i64 0) (.int .i64 0) (.int .i64 0) (.int .i64 0) (.int .i64 0)) eff6_spec rfl rfl rfl rfl rfl rfl rfl (by simp) (fun ρ W => by simp [execOp, go_sem]; rfl) (by kernel_rfl) (by as_aux_lemma => kernel_rfl) (C := fun w' => ∃ p : Regrown, w' = grow (redrawn W10 p.d) p.os) (fun w' h => regrown_of_below h) ?_ (fun ρ W b e1 e2 hB => by obtain ⟨x, y, _, _⟩ := hB.facts; simp [execOp, go_sem, e1, e2, x, y, eff6])
                            simp only [List.take_succ_cons, List.take_zero, List.drop_succ_cons, List.drop_zero]
                            repeat (first | (refine rWalk_skip (Eq.refl false) ?_; simp only [Act.put, List.setIfInBounds_toArray, List.set_cons_succ, List.set_cons_zero]) | (refine rWalk_step (fun K hK => ?_); go_simp; first | (refine hK _ ?_; clear hK K) | (apply Exists.intro; refine ⟨fun _ => ?_, hK _ ?_⟩; (first | with_reducible exact toExt m3 _); clear hK K)))
                            refine rWalk_nil ⟨rfl, ?_⟩
                            intro w11 bks3 hb h1b h2b Bs3
                            have las3 := Ba.lt
                            have lbs3 := Bb.lt
                            have lcs3 := Bc.lt
                            have lts3 := Bt.lt
                            have lls3 := Bl.lt
                            have hw0z := hw.size
                            clear ga gb gc gt gl
                            replace Ba := Ba.ext hb rfl
                            replace Bb := Bb.ext hb rfl
                            replace Bc := Bc.ext hb rfl
                            replace Bt := Bt.ext hb rfl
                            replace Bl := Bl.ext hb rfl
                            replace hw := hw.trans (hb.mono hw.size)
                            have fs3 := h1b
                            have hwz : w.heap.size ≤ W10.heap.size := hw0z
                            clear hb h1b h2b hw0z
                            simp only [Act.put]
                            focus
                              obtain ⟨xa, ya, za, va⟩ := Ba.facts
                              obtain ⟨xb, yb, zb, vb⟩ := Bb.facts
                              obtain ⟨xc, yc, zc, vc⟩ := Bc.facts
                              obtain ⟨xt, yt, zt, vt⟩ := Bt.facts
                              obtain ⟨xl, yl, zl, vl⟩ := Bl.facts
                              obtain ⟨xs3, ys3, zs3, vs3⟩ := Bs3.facts
                              go_wp2_with fail
                              clear xa ya za va xb yb zb vb xc yc zc vc xt yt zt vt xl yl zl vl xs3 ys3 zs3 vs3
                              focus
                                clear Bs3
                                try rw [rounds_succ (n := 1)]
                                obtain ⟨xa, ya, za, va⟩ := Ba.facts
                                obtain ⟨xb, yb, zb, vb⟩ := Bb.facts
                                obtain ⟨xc, yc, zc, vc⟩ := Bc.facts
                                obtain ⟨xt, yt, zt, vt⟩ := Bt.facts
                                obtain ⟨xl, yl, zl, vl⟩ := Bl.facts
                                go_wp2_with fail
                                refine at_world fun W12 hW => ?_
                                replace hw : Below w.heap.size w W12 := by rw [hW]; exact hw
                                replace Ba : Box W12 (w.heap.size) [.int .i64 a.x, .int .i64 a.y] 23 := by rw [hW]; exact Ba
                                replace Bb : Box W12 (w.heap.size + 1) [.int .i64 b.x, .int .i64 b.y] 23 := by rw [hW]; exact Bb
                                replace Bc : Box W12 (w.heap.size + 1 + 1) [.int .i64 c.x, .int .i64 c.y] 23 := by rw [hW]; exact Bc
                                replace Bt : Box W12 (bkt) [.int .i64 0, .int .i64 0, .int .i64 0, .int .i64 0, .int .i64 0, .int .i64 0] 25 := by rw [hW]; exact Bt
                                replace Bl : Box W12 (bkt + 1) [.int .i64 a.x, .int .i64 a.y, .int .i64 c.x, .int .i64 c.y, .int .i64 b.x, .int .i64 b.y, .int .i64 b.x, .int .i64 b.y, .int .i64 a.x, .int .i64 a.y, .int .i64 c.x, .int .i64 c.y, .int .i64 b.x, .int .i64 b.y, .int .i64 c.x, .int .i64 c.y, .int .i64 a.x, .int .i64 a.y, .int .i64 c.x, .int .i64 c.y, .int .i64 a.x, .int .i64 a.y, .int .i64 b.x, .int .i64 b.y, .int .i64 c.x, .int .i64 c.y, .int .i64 b.x, .int .i64 b.y, .int .i64 a.x, .int .i64 a.y] 29 := by rw [hW]; exact Bl
                                clear hW
                                clear xa ya za va xb yb zb vb xc yc zc vc xt yt zt vt xl yl zl vl
                                focus
                                  have ga := Ba.cells
                                  have gb := Bb.cells
                                  have gc := Bc.cells
                                  have gt := Bt.cells
                                  have gl := Bl.cells
                                  refine wp_region_lateG2 16 11 63 [.int .i64 0, .int .i64 0, .int .i64 0, .int .i64 0, .int .i64 0, .int .i64 0] (zs := [.int .i64 0, .int .i64 0, .int .i64 0, .int .i64 0, .int .i64 0, .int .i64 0]) (eff := eff6 (.int .i64 0) (.int .i64 0) (.int .i64 0) (.int .i64 0) (.int .i64 0) (.int .i64 0)) eff6_spec rfl rfl rfl rfl rfl rfl rfl (by simp) (fun ρ W => by simp [execOp, go_sem]; rfl) (by kernel_rfl) (by as_aux_lemma => kernel_rfl) (C := fun w' => ∃ p : Regrown, w' = grow (redrawn W12 p.d) p.os) (fun w' h => regrown_of_below h) ?_ (fun ρ W b e1 e2 hB => by obtain ⟨x, y, _, _⟩ := hB.facts; simp [execOp, go_sem, e1, e2, x, y, eff6])
                                  simp only [List.take_succ_cons, List.take_zero, List.drop_succ_cons, List.drop_zero]
                                  repeat (first | (refine rWalk_skip (Eq.refl false) ?_; simp only [Act.put, List.setIfInBounds_toArray, List.set_cons_succ, List.set_cons_zero]) | (refine rWalk_step (fun K hK => ?_); go_simp; first | (refine hK _ ?_; clear hK K) | (apply Exists.intro; refine ⟨fun _ => ?_, hK _ ?_⟩; (first | with_reducible exact toExt m4 _); clear hK K)))
                                  refine rWalk_nil ⟨rfl, ?_⟩
                                  intro w13 bks4 hb h1b h2b Bs4
                                  have las4 := Ba.lt
                                  have lbs4 := Bb.lt
                                  have lcs4 := Bc.lt
                                  have lts4 := Bt.lt
                                  have lls4 := Bl.lt
                                  have hw0z := hw.size
                                  clear ga gb gc gt gl
                                  replace Ba := Ba.ext hb rfl
                                  replace Bb := Bb.ext hb rfl
                                  replace Bc := Bc.ext hb rfl
                                  replace Bt := Bt.ext hb rfl
                                  replace Bl := Bl.ext hb rfl
                                  replace hw := hw.trans (hb.mono hw.size)
                                  have fs4 := h1b
                                  have hwz : w.heap.size ≤ W12.heap.size := hw0z
                                  clear hb h1b h2b hw0z
                                  simp only [Act.put]
                                  focus
                                    obtain ⟨xa, ya, za, va⟩ := Ba.facts
                                    obtain ⟨xb, yb, zb, vb⟩ := Bb.facts
                                    obtain ⟨xc, yc, zc, vc⟩ := Bc.facts
                                    obtain ⟨xt, yt, zt, vt⟩ := Bt.facts
                                    obtain ⟨xl, yl, zl, vl⟩ := Bl.facts
                                    obtain ⟨xs4, ys4, zs4, vs4⟩ := Bs4.facts
                                    go_wp2_with fail
                                    clear xa ya za va xb yb zb vb xc yc zc vc xt yt zt vt xl yl zl vl xs4 ys4 zs4 vs4
                                    focus
                                      clear Bs4
                                      clear Bl
                                      try rw [rounds_succ (n := 0)]
                                      obtain ⟨xa, ya, za, va⟩ := Ba.facts
                                      obtain ⟨xb, yb, zb, vb⟩ := Bb.facts
                                      obtain ⟨xc, yc, zc, vc⟩ := Bc.facts
                                      obtain ⟨xt, yt, zt, vt⟩ := Bt.facts
                                      go_wp2_with fail
                                      refine (co _).mono ?_
                                      rintro e w14 ⟨rfl, hb⟩
                                      clear xa ya za va xb yb zb vb xc yc zc vc xt yt zt vt
                                      replace Ba := Ba.ext hb rfl
                                      replace Bb := Bb.ext hb rfl
                                      replace Bc := Bc.ext hb rfl
                                      replace Bt := Bt.ext hb rfl
                                      replace hw := hw.trans (hb.mono hw.size)
                                      clear hb
                                      obtain ⟨xa, ya, za, va⟩ := Ba.facts
                                      obtain ⟨xb, yb, zb, vb⟩ := Bb.facts
                                      obtain ⟨xc, yc, zc, vc⟩ := Bc.facts
                                      obtain ⟨xt, yt, zt, vt⟩ := Bt.facts
                                      go_wp2_with fail
                                      refine (awake_any _).mono ?_
                                      rintro e w15 ⟨rfl, hb⟩
                                      clear xa ya za va xb yb zb vb xc yc zc vc xt yt zt vt
                                      replace Ba := Ba.ext hb rfl
                                      replace Bb := Bb.ext hb rfl
                                      replace Bc := Bc.ext hb rfl
                                      replace Bt := Bt.ext hb rfl
                                      replace hw := hw.trans (hb.mono hw.size)
                                      clear hb
                                      go_wp2
                                      go_ret
                                      exact ⟨rfl, hw⟩

end Go.Proofs.Ytijdbddjhnjcdaa
