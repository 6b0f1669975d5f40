/- The contracts of package reach's leastSide, through, onEdge, Along, corners and Overlaps, over the program. -/
import Derived.Test.YtomdlhdpbdkdhaaRows
import Derived.Test.YtomdlhdpbdkdhaaReA
import Derived.Test.YtomdlhdpbdkdhaaPost
import Derived.WalkKit
import Derived.WalkSpells
import Derived.WalkLawsBesides
import Derived.Laws.Externs
import Derived.Deep.QuietTactic
import Derived.BigQuiet
import Derived.Lib.Hide
import Derived.Handy
import Derived.LoopN
import Derived.RegionTactic
import Derived.Deep.RegionHeld3
import Derived.Test.YtomdlhdpbdkdhaaExI
namespace Go.Proofs.Ytomdlhdpbdkdhaa
open Go.RowKit Go.Sort
attribute [local go_sem] rOper rAt rUpon cell_set sg_i64 sg_u64 alloc_cell alloc_frozen
attribute [local go_sem 10000] pt_eql pt_neq tri_eql run_mnA run_mxA run_mn2 run_mx2
attribute [local irreducible] rWalk

def ls2 (T : Tri3) (a b : Pt) : Int := mn2 (mn2 (mn2 1 (lm2 T.A T.B a b)) (lm2 T.B T.C a b)) (lm2 T.C T.A a b)
set_option maxHeartbeats 1000000 in
theorem ls2_any (T : Tri3) (a b : Pt) (w : World) (bk : Nat) (hB : Box w bk [.int .i64 a.x, .int .i64 a.y, .int .i64 b.x, .int .i64 b.y] 23) :
    Calls Try.prog 35 #[.agg #[.int .i64 T.A.x, .int .i64 T.A.y, .int .i64 T.B.x, .int .i64 T.B.y, .int .i64 T.C.x, .int .i64 T.C.y], .slice (some ⟨bk, 0, none⟩) 2 2] w fun e w' => e = .returned (.int .i64 (ls2 T a b)) ∧ Below w.heap.size w w' := by
  have e0 := edge_any T 0
  rw [show crn T 0 = T.A from rfl, show crn T (0 + 1) = T.B from rfl] at e0
  have e1 := edge_any T 1
  rw [show crn T 1 = T.B from rfl, show crn T (1 + 1) = T.C from rfl] at e1
  have e2 := edge_any T 2
  rw [show crn T 2 = T.C from rfl, show crn T (2 + 1) = T.A from rfl] at e2
  have l0 := lm2_any T.A T.B a b
  have l1 := lm2_any T.B T.C a b
  have l2 := lm2_any T.C T.A a b
  unfold ls2
  generalize lm2 T.A T.B a b = m0 at *
  generalize lm2 T.B T.C a b = m1 at *
  generalize lm2 T.C T.A a b = m2 at *
  have Bl := hB; clear hB
  obtain ⟨xl, yl, zl, vl⟩ := Bl.facts
  have hw := Below.refl w.heap.size w
  go_enter Try.func35, Try.ntmps35
  go_wp2_with fail
  refine at_world fun W1 hW => ?_
  obtain ⟨bkt, hbt⟩ : ∃ b, w.heap.size = b := ⟨_, rfl⟩
  rw [hbt]
  have llt := Bl.lt
  rw [hbt] at llt
  have ft := hw.size
  rw [hbt] at ft
  have Bt : Box W1 bkt [.int .i64 T.A.x, .int .i64 T.A.y, .int .i64 T.B.x, .int .i64 T.B.y, .int .i64 T.C.x, .int .i64 T.C.y] 25 := by rw [hW]; exact Box.new hbt.symm
  replace Bl : Box W1 (bk) [.int .i64 a.x, .int .i64 a.y, .int .i64 b.x, .int .i64 b.y] 23 := by rw [hW]; exact Bl.old _
  replace hw : Below w.heap.size w W1 := by have hl := hw.size; rw [hW]; go_grown
  clear hW hbt
  refine wp_loop_rounds 5 ?_
  try rw [rounds_succ]
  obtain ⟨xl, yl, zl, vl⟩ := Bl.facts
  obtain ⟨xt, yt, zt, vt⟩ := Bt.facts
  go_wp2_with fail
  refine (e0 _).mono ?_
  rintro e w2 ⟨rfl, hb⟩
  clear xl yl zl vl xt yt zt vt
  replace Bl := Bl.ext hb rfl
  replace Bt := Bt.ext hb rfl
  replace hw := hw.trans (hb.mono hw.size)
  clear hb
  obtain ⟨xl, yl, zl, vl⟩ := Bl.facts
  obtain ⟨xt, yt, zt, vt⟩ := Bt.facts
  go_wp2_with fail
  refine at_call fun W3 hW => ?_
  obtain ⟨bkp0, hbp0⟩ : ∃ b, w2.heap.size = b := ⟨_, rfl⟩
  rw [hbp0]
  have llp0 := Bl.lt
  rw [hbp0] at llp0
  have ltp0 := Bt.lt
  rw [hbp0] at ltp0
  have fp0 := hw.size
  rw [hbp0] at fp0
  have Bp0 : Box W3 (bkp0) [.int .i64 T.A.x, .int .i64 T.A.y] 23 := by rw [hW, ← hbp0]; exact (Box.new rfl).old _
  have Bq0 : Box W3 (bkp0 + 1) [.int .i64 T.B.x, .int .i64 T.B.y] 23 := by rw [hW, ← hbp0]; exact Box.new (by simp)
  replace Bl : Box W3 (bk) [.int .i64 a.x, .int .i64 a.y, .int .i64 b.x, .int .i64 b.y] 23 := by rw [hW]; exact ((Bl).old _).old _
  replace Bt : Box W3 (bkt) [.int .i64 T.A.x, .int .i64 T.A.y, .int .i64 T.B.x, .int .i64 T.B.y, .int .i64 T.C.x, .int .i64 T.C.y] 25 := by rw [hW]; exact ((Bt).old _).old _
  replace hw : Below w.heap.size w W3 := by have hl := hw.size; rw [hW]; go_grown
  clear hW hbp0
  refine (l0 _ bk Bl).mono ?_
  rintro e w4 ⟨rfl, hb⟩
  clear xl yl zl vl xt yt zt vt
  replace Bl := Bl.ext hb rfl
  replace Bt := Bt.ext hb rfl
  replace Bp0 := Bp0.ext hb rfl
  replace Bq0 := Bq0.ext hb rfl
  replace hw := hw.trans (hb.mono hw.size)
  clear hb
  clear Bp0
  clear Bq0
  obtain ⟨xl, yl, zl, vl⟩ := Bl.facts
  obtain ⟨xt, yt, zt, vt⟩ := Bt.facts
  go_wp2_with fail
  try rw [rounds_succ]
  go_wp2_with fail
  refine (e1 _).mono ?_
  rintro e w5 ⟨rfl, hb⟩
  clear xl yl zl vl xt yt zt vt
  replace Bl := Bl.ext hb rfl
  replace Bt := Bt.ext hb rfl
  replace hw := hw.trans (hb.mono hw.size)
  clear hb
  obtain ⟨xl, yl, zl, vl⟩ := Bl.facts
  obtain ⟨xt, yt, zt, vt⟩ := Bt.facts
  go_wp2_with fail
  refine at_call fun W6 hW => ?_
  obtain ⟨bkp1, hbp1⟩ : ∃ b, w5.heap.size = b := ⟨_, rfl⟩
  rw [hbp1]
  have llp1 := Bl.lt
  rw [hbp1] at llp1
  have ltp1 := Bt.lt
  rw [hbp1] at ltp1
  have fp1 := hw.size
  rw [hbp1] at fp1
  have Bp1 : Box W6 (bkp1) [.int .i64 T.B.x, .int .i64 T.B.y] 23 := by rw [hW, ← hbp1]; exact (Box.new rfl).old _
  have Bq1 : Box W6 (bkp1 + 1) [.int .i64 T.C.x, .int .i64 T.C.y] 23 := by rw [hW, ← hbp1]; exact Box.new (by simp)
  replace Bl : Box W6 (bk) [.int .i64 a.x, .int .i64 a.y, .int .i64 b.x, .int .i64 b.y] 23 := by rw [hW]; exact ((Bl).old _).old _
  replace Bt : Box W6 (bkt) [.int .i64 T.A.x, .int .i64 T.A.y, .int .i64 T.B.x, .int .i64 T.B.y, .int .i64 T.C.x, .int .i64 T.C.y] 25 := by rw [hW]; exact ((Bt).old _).old _
  replace hw : Below w.heap.size w W6 := by have hl := hw.size; rw [hW]; go_grown
  clear hW hbp1
  refine (l1 _ bk Bl).mono ?_
  rintro e w7 ⟨rfl, hb⟩
  clear xl yl zl vl xt yt zt vt
  replace Bl := Bl.ext hb rfl
  replace Bt := Bt.ext hb rfl
  replace Bp1 := Bp1.ext hb rfl
  replace Bq1 := Bq1.ext hb rfl
  replace hw := hw.trans (hb.mono hw.size)
  clear hb
  clear Bp1
  clear Bq1
  obtain ⟨xl, yl, zl, vl⟩ := Bl.facts
  obtain ⟨xt, yt, zt, vt⟩ := Bt.facts
  go_wp2_with fail
  try rw [rounds_succ]
  go_wp2_with fail
  refine (e2 _).mono ?_
  rintro e w8 ⟨rfl, hb⟩
  clear xl yl zl vl xt yt zt vt
  replace Bl := Bl.ext hb rfl
  replace Bt := Bt.ext hb rfl
  replace hw := hw.trans (hb.mono hw.size)
  clear hb
  obtain ⟨xl, yl, zl, vl⟩ := Bl.facts
  obtain ⟨xt, yt, zt, vt⟩ := Bt.facts
  go_wp2_with fail
  refine at_call fun W9 hW => ?_
  obtain ⟨bkp2, hbp2⟩ : ∃ b, w8.heap.size = b := ⟨_, rfl⟩
  rw [hbp2]
  have llp2 := Bl.lt
  rw [hbp2] at llp2
  have ltp2 := Bt.lt
  rw [hbp2] at ltp2
  have fp2 := hw.size
  rw [hbp2] at fp2
  have Bp2 : Box W9 (bkp2) [.int .i64 T.C.x, .int .i64 T.C.y] 23 := by rw [hW, ← hbp2]; exact (Box.new rfl).old _
  have Bq2 : Box W9 (bkp2 + 1) [.int .i64 T.A.x, .int .i64 T.A.y] 23 := by rw [hW, ← hbp2]; exact Box.new (by simp)
  replace Bl : Box W9 (bk) [.int .i64 a.x, .int .i64 a.y, .int .i64 b.x, .int .i64 b.y] 23 := by rw [hW]; exact ((Bl).old _).old _
  replace Bt : Box W9 (bkt) [.int .i64 T.A.x, .int .i64 T.A.y, .int .i64 T.B.x, .int .i64 T.B.y, .int .i64 T.C.x, .int .i64 T.C.y] 25 := by rw [hW]; exact ((Bt).old _).old _
  replace hw : Below w.heap.size w W9 := by have hl := hw.size; rw [hW]; go_grown
  clear hW hbp2
  refine (l2 _ bk Bl).mono ?_
  rintro e w10 ⟨rfl, hb⟩
  clear xl yl zl vl xt yt zt vt
  replace Bl := Bl.ext hb rfl
  replace Bt := Bt.ext hb rfl
  replace Bp2 := Bp2.ext hb rfl
  replace Bq2 := Bq2.ext hb rfl
  replace hw := hw.trans (hb.mono hw.size)
  clear hb
  clear Bp2
  clear Bq2
  obtain ⟨xl, yl, zl, vl⟩ := Bl.facts
  obtain ⟨xt, yt, zt, vt⟩ := Bt.facts
  go_wp2_with fail
  try rw [rounds_succ]
  go_wp2
  go_ret
  exact ⟨rfl, by have hl := hw.size; go_grown⟩

def ls4 (T : Tri3) (a b c d : Pt) : Int := mn2 (mn2 (mn2 1 (lm4 T.A T.B a b c d)) (lm4 T.B T.C a b c d)) (lm4 T.C T.A a b c d)
set_option maxHeartbeats 1000000 in
theorem ls4_any (T : Tri3) (a b c d : Pt) (w : World) (bk : Nat) (hB : Box w bk [.int .i64 a.x, .int .i64 a.y, .int .i64 b.x, .int .i64 b.y, .int .i64 c.x, .int .i64 c.y, .int .i64 d.x, .int .i64 d.y] 23) :
    Calls Try.prog 35 #[.agg #[.int .i64 T.A.x, .int .i64 T.A.y, .int .i64 T.B.x, .int .i64 T.B.y, .int .i64 T.C.x, .int .i64 T.C.y], .slice (some ⟨bk, 0, none⟩) 4 4] w fun e w' => e = .returned (.int .i64 (ls4 T a b c d)) ∧ Below w.heap.size w w' := by
  have e0 := edge_any T 0
  rw [show crn T 0 = T.A from rfl, show crn T (0 + 1) = T.B from rfl] at e0
  have e1 := edge_any T 1
  rw [show crn T 1 = T.B from rfl, show crn T (1 + 1) = T.C from rfl] at e1
  have e2 := edge_any T 2
  rw [show crn T 2 = T.C from rfl, show crn T (2 + 1) = T.A from rfl] at e2
  have l0 := lm4_any T.A T.B a b c d
  have l1 := lm4_any T.B T.C a b c d
  have l2 := lm4_any T.C T.A a b c d
  unfold ls4
  generalize lm4 T.A T.B a b c d = m0 at *
  generalize lm4 T.B T.C a b c d = m1 at *
  generalize lm4 T.C T.A a b c d = m2 at *
  have Bl := hB; clear hB
  obtain ⟨xl, yl, zl, vl⟩ := Bl.facts
  have hw := Below.refl w.heap.size w
  go_enter Try.func35, Try.ntmps35
  go_wp2_with fail
  refine at_world fun W1 hW => ?_
  obtain ⟨bkt, hbt⟩ : ∃ b, w.heap.size = b := ⟨_, rfl⟩
  rw [hbt]
  have llt := Bl.lt
  rw [hbt] at llt
  have ft := hw.size
  rw [hbt] at ft
  have Bt : Box W1 bkt [.int .i64 T.A.x, .int .i64 T.A.y, .int .i64 T.B.x, .int .i64 T.B.y, .int .i64 T.C.x, .int .i64 T.C.y] 25 := by rw [hW]; exact Box.new hbt.symm
  replace Bl : Box W1 (bk) [.int .i64 a.x, .int .i64 a.y, .int .i64 b.x, .int .i64 b.y, .int .i64 c.x, .int .i64 c.y, .int .i64 d.x, .int .i64 d.y] 23 := by rw [hW]; exact Bl.old _
  replace hw : Below w.heap.size w W1 := by have hl := hw.size; rw [hW]; go_grown
  clear hW hbt
  refine wp_loop_rounds 5 ?_
  try rw [rounds_succ]
  obtain ⟨xl, yl, zl, vl⟩ := Bl.facts
  obtain ⟨xt, yt, zt, vt⟩ := Bt.facts
  go_wp2_with fail
  refine (e0 _).mono ?_
  rintro e w2 ⟨rfl, hb⟩
  clear xl yl zl vl xt yt zt vt
  replace Bl := Bl.ext hb rfl
  replace Bt := Bt.ext hb rfl
  replace hw := hw.trans (hb.mono hw.size)
  clear hb
  obtain ⟨xl, yl, zl, vl⟩ := Bl.facts
  obtain ⟨xt, yt, zt, vt⟩ := Bt.facts
  go_wp2_with fail
  refine at_call fun W3 hW => ?_
  obtain ⟨bkp0, hbp0⟩ : ∃ b, w2.heap.size = b := ⟨_, rfl⟩
  rw [hbp0]
  have llp0 := Bl.lt
  rw [hbp0] at llp0
  have ltp0 := Bt.lt
  rw [hbp0] at ltp0
  have fp0 := hw.size
  rw [hbp0] at fp0
  have Bp0 : Box W3 (bkp0) [.int .i64 T.A.x, .int .i64 T.A.y] 23 := by rw [hW, ← hbp0]; exact (Box.new rfl).old _
  have Bq0 : Box W3 (bkp0 + 1) [.int .i64 T.B.x, .int .i64 T.B.y] 23 := by rw [hW, ← hbp0]; exact Box.new (by simp)
  replace Bl : Box W3 (bk) [.int .i64 a.x, .int .i64 a.y, .int .i64 b.x, .int .i64 b.y, .int .i64 c.x, .int .i64 c.y, .int .i64 d.x, .int .i64 d.y] 23 := by rw [hW]; exact ((Bl).old _).old _
  replace Bt : Box W3 (bkt) [.int .i64 T.A.x, .int .i64 T.A.y, .int .i64 T.B.x, .int .i64 T.B.y, .int .i64 T.C.x, .int .i64 T.C.y] 25 := by rw [hW]; exact ((Bt).old _).old _
  replace hw : Below w.heap.size w W3 := by have hl := hw.size; rw [hW]; go_grown
  clear hW hbp0
  refine (l0 _ bk Bl).mono ?_
  rintro e w4 ⟨rfl, hb⟩
  clear xl yl zl vl xt yt zt vt
  replace Bl := Bl.ext hb rfl
  replace Bt := Bt.ext hb rfl
  replace Bp0 := Bp0.ext hb rfl
  replace Bq0 := Bq0.ext hb rfl
  replace hw := hw.trans (hb.mono hw.size)
  clear hb
  clear Bp0
  clear Bq0
  obtain ⟨xl, yl, zl, vl⟩ := Bl.facts
  obtain ⟨xt, yt, zt, vt⟩ := Bt.facts
  go_wp2_with fail
  try rw [rounds_succ]
  go_wp2_with fail
  refine (e1 _).mono ?_
  rintro e w5 ⟨rfl, hb⟩
  clear xl yl zl vl xt yt zt vt
  replace Bl := Bl.ext hb rfl
  replace Bt := Bt.ext hb rfl
  replace hw := hw.trans (hb.mono hw.size)
  clear hb
  obtain ⟨xl, yl, zl, vl⟩ := Bl.facts
  obtain ⟨xt, yt, zt, vt⟩ := Bt.facts
  go_wp2_with fail
  refine at_call fun W6 hW => ?_
  obtain ⟨bkp1, hbp1⟩ : ∃ b, w5.heap.size = b := ⟨_, rfl⟩
  rw [hbp1]
  have llp1 := Bl.lt
  rw [hbp1] at llp1
  have ltp1 := Bt.lt
  rw [hbp1] at ltp1
  have fp1 := hw.size
  rw [hbp1] at fp1
  have Bp1 : Box W6 (bkp1) [.int .i64 T.B.x, .int .i64 T.B.y] 23 := by rw [hW, ← hbp1]; exact (Box.new rfl).old _
  have Bq1 : Box W6 (bkp1 + 1) [.int .i64 T.C.x, .int .i64 T.C.y] 23 := by rw [hW, ← hbp1]; exact Box.new (by simp)
  replace Bl : Box W6 (bk) [.int .i64 a.x, .int .i64 a.y, .int .i64 b.x, .int .i64 b.y, .int .i64 c.x, .int .i64 c.y, .int .i64 d.x, .int .i64 d.y] 23 := by rw [hW]; exact ((Bl).old _).old _
  replace Bt : Box W6 (bkt) [.int .i64 T.A.x, .int .i64 T.A.y, .int .i64 T.B.x, .int .i64 T.B.y, .int .i64 T.C.x, .int .i64 T.C.y] 25 := by rw [hW]; exact ((Bt).old _).old _
  replace hw : Below w.heap.size w W6 := by have hl := hw.size; rw [hW]; go_grown
  clear hW hbp1
  refine (l1 _ bk Bl).mono ?_
  rintro e w7 ⟨rfl, hb⟩
  clear xl yl zl vl xt yt zt vt
  replace Bl := Bl.ext hb rfl
  replace Bt := Bt.ext hb rfl
  replace Bp1 := Bp1.ext hb rfl
  replace Bq1 := Bq1.ext hb rfl
  replace hw := hw.trans (hb.mono hw.size)
  clear hb
  clear Bp1
  clear Bq1
  obtain ⟨xl, yl, zl, vl⟩ := Bl.facts
  obtain ⟨xt, yt, zt, vt⟩ := Bt.facts
  go_wp2_with fail
  try rw [rounds_succ]
  go_wp2_with fail
  refine (e2 _).mono ?_
  rintro e w8 ⟨rfl, hb⟩
  clear xl yl zl vl xt yt zt vt
  replace Bl := Bl.ext hb rfl
  replace Bt := Bt.ext hb rfl
  replace hw := hw.trans (hb.mono hw.size)
  clear hb
  obtain ⟨xl, yl, zl, vl⟩ := Bl.facts
  obtain ⟨xt, yt, zt, vt⟩ := Bt.facts
  go_wp2_with fail
  refine at_call fun W9 hW => ?_
  obtain ⟨bkp2, hbp2⟩ : ∃ b, w8.heap.size = b := ⟨_, rfl⟩
  rw [hbp2]
  have llp2 := Bl.lt
  rw [hbp2] at llp2
  have ltp2 := Bt.lt
  rw [hbp2] at ltp2
  have fp2 := hw.size
  rw [hbp2] at fp2
  have Bp2 : Box W9 (bkp2) [.int .i64 T.C.x, .int .i64 T.C.y] 23 := by rw [hW, ← hbp2]; exact (Box.new rfl).old _
  have Bq2 : Box W9 (bkp2 + 1) [.int .i64 T.A.x, .int .i64 T.A.y] 23 := by rw [hW, ← hbp2]; exact Box.new (by simp)
  replace Bl : Box W9 (bk) [.int .i64 a.x, .int .i64 a.y, .int .i64 b.x, .int .i64 b.y, .int .i64 c.x, .int .i64 c.y, .int .i64 d.x, .int .i64 d.y] 23 := by rw [hW]; exact ((Bl).old _).old _
  replace Bt : Box W9 (bkt) [.int .i64 T.A.x, .int .i64 T.A.y, .int .i64 T.B.x, .int .i64 T.B.y, .int .i64 T.C.x, .int .i64 T.C.y] 25 := by rw [hW]; exact ((Bt).old _).old _
  replace hw : Below w.heap.size w W9 := by have hl := hw.size; rw [hW]; go_grown
  clear hW hbp2
  refine (l2 _ bk Bl).mono ?_
  rintro e w10 ⟨rfl, hb⟩
  clear xl yl zl vl xt yt zt vt
  replace Bl := Bl.ext hb rfl
  replace Bt := Bt.ext hb rfl
  replace Bp2 := Bp2.ext hb rfl
  replace Bq2 := Bq2.ext hb rfl
  replace hw := hw.trans (hb.mono hw.size)
  clear hb
  clear Bp2
  clear Bq2
  obtain ⟨xl, yl, zl, vl⟩ := Bl.facts
  obtain ⟨xt, yt, zt, vt⟩ := Bt.facts
  go_wp2_with fail
  try rw [rounds_succ]
  go_wp2
  go_ret
  exact ⟨rfl, by have hl := hw.size; go_grown⟩

def thr (T : Tri3) (a b : Pt) : Bool := decide (0 < lm3 a b T.A T.B T.C) && (decide (0 < lm3 b a T.A T.B T.C) && decide (0 < ls2 T a b))
theorem thr_0 (T : Tri3) (a b : Pt) (h0 : decide (0 < lm3 a b T.A T.B T.C) = false) (w : World) :
    Calls Try.prog 39 #[.agg #[.int .i64 T.A.x, .int .i64 T.A.y, .int .i64 T.B.x, .int .i64 T.B.y, .int .i64 T.C.x, .int .i64 T.C.y], .agg #[.int .i64 a.x, .int .i64 a.y], .agg #[.int .i64 b.x, .int .i64 b.y]] w fun e w' => e = .returned (.bool false) ∧ Below w.heap.size w w' := by
  have l0 := lm3_any a b T.A T.B T.C
  have l1 := lm3_any b a T.A T.B T.C
  have l2 := ls2_any T a b
  generalize lm3 a b T.A T.B T.C = m0 at *
  generalize lm3 b a T.A T.B T.C = m1 at *
  generalize ls2 T a b = m2 at *
  go_enter Try.func39, Try.ntmps39
  go_wp2_with fail
  refine at_call fun W1 hW => ?_
  have Bt : Box W1 (w.heap.size) [.int .i64 T.A.x, .int .i64 T.A.y, .int .i64 T.B.x, .int .i64 T.B.y, .int .i64 T.C.x, .int .i64 T.C.y] 25 := by rw [hW]; exact (((Box.new rfl).old _).old _).old _
  have Ba : Box W1 (w.heap.size + 1) [.int .i64 a.x, .int .i64 a.y] 23 := by rw [hW]; exact ((Box.new (by simp)).old _).old _
  have Bb : Box W1 (w.heap.size + 1 + 1) [.int .i64 b.x, .int .i64 b.y] 23 := by rw [hW]; exact (Box.new (by simp)).old _
  have Bo : Box W1 (w.heap.size + 1 + 1 + 1) [.int .i64 T.A.x, .int .i64 T.A.y, .int .i64 T.B.x, .int .i64 T.B.y, .int .i64 T.C.x, .int .i64 T.C.y] 23 := by rw [hW]; exact Box.new (by simp)
  have hw : Below w.heap.size w W1 := by rw [hW]; go_grown
  clear hW
  refine (l0 _ _ Bo).mono ?_
  rintro e w2 ⟨rfl, hb⟩
  replace Bt := Bt.ext hb rfl
  replace Ba := Ba.ext hb rfl
  replace Bb := Bb.ext hb rfl
  replace Bo := Bo.ext hb rfl
  replace hw := hw.trans (hb.mono hw.size)
  clear hb
  obtain ⟨xt, yt, zt, vt⟩ := Bt.facts
  obtain ⟨xa, ya, za, va⟩ := Ba.facts
  obtain ⟨xb, yb, zb, vb⟩ := Bb.facts
  obtain ⟨xo, yo, zo, vo⟩ := Bo.facts
  go_wp2
  go_ret
  exact ⟨rfl, by have hl := hw.size; go_grown⟩

theorem thr_1 (T : Tri3) (a b : Pt) (h0 : decide (0 < lm3 a b T.A T.B T.C) = true) (h1 : decide (0 < lm3 b a T.A T.B T.C) = false) (w : World) :
    Calls Try.prog 39 #[.agg #[.int .i64 T.A.x, .int .i64 T.A.y, .int .i64 T.B.x, .int .i64 T.B.y, .int .i64 T.C.x, .int .i64 T.C.y], .agg #[.int .i64 a.x, .int .i64 a.y], .agg #[.int .i64 b.x, .int .i64 b.y]] w fun e w' => e = .returned (.bool false) ∧ Below w.heap.size w w' := by
  have l0 := lm3_any a b T.A T.B T.C
  have l1 := lm3_any b a T.A T.B T.C
  have l2 := ls2_any T a b
  generalize lm3 a b T.A T.B T.C = m0 at *
  generalize lm3 b a T.A T.B T.C = m1 at *
  generalize ls2 T a b = m2 at *
  go_enter Try.func39, Try.ntmps39
  go_wp2_with fail
  refine at_call fun W1 hW => ?_
  have Bt : Box W1 (w.heap.size) [.int .i64 T.A.x, .int .i64 T.A.y, .int .i64 T.B.x, .int .i64 T.B.y, .int .i64 T.C.x, .int .i64 T.C.y] 25 := by rw [hW]; exact (((Box.new rfl).old _).old _).old _
  have Ba : Box W1 (w.heap.size + 1) [.int .i64 a.x, .int .i64 a.y] 23 := by rw [hW]; exact ((Box.new (by simp)).old _).old _
  have Bb : Box W1 (w.heap.size + 1 + 1) [.int .i64 b.x, .int .i64 b.y] 23 := by rw [hW]; exact (Box.new (by simp)).old _
  have Bo : Box W1 (w.heap.size + 1 + 1 + 1) [.int .i64 T.A.x, .int .i64 T.A.y, .int .i64 T.B.x, .int .i64 T.B.y, .int .i64 T.C.x, .int .i64 T.C.y] 23 := by rw [hW]; exact Box.new (by simp)
  have hw : Below w.heap.size w W1 := by rw [hW]; go_grown
  clear hW
  refine (l0 _ _ Bo).mono ?_
  rintro e w2 ⟨rfl, hb⟩
  replace Bt := Bt.ext hb rfl
  replace Ba := Ba.ext hb rfl
  replace Bb := Bb.ext hb rfl
  replace Bo := Bo.ext hb rfl
  replace hw := hw.trans (hb.mono hw.size)
  clear hb
  obtain ⟨xt, yt, zt, vt⟩ := Bt.facts
  obtain ⟨xa, ya, za, va⟩ := Ba.facts
  obtain ⟨xb, yb, zb, vb⟩ := Bb.facts
  obtain ⟨xo, yo, zo, vo⟩ := Bo.facts
  go_wp2_with fail
  refine (l1 _ _ Bo).mono ?_
  rintro e w3 ⟨rfl, hb⟩
  clear xt yt zt vt xa ya za va xb yb zb vb xo yo zo vo
  replace Bt := Bt.ext hb rfl
  replace Ba := Ba.ext hb rfl
  replace Bb := Bb.ext hb rfl
  replace Bo := Bo.ext hb rfl
  replace hw := hw.trans (hb.mono hw.size)
  clear hb
  obtain ⟨xt, yt, zt, vt⟩ := Bt.facts
  obtain ⟨xa, ya, za, va⟩ := Ba.facts
  obtain ⟨xb, yb, zb, vb⟩ := Bb.facts
  obtain ⟨xo, yo, zo, vo⟩ := Bo.facts
  go_wp2
  go_ret
  exact ⟨rfl, by have hl := hw.size; go_grown⟩

theorem thr_2 (T : Tri3) (a b : Pt) (h0 : decide (0 < lm3 a b T.A T.B T.C) = true) (h1 : decide (0 < lm3 b a T.A T.B T.C) = true) (w : World) :
    Calls Try.prog 39 #[.agg #[.int .i64 T.A.x, .int .i64 T.A.y, .int .i64 T.B.x, .int .i64 T.B.y, .int .i64 T.C.x, .int .i64 T.C.y], .agg #[.int .i64 a.x, .int .i64 a.y], .agg #[.int .i64 b.x, .int .i64 b.y]] w fun e w' => e = .returned (.bool (decide (0 < ls2 T a b))) ∧ Below w.heap.size w w' := by
  have l0 := lm3_any a b T.A T.B T.C
  have l1 := lm3_any b a T.A T.B T.C
  have l2 := ls2_any T a b
  generalize lm3 a b T.A T.B T.C = m0 at *
  generalize lm3 b a T.A T.B T.C = m1 at *
  generalize ls2 T a b = m2 at *
  go_enter Try.func39, Try.ntmps39
  go_wp2_with fail
  refine at_call fun W1 hW => ?_
  have Bt : Box W1 (w.heap.size) [.int .i64 T.A.x, .int .i64 T.A.y, .int .i64 T.B.x, .int .i64 T.B.y, .int .i64 T.C.x, .int .i64 T.C.y] 25 := by rw [hW]; exact (((Box.new rfl).old _).old _).old _
  have Ba : Box W1 (w.heap.size + 1) [.int .i64 a.x, .int .i64 a.y] 23 := by rw [hW]; exact ((Box.new (by simp)).old _).old _
  have Bb : Box W1 (w.heap.size + 1 + 1) [.int .i64 b.x, .int .i64 b.y] 23 := by rw [hW]; exact (Box.new (by simp)).old _
  have Bo : Box W1 (w.heap.size + 1 + 1 + 1) [.int .i64 T.A.x, .int .i64 T.A.y, .int .i64 T.B.x, .int .i64 T.B.y, .int .i64 T.C.x, .int .i64 T.C.y] 23 := by rw [hW]; exact Box.new (by simp)
  have hw : Below w.heap.size w W1 := by rw [hW]; go_grown
  clear hW
  refine (l0 _ _ Bo).mono ?_
  rintro e w2 ⟨rfl, hb⟩
  replace Bt := Bt.ext hb rfl
  replace Ba := Ba.ext hb rfl
  replace Bb := Bb.ext hb rfl
  replace Bo := Bo.ext hb rfl
  replace hw := hw.trans (hb.mono hw.size)
  clear hb
  obtain ⟨xt, yt, zt, vt⟩ := Bt.facts
  obtain ⟨xa, ya, za, va⟩ := Ba.facts
  obtain ⟨xb, yb, zb, vb⟩ := Bb.facts
  obtain ⟨xo, yo, zo, vo⟩ := Bo.facts
  go_wp2_with fail
  refine (l1 _ _ Bo).mono ?_
  rintro e w3 ⟨rfl, hb⟩
  clear xt yt zt vt xa ya za va xb yb zb vb xo yo zo vo
  replace Bt := Bt.ext hb rfl
  replace Ba := Ba.ext hb rfl
  replace Bb := Bb.ext hb rfl
  replace Bo := Bo.ext hb rfl
  replace hw := hw.trans (hb.mono hw.size)
  clear hb
  obtain ⟨xt, yt, zt, vt⟩ := Bt.facts
  obtain ⟨xa, ya, za, va⟩ := Ba.facts
  obtain ⟨xb, yb, zb, vb⟩ := Bb.facts
  obtain ⟨xo, yo, zo, vo⟩ := Bo.facts
  go_wp2_with fail
  refine at_call fun W4 hW => ?_
  obtain ⟨bks, hbs⟩ : ∃ b, w3.heap.size = b := ⟨_, rfl⟩
  rw [hbs]
  have lts := Bt.lt
  rw [hbs] at lts
  have las := Ba.lt
  rw [hbs] at las
  have lbs := Bb.lt
  rw [hbs] at lbs
  have los := Bo.lt
  rw [hbs] at los
  have fs := hw.size
  rw [hbs] at fs
  have Bs : Box W4 bks [.int .i64 a.x, .int .i64 a.y, .int .i64 b.x, .int .i64 b.y] 23 := by rw [hW]; exact Box.new hbs.symm
  replace Bt : Box W4 (w.heap.size) [.int .i64 T.A.x, .int .i64 T.A.y, .int .i64 T.B.x, .int .i64 T.B.y, .int .i64 T.C.x, .int .i64 T.C.y] 25 := by rw [hW]; exact Bt.old _
  replace Ba : Box W4 (w.heap.size + 1) [.int .i64 a.x, .int .i64 a.y] 23 := by rw [hW]; exact Ba.old _
  replace Bb : Box W4 (w.heap.size + 1 + 1) [.int .i64 b.x, .int .i64 b.y] 23 := by rw [hW]; exact Bb.old _
  replace Bo : Box W4 (w.heap.size + 1 + 1 + 1) [.int .i64 T.A.x, .int .i64 T.A.y, .int .i64 T.B.x, .int .i64 T.B.y, .int .i64 T.C.x, .int .i64 T.C.y] 23 := by rw [hW]; exact Bo.old _
  replace hw : Below w.heap.size w W4 := by have hl := hw.size; rw [hW]; go_grown
  clear hW hbs
  refine (l2 _ bks Bs).mono ?_
  rintro e w5 ⟨rfl, hb⟩
  clear xt yt zt vt xa ya za va xb yb zb vb xo yo zo vo
  replace Bt := Bt.ext hb rfl
  replace Ba := Ba.ext hb rfl
  replace Bb := Bb.ext hb rfl
  replace Bo := Bo.ext hb rfl
  replace Bs := Bs.ext hb rfl
  replace hw := hw.trans (hb.mono hw.size)
  clear hb
  obtain ⟨xt, yt, zt, vt⟩ := Bt.facts
  obtain ⟨xa, ya, za, va⟩ := Ba.facts
  obtain ⟨xb, yb, zb, vb⟩ := Bb.facts
  obtain ⟨xo, yo, zo, vo⟩ := Bo.facts
  obtain ⟨xs, ys, zs, vs⟩ := Bs.facts
  go_wp2
  go_ret
  exact ⟨rfl, by have hl := hw.size; go_grown⟩

theorem thr_any (T : Tri3) (a b : Pt) (w : World) :
    Calls Try.prog 39 #[.agg #[.int .i64 T.A.x, .int .i64 T.A.y, .int .i64 T.B.x, .int .i64 T.B.y, .int .i64 T.C.x, .int .i64 T.C.y], .agg #[.int .i64 a.x, .int .i64 a.y], .agg #[.int .i64 b.x, .int .i64 b.y]] w fun e w' => e = .returned (.bool (thr T a b)) ∧ Below w.heap.size w w' := by
  unfold thr
  cases h0 : decide (0 < lm3 a b T.A T.B T.C) with
  | false => exact thr_0 T a b h0 w
  | true => cases h1 : decide (0 < lm3 b a T.A T.B T.C) with
    | false => exact thr_1 T a b h0 h1 w
    | true => exact thr_2 T a b h0 h1 w
def oed (T : Tri3) (a b : Pt) : Bool := (meetS a b T.A T.B == 3) || ((meetS a b T.B T.C == 3) || (meetS a b T.C T.A == 3))
set_option maxHeartbeats 1000000 in
theorem oed_0 (T : Tri3) (a b : Pt) (h0 : (meetS a b T.A T.B == 3) = true) (w : World) :
    Calls Try.prog 40 #[.agg #[.int .i64 T.A.x, .int .i64 T.A.y, .int .i64 T.B.x, .int .i64 T.B.y, .int .i64 T.C.x, .int .i64 T.C.y], .agg #[.int .i64 a.x, .int .i64 a.y], .agg #[.int .i64 b.x, .int .i64 b.y]] w fun e w' => e = .returned (.bool true) ∧ Below w.heap.size w w' := by
  have e0 := edge_any T 0
  rw [show crn T 0 = T.A from rfl, show crn T (0 + 1) = T.B from rfl] at e0
  have e1 := edge_any T 1
  rw [show crn T 1 = T.B from rfl, show crn T (1 + 1) = T.C from rfl] at e1
  have e2 := edge_any T 2
  rw [show crn T 2 = T.C from rfl, show crn T (2 + 1) = T.A from rfl] at e2
  have m0 := meet_any a b T.A T.B
  have m1 := meet_any a b T.B T.C
  have m2 := meet_any a b T.C T.A
  generalize meetS a b T.A T.B = n0 at *
  generalize meetS a b T.B T.C = n1 at *
  generalize meetS a b T.C T.A = n2 at *
  go_enter Try.func40, Try.ntmps40
  go_wp2_with fail
  refine at_world fun W1 hW => ?_
  have Bt : Box W1 (w.heap.size) [.int .i64 T.A.x, .int .i64 T.A.y, .int .i64 T.B.x, .int .i64 T.B.y, .int .i64 T.C.x, .int .i64 T.C.y] 25 := by rw [hW]; exact ((Box.new rfl).old _).old _
  have Ba : Box W1 (w.heap.size + 1) [.int .i64 a.x, .int .i64 a.y] 23 := by rw [hW]; exact (Box.new (by simp)).old _
  have Bb : Box W1 (w.heap.size + 1 + 1) [.int .i64 b.x, .int .i64 b.y] 23 := by rw [hW]; exact Box.new (by simp)
  have hw : Below w.heap.size w W1 := by rw [hW]; go_grown
  clear hW
  refine wp_loop_rounds 5 ?_
  try rw [rounds_succ]
  obtain ⟨xt, yt, zt, vt⟩ := Bt.facts
  obtain ⟨xa, ya, za, va⟩ := Ba.facts
  obtain ⟨xb, yb, zb, vb⟩ := Bb.facts
  go_wp2_with fail
  refine (e0 _).mono ?_
  rintro e w2 ⟨rfl, hb⟩
  clear xt yt zt vt xa ya za va xb yb zb vb
  replace Bt := Bt.ext hb rfl
  replace Ba := Ba.ext hb rfl
  replace Bb := Bb.ext hb rfl
  replace hw := hw.trans (hb.mono hw.size)
  clear hb
  obtain ⟨xt, yt, zt, vt⟩ := Bt.facts
  obtain ⟨xa, ya, za, va⟩ := Ba.facts
  obtain ⟨xb, yb, zb, vb⟩ := Bb.facts
  go_wp2_with fail
  refine at_call fun W3 hW => ?_
  obtain ⟨bkp0, hbp0⟩ : ∃ b, w2.heap.size = b := ⟨_, rfl⟩
  rw [hbp0]
  have ltp0 := Bt.lt
  rw [hbp0] at ltp0
  have lap0 := Ba.lt
  rw [hbp0] at lap0
  have lbp0 := Bb.lt
  rw [hbp0] at lbp0
  have fp0 := hw.size
  rw [hbp0] at fp0
  have Bp0 : Box W3 (bkp0) [.int .i64 T.A.x, .int .i64 T.A.y] 23 := by rw [hW, ← hbp0]; exact (Box.new rfl).old _
  have Bq0 : Box W3 (bkp0 + 1) [.int .i64 T.B.x, .int .i64 T.B.y] 23 := by rw [hW, ← hbp0]; exact Box.new (by simp)
  replace Bt : Box W3 (w.heap.size) [.int .i64 T.A.x, .int .i64 T.A.y, .int .i64 T.B.x, .int .i64 T.B.y, .int .i64 T.C.x, .int .i64 T.C.y] 25 := by rw [hW]; exact ((Bt).old _).old _
  replace Ba : Box W3 (w.heap.size + 1) [.int .i64 a.x, .int .i64 a.y] 23 := by rw [hW]; exact ((Ba).old _).old _
  replace Bb : Box W3 (w.heap.size + 1 + 1) [.int .i64 b.x, .int .i64 b.y] 23 := by rw [hW]; exact ((Bb).old _).old _
  replace hw : Below w.heap.size w W3 := by have hl := hw.size; rw [hW]; go_grown
  clear hW hbp0
  refine (m0 _).mono ?_
  rintro e w4 ⟨rfl, hb⟩
  clear xt yt zt vt xa ya za va xb yb zb vb
  replace Bt := Bt.ext hb rfl
  replace Ba := Ba.ext hb rfl
  replace Bb := Bb.ext hb rfl
  replace Bp0 := Bp0.ext hb rfl
  replace Bq0 := Bq0.ext hb rfl
  replace hw := hw.trans (hb.mono hw.size)
  clear hb
  clear Bp0
  clear Bq0
  obtain ⟨xt, yt, zt, vt⟩ := Bt.facts
  obtain ⟨xa, ya, za, va⟩ := Ba.facts
  obtain ⟨xb, yb, zb, vb⟩ := Bb.facts
  go_wp2
  go_ret
  exact ⟨rfl, by have hl := hw.size; go_grown⟩

set_option maxHeartbeats 1000000 in
theorem oed_1 (T : Tri3) (a b : Pt) (h0 : (meetS a b T.A T.B == 3) = false) (h1 : (meetS a b T.B T.C == 3) = true) (w : World) :
    Calls Try.prog 40 #[.agg #[.int .i64 T.A.x, .int .i64 T.A.y, .int .i64 T.B.x, .int .i64 T.B.y, .int .i64 T.C.x, .int .i64 T.C.y], .agg #[.int .i64 a.x, .int .i64 a.y], .agg #[.int .i64 b.x, .int .i64 b.y]] w fun e w' => e = .returned (.bool true) ∧ Below w.heap.size w w' := by
  have e0 := edge_any T 0
  rw [show crn T 0 = T.A from rfl, show crn T (0 + 1) = T.B from rfl] at e0
  have e1 := edge_any T 1
  rw [show crn T 1 = T.B from rfl, show crn T (1 + 1) = T.C from rfl] at e1
  have e2 := edge_any T 2
  rw [show crn T 2 = T.C from rfl, show crn T (2 + 1) = T.A from rfl] at e2
  have m0 := meet_any a b T.A T.B
  have m1 := meet_any a b T.B T.C
  have m2 := meet_any a b T.C T.A
  generalize meetS a b T.A T.B = n0 at *
  generalize meetS a b T.B T.C = n1 at *
  generalize meetS a b T.C T.A = n2 at *
  go_enter Try.func40, Try.ntmps40
  go_wp2_with fail
  refine at_world fun W1 hW => ?_
  have Bt : Box W1 (w.heap.size) [.int .i64 T.A.x, .int .i64 T.A.y, .int .i64 T.B.x, .int .i64 T.B.y, .int .i64 T.C.x, .int .i64 T.C.y] 25 := by rw [hW]; exact ((Box.new rfl).old _).old _
  have Ba : Box W1 (w.heap.size + 1) [.int .i64 a.x, .int .i64 a.y] 23 := by rw [hW]; exact (Box.new (by simp)).old _
  have Bb : Box W1 (w.heap.size + 1 + 1) [.int .i64 b.x, .int .i64 b.y] 23 := by rw [hW]; exact Box.new (by simp)
  have hw : Below w.heap.size w W1 := by rw [hW]; go_grown
  clear hW
  refine wp_loop_rounds 5 ?_
  try rw [rounds_succ]
  obtain ⟨xt, yt, zt, vt⟩ := Bt.facts
  obtain ⟨xa, ya, za, va⟩ := Ba.facts
  obtain ⟨xb, yb, zb, vb⟩ := Bb.facts
  go_wp2_with fail
  refine (e0 _).mono ?_
  rintro e w2 ⟨rfl, hb⟩
  clear xt yt zt vt xa ya za va xb yb zb vb
  replace Bt := Bt.ext hb rfl
  replace Ba := Ba.ext hb rfl
  replace Bb := Bb.ext hb rfl
  replace hw := hw.trans (hb.mono hw.size)
  clear hb
  obtain ⟨xt, yt, zt, vt⟩ := Bt.facts
  obtain ⟨xa, ya, za, va⟩ := Ba.facts
  obtain ⟨xb, yb, zb, vb⟩ := Bb.facts
  go_wp2_with fail
  refine at_call fun W3 hW => ?_
  obtain ⟨bkp0, hbp0⟩ : ∃ b, w2.heap.size = b := ⟨_, rfl⟩
  rw [hbp0]
  have ltp0 := Bt.lt
  rw [hbp0] at ltp0
  have lap0 := Ba.lt
  rw [hbp0] at lap0
  have lbp0 := Bb.lt
  rw [hbp0] at lbp0
  have fp0 := hw.size
  rw [hbp0] at fp0
  have Bp0 : Box W3 (bkp0) [.int .i64 T.A.x, .int .i64 T.A.y] 23 := by rw [hW, ← hbp0]; exact (Box.new rfl).old _
  have Bq0 : Box W3 (bkp0 + 1) [.int .i64 T.B.x, .int .i64 T.B.y] 23 := by rw [hW, ← hbp0]; exact Box.new (by simp)
  replace Bt : Box W3 (w.heap.size) [.int .i64 T.A.x, .int .i64 T.A.y, .int .i64 T.B.x, .int .i64 T.B.y, .int .i64 T.C.x, .int .i64 T.C.y] 25 := by rw [hW]; exact ((Bt).old _).old _
  replace Ba : Box W3 (w.heap.size + 1) [.int .i64 a.x, .int .i64 a.y] 23 := by rw [hW]; exact ((Ba).old _).old _
  replace Bb : Box W3 (w.heap.size + 1 + 1) [.int .i64 b.x, .int .i64 b.y] 23 := by rw [hW]; exact ((Bb).old _).old _
  replace hw : Below w.heap.size w W3 := by have hl := hw.size; rw [hW]; go_grown
  clear hW hbp0
  refine (m0 _).mono ?_
  rintro e w4 ⟨rfl, hb⟩
  clear xt yt zt vt xa ya za va xb yb zb vb
  replace Bt := Bt.ext hb rfl
  replace Ba := Ba.ext hb rfl
  replace Bb := Bb.ext hb rfl
  replace Bp0 := Bp0.ext hb rfl
  replace Bq0 := Bq0.ext hb rfl
  replace hw := hw.trans (hb.mono hw.size)
  clear hb
  clear Bp0
  clear Bq0
  obtain ⟨xt, yt, zt, vt⟩ := Bt.facts
  obtain ⟨xa, ya, za, va⟩ := Ba.facts
  obtain ⟨xb, yb, zb, vb⟩ := Bb.facts
  go_wp2_with fail
  try rw [rounds_succ]
  go_wp2_with fail
  refine (e1 _).mono ?_
  rintro e w5 ⟨rfl, hb⟩
  clear xt yt zt vt xa ya za va xb yb zb vb
  replace Bt := Bt.ext hb rfl
  replace Ba := Ba.ext hb rfl
  replace Bb := Bb.ext hb rfl
  replace hw := hw.trans (hb.mono hw.size)
  clear hb
  obtain ⟨xt, yt, zt, vt⟩ := Bt.facts
  obtain ⟨xa, ya, za, va⟩ := Ba.facts
  obtain ⟨xb, yb, zb, vb⟩ := Bb.facts
  go_wp2_with fail
  refine at_call fun W6 hW => ?_
  obtain ⟨bkp1, hbp1⟩ : ∃ b, w5.heap.size = b := ⟨_, rfl⟩
  rw [hbp1]
  have ltp1 := Bt.lt
  rw [hbp1] at ltp1
  have lap1 := Ba.lt
  rw [hbp1] at lap1
  have lbp1 := Bb.lt
  rw [hbp1] at lbp1
  have fp1 := hw.size
  rw [hbp1] at fp1
  have Bp1 : Box W6 (bkp1) [.int .i64 T.B.x, .int .i64 T.B.y] 23 := by rw [hW, ← hbp1]; exact (Box.new rfl).old _
  have Bq1 : Box W6 (bkp1 + 1) [.int .i64 T.C.x, .int .i64 T.C.y] 23 := by rw [hW, ← hbp1]; exact Box.new (by simp)
  replace Bt : Box W6 (w.heap.size) [.int .i64 T.A.x, .int .i64 T.A.y, .int .i64 T.B.x, .int .i64 T.B.y, .int .i64 T.C.x, .int .i64 T.C.y] 25 := by rw [hW]; exact ((Bt).old _).old _
  replace Ba : Box W6 (w.heap.size + 1) [.int .i64 a.x, .int .i64 a.y] 23 := by rw [hW]; exact ((Ba).old _).old _
  replace Bb : Box W6 (w.heap.size + 1 + 1) [.int .i64 b.x, .int .i64 b.y] 23 := by rw [hW]; exact ((Bb).old _).old _
  replace hw : Below w.heap.size w W6 := by have hl := hw.size; rw [hW]; go_grown
  clear hW hbp1
  refine (m1 _).mono ?_
  rintro e w7 ⟨rfl, hb⟩
  clear xt yt zt vt xa ya za va xb yb zb vb
  replace Bt := Bt.ext hb rfl
  replace Ba := Ba.ext hb rfl
  replace Bb := Bb.ext hb rfl
  replace Bp1 := Bp1.ext hb rfl
  replace Bq1 := Bq1.ext hb rfl
  replace hw := hw.trans (hb.mono hw.size)
  clear hb
  clear Bp1
  clear Bq1
  obtain ⟨xt, yt, zt, vt⟩ := Bt.facts
  obtain ⟨xa, ya, za, va⟩ := Ba.facts
  obtain ⟨xb, yb, zb, vb⟩ := Bb.facts
  go_wp2
  go_ret
  exact ⟨rfl, by have hl := hw.size; go_grown⟩

set_option maxHeartbeats 1000000 in
theorem oed_2 (T : Tri3) (a b : Pt) (h0 : (meetS a b T.A T.B == 3) = false) (h1 : (meetS a b T.B T.C == 3) = false) (h2 : (meetS a b T.C T.A == 3) = true) (w : World) :
    Calls Try.prog 40 #[.agg #[.int .i64 T.A.x, .int .i64 T.A.y, .int .i64 T.B.x, .int .i64 T.B.y, .int .i64 T.C.x, .int .i64 T.C.y], .agg #[.int .i64 a.x, .int .i64 a.y], .agg #[.int .i64 b.x, .int .i64 b.y]] w fun e w' => e = .returned (.bool true) ∧ Below w.heap.size w w' := by
  have e0 := edge_any T 0
  rw [show crn T 0 = T.A from rfl, show crn T (0 + 1) = T.B from rfl] at e0
  have e1 := edge_any T 1
  rw [show crn T 1 = T.B from rfl, show crn T (1 + 1) = T.C from rfl] at e1
  have e2 := edge_any T 2
  rw [show crn T 2 = T.C from rfl, show crn T (2 + 1) = T.A from rfl] at e2
  have m0 := meet_any a b T.A T.B
  have m1 := meet_any a b T.B T.C
  have m2 := meet_any a b T.C T.A
  generalize meetS a b T.A T.B = n0 at *
  generalize meetS a b T.B T.C = n1 at *
  generalize meetS a b T.C T.A = n2 at *
  go_enter Try.func40, Try.ntmps40
  go_wp2_with fail
  refine at_world fun W1 hW => ?_
  have Bt : Box W1 (w.heap.size) [.int .i64 T.A.x, .int .i64 T.A.y, .int .i64 T.B.x, .int .i64 T.B.y, .int .i64 T.C.x, .int .i64 T.C.y] 25 := by rw [hW]; exact ((Box.new rfl).old _).old _
  have Ba : Box W1 (w.heap.size + 1) [.int .i64 a.x, .int .i64 a.y] 23 := by rw [hW]; exact (Box.new (by simp)).old _
  have Bb : Box W1 (w.heap.size + 1 + 1) [.int .i64 b.x, .int .i64 b.y] 23 := by rw [hW]; exact Box.new (by simp)
  have hw : Below w.heap.size w W1 := by rw [hW]; go_grown
  clear hW
  refine wp_loop_rounds 5 ?_
  try rw [rounds_succ]
  obtain ⟨xt, yt, zt, vt⟩ := Bt.facts
  obtain ⟨xa, ya, za, va⟩ := Ba.facts
  obtain ⟨xb, yb, zb, vb⟩ := Bb.facts
  go_wp2_with fail
  refine (e0 _).mono ?_
  rintro e w2 ⟨rfl, hb⟩
  clear xt yt zt vt xa ya za va xb yb zb vb
  replace Bt := Bt.ext hb rfl
  replace Ba := Ba.ext hb rfl
  replace Bb := Bb.ext hb rfl
  replace hw := hw.trans (hb.mono hw.size)
  clear hb
  obtain ⟨xt, yt, zt, vt⟩ := Bt.facts
  obtain ⟨xa, ya, za, va⟩ := Ba.facts
  obtain ⟨xb, yb, zb, vb⟩ := Bb.facts
  go_wp2_with fail
  refine at_call fun W3 hW => ?_
  obtain ⟨bkp0, hbp0⟩ : ∃ b, w2.heap.size = b := ⟨_, rfl⟩
  rw [hbp0]
  have ltp0 := Bt.lt
  rw [hbp0] at ltp0
  have lap0 := Ba.lt
  rw [hbp0] at lap0
  have lbp0 := Bb.lt
  rw [hbp0] at lbp0
  have fp0 := hw.size
  rw [hbp0] at fp0
  have Bp0 : Box W3 (bkp0) [.int .i64 T.A.x, .int .i64 T.A.y] 23 := by rw [hW, ← hbp0]; exact (Box.new rfl).old _
  have Bq0 : Box W3 (bkp0 + 1) [.int .i64 T.B.x, .int .i64 T.B.y] 23 := by rw [hW, ← hbp0]; exact Box.new (by simp)
  replace Bt : Box W3 (w.heap.size) [.int .i64 T.A.x, .int .i64 T.A.y, .int .i64 T.B.x, .int .i64 T.B.y, .int .i64 T.C.x, .int .i64 T.C.y] 25 := by rw [hW]; exact ((Bt).old _).old _
  replace Ba : Box W3 (w.heap.size + 1) [.int .i64 a.x, .int .i64 a.y] 23 := by rw [hW]; exact ((Ba).old _).old _
  replace Bb : Box W3 (w.heap.size + 1 + 1) [.int .i64 b.x, .int .i64 b.y] 23 := by rw [hW]; exact ((Bb).old _).old _
  replace hw : Below w.heap.size w W3 := by have hl := hw.size; rw [hW]; go_grown
  clear hW hbp0
  refine (m0 _).mono ?_
  rintro e w4 ⟨rfl, hb⟩
  clear xt yt zt vt xa ya za va xb yb zb vb
  replace Bt := Bt.ext hb rfl
  replace Ba := Ba.ext hb rfl
  replace Bb := Bb.ext hb rfl
  replace Bp0 := Bp0.ext hb rfl
  replace Bq0 := Bq0.ext hb rfl
  replace hw := hw.trans (hb.mono hw.size)
  clear hb
  clear Bp0
  clear Bq0
  obtain ⟨xt, yt, zt, vt⟩ := Bt.facts
  obtain ⟨xa, ya, za, va⟩ := Ba.facts
  obtain ⟨xb, yb, zb, vb⟩ := Bb.facts
  go_wp2_with fail
  try rw [rounds_succ]
  go_wp2_with fail
  refine (e1 _).mono ?_
  rintro e w5 ⟨rfl, hb⟩
  clear xt yt zt vt xa ya za va xb yb zb vb
  replace Bt := Bt.ext hb rfl
  replace Ba := Ba.ext hb rfl
  replace Bb := Bb.ext hb rfl
  replace hw := hw.trans (hb.mono hw.size)
  clear hb
  obtain ⟨xt, yt, zt, vt⟩ := Bt.facts
  obtain ⟨xa, ya, za, va⟩ := Ba.facts
  obtain ⟨xb, yb, zb, vb⟩ := Bb.facts
  go_wp2_with fail
  refine at_call fun W6 hW => ?_
  obtain ⟨bkp1, hbp1⟩ : ∃ b, w5.heap.size = b := ⟨_, rfl⟩
  rw [hbp1]
  have ltp1 := Bt.lt
  rw [hbp1] at ltp1
  have lap1 := Ba.lt
  rw [hbp1] at lap1
  have lbp1 := Bb.lt
  rw [hbp1] at lbp1
  have fp1 := hw.size
  rw [hbp1] at fp1
  have Bp1 : Box W6 (bkp1) [.int .i64 T.B.x, .int .i64 T.B.y] 23 := by rw [hW, ← hbp1]; exact (Box.new rfl).old _
  have Bq1 : Box W6 (bkp1 + 1) [.int .i64 T.C.x, .int .i64 T.C.y] 23 := by rw [hW, ← hbp1]; exact Box.new (by simp)
  replace Bt : Box W6 (w.heap.size) [.int .i64 T.A.x, .int .i64 T.A.y, .int .i64 T.B.x, .int .i64 T.B.y, .int .i64 T.C.x, .int .i64 T.C.y] 25 := by rw [hW]; exact ((Bt).old _).old _
  replace Ba : Box W6 (w.heap.size + 1) [.int .i64 a.x, .int .i64 a.y] 23 := by rw [hW]; exact ((Ba).old _).old _
  replace Bb : Box W6 (w.heap.size + 1 + 1) [.int .i64 b.x, .int .i64 b.y] 23 := by rw [hW]; exact ((Bb).old _).old _
  replace hw : Below w.heap.size w W6 := by have hl := hw.size; rw [hW]; go_grown
  clear hW hbp1
  refine (m1 _).mono ?_
  rintro e w7 ⟨rfl, hb⟩
  clear xt yt zt vt xa ya za va xb yb zb vb
  replace Bt := Bt.ext hb rfl
  replace Ba := Ba.ext hb rfl
  replace Bb := Bb.ext hb rfl
  replace Bp1 := Bp1.ext hb rfl
  replace Bq1 := Bq1.ext hb rfl
  replace hw := hw.trans (hb.mono hw.size)
  clear hb
  clear Bp1
  clear Bq1
  obtain ⟨xt, yt, zt, vt⟩ := Bt.facts
  obtain ⟨xa, ya, za, va⟩ := Ba.facts
  obtain ⟨xb, yb, zb, vb⟩ := Bb.facts
  go_wp2_with fail
  try rw [rounds_succ]
  go_wp2_with fail
  refine (e2 _).mono ?_
  rintro e w8 ⟨rfl, hb⟩
  clear xt yt zt vt xa ya za va xb yb zb vb
  replace Bt := Bt.ext hb rfl
  replace Ba := Ba.ext hb rfl
  replace Bb := Bb.ext hb rfl
  replace hw := hw.trans (hb.mono hw.size)
  clear hb
  obtain ⟨xt, yt, zt, vt⟩ := Bt.facts
  obtain ⟨xa, ya, za, va⟩ := Ba.facts
  obtain ⟨xb, yb, zb, vb⟩ := Bb.facts
  go_wp2_with fail
  refine at_call fun W9 hW => ?_
  obtain ⟨bkp2, hbp2⟩ : ∃ b, w8.heap.size = b := ⟨_, rfl⟩
  rw [hbp2]
  have ltp2 := Bt.lt
  rw [hbp2] at ltp2
  have lap2 := Ba.lt
  rw [hbp2] at lap2
  have lbp2 := Bb.lt
  rw [hbp2] at lbp2
  have fp2 := hw.size
  rw [hbp2] at fp2
  have Bp2 : Box W9 (bkp2) [.int .i64 T.C.x, .int .i64 T.C.y] 23 := by rw [hW, ← hbp2]; exact (Box.new rfl).old _
  have Bq2 : Box W9 (bkp2 + 1) [.int .i64 T.A.x, .int .i64 T.A.y] 23 := by rw [hW, ← hbp2]; exact Box.new (by simp)
  replace Bt : Box W9 (w.heap.size) [.int .i64 T.A.x, .int .i64 T.A.y, .int .i64 T.B.x, .int .i64 T.B.y, .int .i64 T.C.x, .int .i64 T.C.y] 25 := by rw [hW]; exact ((Bt).old _).old _
  replace Ba : Box W9 (w.heap.size + 1) [.int .i64 a.x, .int .i64 a.y] 23 := by rw [hW]; exact ((Ba).old _).old _
  replace Bb : Box W9 (w.heap.size + 1 + 1) [.int .i64 b.x, .int .i64 b.y] 23 := by rw [hW]; exact ((Bb).old _).old _
  replace hw : Below w.heap.size w W9 := by have hl := hw.size; rw [hW]; go_grown
  clear hW hbp2
  refine (m2 _).mono ?_
  rintro e w10 ⟨rfl, hb⟩
  clear xt yt zt vt xa ya za va xb yb zb vb
  replace Bt := Bt.ext hb rfl
  replace Ba := Ba.ext hb rfl
  replace Bb := Bb.ext hb rfl
  replace Bp2 := Bp2.ext hb rfl
  replace Bq2 := Bq2.ext hb rfl
  replace hw := hw.trans (hb.mono hw.size)
  clear hb
  clear Bp2
  clear Bq2
  obtain ⟨xt, yt, zt, vt⟩ := Bt.facts
  obtain ⟨xa, ya, za, va⟩ := Ba.facts
  obtain ⟨xb, yb, zb, vb⟩ := Bb.facts
  go_wp2
  go_ret
  exact ⟨rfl, by have hl := hw.size; go_grown⟩

set_option maxHeartbeats 1000000 in
theorem oed_3 (T : Tri3) (a b : Pt) (h0 : (meetS a b T.A T.B == 3) = false) (h1 : (meetS a b T.B T.C == 3) = false) (h2 : (meetS a b T.C T.A == 3) = false) (w : World) :
    Calls Try.prog 40 #[.agg #[.int .i64 T.A.x, .int .i64 T.A.y, .int .i64 T.B.x, .int .i64 T.B.y, .int .i64 T.C.x, .int .i64 T.C.y], .agg #[.int .i64 a.x, .int .i64 a.y], .agg #[.int .i64 b.x, .int .i64 b.y]] w fun e w' => e = .returned (.bool false) ∧ Below w.heap.size w w' := by
  have e0 := edge_any T 0
  rw [show crn T 0 = T.A from rfl, show crn T (0 + 1) = T.B from rfl] at e0
  have e1 := edge_any T 1
  rw [show crn T 1 = T.B from rfl, show crn T (1 + 1) = T.C from rfl] at e1
  have e2 := edge_any T 2
  rw [show crn T 2 = T.C from rfl, show crn T (2 + 1) = T.A from rfl] at e2
  have m0 := meet_any a b T.A T.B
  have m1 := meet_any a b T.B T.C
  have m2 := meet_any a b T.C T.A
  generalize meetS a b T.A T.B = n0 at *
  generalize meetS a b T.B T.C = n1 at *
  generalize meetS a b T.C T.A = n2 at *
  go_enter Try.func40, Try.ntmps40
  go_wp2_with fail
  refine at_world fun W1 hW => ?_
  have Bt : Box W1 (w.heap.size) [.int .i64 T.A.x, .int .i64 T.A.y, .int .i64 T.B.x, .int .i64 T.B.y, .int .i64 T.C.x, .int .i64 T.C.y] 25 := by rw [hW]; exact ((Box.new rfl).old _).old _
  have Ba : Box W1 (w.heap.size + 1) [.int .i64 a.x, .int .i64 a.y] 23 := by rw [hW]; exact (Box.new (by simp)).old _
  have Bb : Box W1 (w.heap.size + 1 + 1) [.int .i64 b.x, .int .i64 b.y] 23 := by rw [hW]; exact Box.new (by simp)
  have hw : Below w.heap.size w W1 := by rw [hW]; go_grown
  clear hW
  refine wp_loop_rounds 5 ?_
  try rw [rounds_succ]
  obtain ⟨xt, yt, zt, vt⟩ := Bt.facts
  obtain ⟨xa, ya, za, va⟩ := Ba.facts
  obtain ⟨xb, yb, zb, vb⟩ := Bb.facts
  go_wp2_with fail
  refine (e0 _).mono ?_
  rintro e w2 ⟨rfl, hb⟩
  clear xt yt zt vt xa ya za va xb yb zb vb
  replace Bt := Bt.ext hb rfl
  replace Ba := Ba.ext hb rfl
  replace Bb := Bb.ext hb rfl
  replace hw := hw.trans (hb.mono hw.size)
  clear hb
  obtain ⟨xt, yt, zt, vt⟩ := Bt.facts
  obtain ⟨xa, ya, za, va⟩ := Ba.facts
  obtain ⟨xb, yb, zb, vb⟩ := Bb.facts
  go_wp2_with fail
  refine at_call fun W3 hW => ?_
  obtain ⟨bkp0, hbp0⟩ : ∃ b, w2.heap.size = b := ⟨_, rfl⟩
  rw [hbp0]
  have ltp0 := Bt.lt
  rw [hbp0] at ltp0
  have lap0 := Ba.lt
  rw [hbp0] at lap0
  have lbp0 := Bb.lt
  rw [hbp0] at lbp0
  have fp0 := hw.size
  rw [hbp0] at fp0
  have Bp0 : Box W3 (bkp0) [.int .i64 T.A.x, .int .i64 T.A.y] 23 := by rw [hW, ← hbp0]; exact (Box.new rfl).old _
  have Bq0 : Box W3 (bkp0 + 1) [.int .i64 T.B.x, .int .i64 T.B.y] 23 := by rw [hW, ← hbp0]; exact Box.new (by simp)
  replace Bt : Box W3 (w.heap.size) [.int .i64 T.A.x, .int .i64 T.A.y, .int .i64 T.B.x, .int .i64 T.B.y, .int .i64 T.C.x, .int .i64 T.C.y] 25 := by rw [hW]; exact ((Bt).old _).old _
  replace Ba : Box W3 (w.heap.size + 1) [.int .i64 a.x, .int .i64 a.y] 23 := by rw [hW]; exact ((Ba).old _).old _
  replace Bb : Box W3 (w.heap.size + 1 + 1) [.int .i64 b.x, .int .i64 b.y] 23 := by rw [hW]; exact ((Bb).old _).old _
  replace hw : Below w.heap.size w W3 := by have hl := hw.size; rw [hW]; go_grown
  clear hW hbp0
  refine (m0 _).mono ?_
  rintro e w4 ⟨rfl, hb⟩
  clear xt yt zt vt xa ya za va xb yb zb vb
  replace Bt := Bt.ext hb rfl
  replace Ba := Ba.ext hb rfl
  replace Bb := Bb.ext hb rfl
  replace Bp0 := Bp0.ext hb rfl
  replace Bq0 := Bq0.ext hb rfl
  replace hw := hw.trans (hb.mono hw.size)
  clear hb
  clear Bp0
  clear Bq0
  obtain ⟨xt, yt, zt, vt⟩ := Bt.facts
  obtain ⟨xa, ya, za, va⟩ := Ba.facts
  obtain ⟨xb, yb, zb, vb⟩ := Bb.facts
  go_wp2_with fail
  try rw [rounds_succ]
  go_wp2_with fail
  refine (e1 _).mono ?_
  rintro e w5 ⟨rfl, hb⟩
  clear xt yt zt vt xa ya za va xb yb zb vb
  replace Bt := Bt.ext hb rfl
  replace Ba := Ba.ext hb rfl
  replace Bb := Bb.ext hb rfl
  replace hw := hw.trans (hb.mono hw.size)
  clear hb
  obtain ⟨xt, yt, zt, vt⟩ := Bt.facts
  obtain ⟨xa, ya, za, va⟩ := Ba.facts
  obtain ⟨xb, yb, zb, vb⟩ := Bb.facts
  go_wp2_with fail
  refine at_call fun W6 hW => ?_
  obtain ⟨bkp1, hbp1⟩ : ∃ b, w5.heap.size = b := ⟨_, rfl⟩
  rw [hbp1]
  have ltp1 := Bt.lt
  rw [hbp1] at ltp1
  have lap1 := Ba.lt
  rw [hbp1] at lap1
  have lbp1 := Bb.lt
  rw [hbp1] at lbp1
  have fp1 := hw.size
  rw [hbp1] at fp1
  have Bp1 : Box W6 (bkp1) [.int .i64 T.B.x, .int .i64 T.B.y] 23 := by rw [hW, ← hbp1]; exact (Box.new rfl).old _
  have Bq1 : Box W6 (bkp1 + 1) [.int .i64 T.C.x, .int .i64 T.C.y] 23 := by rw [hW, ← hbp1]; exact Box.new (by simp)
  replace Bt : Box W6 (w.heap.size) [.int .i64 T.A.x, .int .i64 T.A.y, .int .i64 T.B.x, .int .i64 T.B.y, .int .i64 T.C.x, .int .i64 T.C.y] 25 := by rw [hW]; exact ((Bt).old _).old _
  replace Ba : Box W6 (w.heap.size + 1) [.int .i64 a.x, .int .i64 a.y] 23 := by rw [hW]; exact ((Ba).old _).old _
  replace Bb : Box W6 (w.heap.size + 1 + 1) [.int .i64 b.x, .int .i64 b.y] 23 := by rw [hW]; exact ((Bb).old _).old _
  replace hw : Below w.heap.size w W6 := by have hl := hw.size; rw [hW]; go_grown
  clear hW hbp1
  refine (m1 _).mono ?_
  rintro e w7 ⟨rfl, hb⟩
  clear xt yt zt vt xa ya za va xb yb zb vb
  replace Bt := Bt.ext hb rfl
  replace Ba := Ba.ext hb rfl
  replace Bb := Bb.ext hb rfl
  replace Bp1 := Bp1.ext hb rfl
  replace Bq1 := Bq1.ext hb rfl
  replace hw := hw.trans (hb.mono hw.size)
  clear hb
  clear Bp1
  clear Bq1
  obtain ⟨xt, yt, zt, vt⟩ := Bt.facts
  obtain ⟨xa, ya, za, va⟩ := Ba.facts
  obtain ⟨xb, yb, zb, vb⟩ := Bb.facts
  go_wp2_with fail
  try rw [rounds_succ]
  go_wp2_with fail
  refine (e2 _).mono ?_
  rintro e w8 ⟨rfl, hb⟩
  clear xt yt zt vt xa ya za va xb yb zb vb
  replace Bt := Bt.ext hb rfl
  replace Ba := Ba.ext hb rfl
  replace Bb := Bb.ext hb rfl
  replace hw := hw.trans (hb.mono hw.size)
  clear hb
  obtain ⟨xt, yt, zt, vt⟩ := Bt.facts
  obtain ⟨xa, ya, za, va⟩ := Ba.facts
  obtain ⟨xb, yb, zb, vb⟩ := Bb.facts
  go_wp2_with fail
  refine at_call fun W9 hW => ?_
  obtain ⟨bkp2, hbp2⟩ : ∃ b, w8.heap.size = b := ⟨_, rfl⟩
  rw [hbp2]
  have ltp2 := Bt.lt
  rw [hbp2] at ltp2
  have lap2 := Ba.lt
  rw [hbp2] at lap2
  have lbp2 := Bb.lt
  rw [hbp2] at lbp2
  have fp2 := hw.size
  rw [hbp2] at fp2
  have Bp2 : Box W9 (bkp2) [.int .i64 T.C.x, .int .i64 T.C.y] 23 := by rw [hW, ← hbp2]; exact (Box.new rfl).old _
  have Bq2 : Box W9 (bkp2 + 1) [.int .i64 T.A.x, .int .i64 T.A.y] 23 := by rw [hW, ← hbp2]; exact Box.new (by simp)
  replace Bt : Box W9 (w.heap.size) [.int .i64 T.A.x, .int .i64 T.A.y, .int .i64 T.B.x, .int .i64 T.B.y, .int .i64 T.C.x, .int .i64 T.C.y] 25 := by rw [hW]; exact ((Bt).old _).old _
  replace Ba : Box W9 (w.heap.size + 1) [.int .i64 a.x, .int .i64 a.y] 23 := by rw [hW]; exact ((Ba).old _).old _
  replace Bb : Box W9 (w.heap.size + 1 + 1) [.int .i64 b.x, .int .i64 b.y] 23 := by rw [hW]; exact ((Bb).old _).old _
  replace hw : Below w.heap.size w W9 := by have hl := hw.size; rw [hW]; go_grown
  clear hW hbp2
  refine (m2 _).mono ?_
  rintro e w10 ⟨rfl, hb⟩
  clear xt yt zt vt xa ya za va xb yb zb vb
  replace Bt := Bt.ext hb rfl
  replace Ba := Ba.ext hb rfl
  replace Bb := Bb.ext hb rfl
  replace Bp2 := Bp2.ext hb rfl
  replace Bq2 := Bq2.ext hb rfl
  replace hw := hw.trans (hb.mono hw.size)
  clear hb
  clear Bp2
  clear Bq2
  obtain ⟨xt, yt, zt, vt⟩ := Bt.facts
  obtain ⟨xa, ya, za, va⟩ := Ba.facts
  obtain ⟨xb, yb, zb, vb⟩ := Bb.facts
  go_wp2_with fail
  try rw [rounds_succ]
  go_wp2
  go_ret
  exact ⟨rfl, by have hl := hw.size; go_grown⟩

theorem oed_any (T : Tri3) (a b : Pt) (w : World) :
    Calls Try.prog 40 #[.agg #[.int .i64 T.A.x, .int .i64 T.A.y, .int .i64 T.B.x, .int .i64 T.B.y, .int .i64 T.C.x, .int .i64 T.C.y], .agg #[.int .i64 a.x, .int .i64 a.y], .agg #[.int .i64 b.x, .int .i64 b.y]] w fun e w' => e = .returned (.bool (oed T a b)) ∧ Below w.heap.size w w' := by
  unfold oed
  cases h0 : (meetS a b T.A T.B == 3) with
  | true => exact oed_0 T a b h0 w
  | false => cases h1 : (meetS a b T.B T.C == 3) with
    | true => exact oed_1 T a b h0 h1 w
    | false => cases h2 : (meetS a b T.C T.A == 3) with
      | true => exact oed_2 T a b h0 h1 h2 w
      | false => exact oed_3 T a b h0 h1 h2 w
def alg (T : Tri3) (a b : Pt) : Bool := valT T && (vld a && (vld b && (thr T a b || oed T a b)))
theorem alg_0 (T : Tri3) (a b : Pt) (h0 : valT T = false) (w : World) :
    Calls Try.prog 13 #[.agg #[.int .i64 T.A.x, .int .i64 T.A.y, .int .i64 T.B.x, .int .i64 T.B.y, .int .i64 T.C.x, .int .i64 T.C.y], .agg #[.int .i64 a.x, .int .i64 a.y], .agg #[.int .i64 b.x, .int .i64 b.y]] w fun e w' => e = .returned (.bool false) ∧ Below w.heap.size w w' := by
  have c0 := tvalid_any T
  have c1 := valid_any a
  have c2 := valid_any b
  have c3 := thr_any T a b
  have c4 := oed_any T a b
  rw [h0] at c0
  clear h0
  generalize oed T a b = m at *
  go_enter Try.func13, Try.ntmps13
  go_wp2_with fail
  refine at_call fun W1 hW => ?_
  have Bt : Box W1 (w.heap.size) [.int .i64 T.A.x, .int .i64 T.A.y, .int .i64 T.B.x, .int .i64 T.B.y, .int .i64 T.C.x, .int .i64 T.C.y] 25 := by rw [hW]; exact ((Box.new rfl).old _).old _
  have Ba : Box W1 (w.heap.size + 1) [.int .i64 a.x, .int .i64 a.y] 23 := by rw [hW]; exact (Box.new (by simp)).old _
  have Bb : Box W1 (w.heap.size + 1 + 1) [.int .i64 b.x, .int .i64 b.y] 23 := by rw [hW]; exact Box.new (by simp)
  have hw : Below w.heap.size w W1 := by rw [hW]; go_grown
  clear hW
  refine (c0 _).mono ?_
  rintro e w2 ⟨rfl, hb⟩
  replace Bt := Bt.ext hb rfl
  replace Ba := Ba.ext hb rfl
  replace Bb := Bb.ext hb rfl
  replace hw := hw.trans (hb.mono hw.size)
  clear hb
  obtain ⟨xt, yt, zt, vt⟩ := Bt.facts
  obtain ⟨xa, ya, za, va⟩ := Ba.facts
  obtain ⟨xb, yb, zb, vb⟩ := Bb.facts
  go_wp2
  go_ret
  exact ⟨rfl, by have hl := hw.size; go_grown⟩

theorem alg_1 (T : Tri3) (a b : Pt) (h0 : valT T = true) (h1 : vld a = false) (w : World) :
    Calls Try.prog 13 #[.agg #[.int .i64 T.A.x, .int .i64 T.A.y, .int .i64 T.B.x, .int .i64 T.B.y, .int .i64 T.C.x, .int .i64 T.C.y], .agg #[.int .i64 a.x, .int .i64 a.y], .agg #[.int .i64 b.x, .int .i64 b.y]] w fun e w' => e = .returned (.bool false) ∧ Below w.heap.size w w' := by
  have c0 := tvalid_any T
  have c1 := valid_any a
  have c2 := valid_any b
  have c3 := thr_any T a b
  have c4 := oed_any T a b
  rw [h0] at c0
  rw [h1] at c1
  clear h0 h1
  generalize oed T a b = m at *
  go_enter Try.func13, Try.ntmps13
  go_wp2_with fail
  refine at_call fun W1 hW => ?_
  have Bt : Box W1 (w.heap.size) [.int .i64 T.A.x, .int .i64 T.A.y, .int .i64 T.B.x, .int .i64 T.B.y, .int .i64 T.C.x, .int .i64 T.C.y] 25 := by rw [hW]; exact ((Box.new rfl).old _).old _
  have Ba : Box W1 (w.heap.size + 1) [.int .i64 a.x, .int .i64 a.y] 23 := by rw [hW]; exact (Box.new (by simp)).old _
  have Bb : Box W1 (w.heap.size + 1 + 1) [.int .i64 b.x, .int .i64 b.y] 23 := by rw [hW]; exact Box.new (by simp)
  have hw : Below w.heap.size w W1 := by rw [hW]; go_grown
  clear hW
  refine (c0 _).mono ?_
  rintro e w2 ⟨rfl, hb⟩
  replace Bt := Bt.ext hb rfl
  replace Ba := Ba.ext hb rfl
  replace Bb := Bb.ext hb rfl
  replace hw := hw.trans (hb.mono hw.size)
  clear hb
  obtain ⟨xt, yt, zt, vt⟩ := Bt.facts
  obtain ⟨xa, ya, za, va⟩ := Ba.facts
  obtain ⟨xb, yb, zb, vb⟩ := Bb.facts
  go_wp2_with fail
  refine (c1 _).mono ?_
  rintro e w3 ⟨rfl, hb⟩
  clear xt yt zt vt xa ya za va xb yb zb vb
  replace Bt := Bt.ext hb rfl
  replace Ba := Ba.ext hb rfl
  replace Bb := Bb.ext hb rfl
  replace hw := hw.trans (hb.mono hw.size)
  clear hb
  obtain ⟨xt, yt, zt, vt⟩ := Bt.facts
  obtain ⟨xa, ya, za, va⟩ := Ba.facts
  obtain ⟨xb, yb, zb, vb⟩ := Bb.facts
  go_wp2
  go_ret
  exact ⟨rfl, by have hl := hw.size; go_grown⟩

theorem alg_2 (T : Tri3) (a b : Pt) (h0 : valT T = true) (h1 : vld a = true) (h2 : vld b = false) (w : World) :
    Calls Try.prog 13 #[.agg #[.int .i64 T.A.x, .int .i64 T.A.y, .int .i64 T.B.x, .int .i64 T.B.y, .int .i64 T.C.x, .int .i64 T.C.y], .agg #[.int .i64 a.x, .int .i64 a.y], .agg #[.int .i64 b.x, .int .i64 b.y]] w fun e w' => e = .returned (.bool false) ∧ Below w.heap.size w w' := by
  have c0 := tvalid_any T
  have c1 := valid_any a
  have c2 := valid_any b
  have c3 := thr_any T a b
  have c4 := oed_any T a b
  rw [h0] at c0
  rw [h1] at c1
  rw [h2] at c2
  clear h0 h1 h2
  generalize oed T a b = m at *
  go_enter Try.func13, Try.ntmps13
  go_wp2_with fail
  refine at_call fun W1 hW => ?_
  have Bt : Box W1 (w.heap.size) [.int .i64 T.A.x, .int .i64 T.A.y, .int .i64 T.B.x, .int .i64 T.B.y, .int .i64 T.C.x, .int .i64 T.C.y] 25 := by rw [hW]; exact ((Box.new rfl).old _).old _
  have Ba : Box W1 (w.heap.size + 1) [.int .i64 a.x, .int .i64 a.y] 23 := by rw [hW]; exact (Box.new (by simp)).old _
  have Bb : Box W1 (w.heap.size + 1 + 1) [.int .i64 b.x, .int .i64 b.y] 23 := by rw [hW]; exact Box.new (by simp)
  have hw : Below w.heap.size w W1 := by rw [hW]; go_grown
  clear hW
  refine (c0 _).mono ?_
  rintro e w2 ⟨rfl, hb⟩
  replace Bt := Bt.ext hb rfl
  replace Ba := Ba.ext hb rfl
  replace Bb := Bb.ext hb rfl
  replace hw := hw.trans (hb.mono hw.size)
  clear hb
  obtain ⟨xt, yt, zt, vt⟩ := Bt.facts
  obtain ⟨xa, ya, za, va⟩ := Ba.facts
  obtain ⟨xb, yb, zb, vb⟩ := Bb.facts
  go_wp2_with fail
  refine (c1 _).mono ?_
  rintro e w3 ⟨rfl, hb⟩
  clear xt yt zt vt xa ya za va xb yb zb vb
  replace Bt := Bt.ext hb rfl
  replace Ba := Ba.ext hb rfl
  replace Bb := Bb.ext hb rfl
  replace hw := hw.trans (hb.mono hw.size)
  clear hb
  obtain ⟨xt, yt, zt, vt⟩ := Bt.facts
  obtain ⟨xa, ya, za, va⟩ := Ba.facts
  obtain ⟨xb, yb, zb, vb⟩ := Bb.facts
  go_wp2_with fail
  refine (c2 _).mono ?_
  rintro e w4 ⟨rfl, hb⟩
  clear xt yt zt vt xa ya za va xb yb zb vb
  replace Bt := Bt.ext hb rfl
  replace Ba := Ba.ext hb rfl
  replace Bb := Bb.ext hb rfl
  replace hw := hw.trans (hb.mono hw.size)
  clear hb
  obtain ⟨xt, yt, zt, vt⟩ := Bt.facts
  obtain ⟨xa, ya, za, va⟩ := Ba.facts
  obtain ⟨xb, yb, zb, vb⟩ := Bb.facts
  go_wp2
  go_ret
  exact ⟨rfl, by have hl := hw.size; go_grown⟩

theorem alg_3 (T : Tri3) (a b : Pt) (h0 : valT T = true) (h1 : vld a = true) (h2 : vld b = true) (h3 : thr T a b = true) (w : World) :
    Calls Try.prog 13 #[.agg #[.int .i64 T.A.x, .int .i64 T.A.y, .int .i64 T.B.x, .int .i64 T.B.y, .int .i64 T.C.x, .int .i64 T.C.y], .agg #[.int .i64 a.x, .int .i64 a.y], .agg #[.int .i64 b.x, .int .i64 b.y]] w fun e w' => e = .returned (.bool true) ∧ Below w.heap.size w w' := by
  have c0 := tvalid_any T
  have c1 := valid_any a
  have c2 := valid_any b
  have c3 := thr_any T a b
  have c4 := oed_any T a b
  rw [h0] at c0
  rw [h1] at c1
  rw [h2] at c2
  rw [h3] at c3
  clear h0 h1 h2 h3
  generalize oed T a b = m at *
  go_enter Try.func13, Try.ntmps13
  go_wp2_with fail
  refine at_call fun W1 hW => ?_
  have Bt : Box W1 (w.heap.size) [.int .i64 T.A.x, .int .i64 T.A.y, .int .i64 T.B.x, .int .i64 T.B.y, .int .i64 T.C.x, .int .i64 T.C.y] 25 := by rw [hW]; exact ((Box.new rfl).old _).old _
  have Ba : Box W1 (w.heap.size + 1) [.int .i64 a.x, .int .i64 a.y] 23 := by rw [hW]; exact (Box.new (by simp)).old _
  have Bb : Box W1 (w.heap.size + 1 + 1) [.int .i64 b.x, .int .i64 b.y] 23 := by rw [hW]; exact Box.new (by simp)
  have hw : Below w.heap.size w W1 := by rw [hW]; go_grown
  clear hW
  refine (c0 _).mono ?_
  rintro e w2 ⟨rfl, hb⟩
  replace Bt := Bt.ext hb rfl
  replace Ba := Ba.ext hb rfl
  replace Bb := Bb.ext hb rfl
  replace hw := hw.trans (hb.mono hw.size)
  clear hb
  obtain ⟨xt, yt, zt, vt⟩ := Bt.facts
  obtain ⟨xa, ya, za, va⟩ := Ba.facts
  obtain ⟨xb, yb, zb, vb⟩ := Bb.facts
  go_wp2_with fail
  refine (c1 _).mono ?_
  rintro e w3 ⟨rfl, hb⟩
  clear xt yt zt vt xa ya za va xb yb zb vb
  replace Bt := Bt.ext hb rfl
  replace Ba := Ba.ext hb rfl
  replace Bb := Bb.ext hb rfl
  replace hw := hw.trans (hb.mono hw.size)
  clear hb
  obtain ⟨xt, yt, zt, vt⟩ := Bt.facts
  obtain ⟨xa, ya, za, va⟩ := Ba.facts
  obtain ⟨xb, yb, zb, vb⟩ := Bb.facts
  go_wp2_with fail
  refine (c2 _).mono ?_
  rintro e w4 ⟨rfl, hb⟩
  clear xt yt zt vt xa ya za va xb yb zb vb
  replace Bt := Bt.ext hb rfl
  replace Ba := Ba.ext hb rfl
  replace Bb := Bb.ext hb rfl
  replace hw := hw.trans (hb.mono hw.size)
  clear hb
  obtain ⟨xt, yt, zt, vt⟩ := Bt.facts
  obtain ⟨xa, ya, za, va⟩ := Ba.facts
  obtain ⟨xb, yb, zb, vb⟩ := Bb.facts
  go_wp2_with fail
  refine (c3 _).mono ?_
  rintro e w5 ⟨rfl, hb⟩
  clear xt yt zt vt xa ya za va xb yb zb vb
  replace Bt := Bt.ext hb rfl
  replace Ba := Ba.ext hb rfl
  replace Bb := Bb.ext hb rfl
  replace hw := hw.trans (hb.mono hw.size)
  clear hb
  obtain ⟨xt, yt, zt, vt⟩ := Bt.facts
  obtain ⟨xa, ya, za, va⟩ := Ba.facts
  obtain ⟨xb, yb, zb, vb⟩ := Bb.facts
  go_wp2
  go_ret
  exact ⟨rfl, by have hl := hw.size; go_grown⟩

theorem alg_4 (T : Tri3) (a b : Pt) (h0 : valT T = true) (h1 : vld a = true) (h2 : vld b = true) (h3 : thr T a b = false) (w : World) :
    Calls Try.prog 13 #[.agg #[.int .i64 T.A.x, .int .i64 T.A.y, .int .i64 T.B.x, .int .i64 T.B.y, .int .i64 T.C.x, .int .i64 T.C.y], .agg #[.int .i64 a.x, .int .i64 a.y], .agg #[.int .i64 b.x, .int .i64 b.y]] w fun e w' => e = .returned (.bool (oed T a b)) ∧ Below w.heap.size w w' := by
  have c0 := tvalid_any T
  have c1 := valid_any a
  have c2 := valid_any b
  have c3 := thr_any T a b
  have c4 := oed_any T a b
  rw [h0] at c0
  rw [h1] at c1
  rw [h2] at c2
  rw [h3] at c3
  clear h0 h1 h2 h3
  generalize oed T a b = m at *
  go_enter Try.func13, Try.ntmps13
  go_wp2_with fail
  refine at_call fun W1 hW => ?_
  have Bt : Box W1 (w.heap.size) [.int .i64 T.A.x, .int .i64 T.A.y, .int .i64 T.B.x, .int .i64 T.B.y, .int .i64 T.C.x, .int .i64 T.C.y] 25 := by rw [hW]; exact ((Box.new rfl).old _).old _
  have Ba : Box W1 (w.heap.size + 1) [.int .i64 a.x, .int .i64 a.y] 23 := by rw [hW]; exact (Box.new (by simp)).old _
  have Bb : Box W1 (w.heap.size + 1 + 1) [.int .i64 b.x, .int .i64 b.y] 23 := by rw [hW]; exact Box.new (by simp)
  have hw : Below w.heap.size w W1 := by rw [hW]; go_grown
  clear hW
  refine (c0 _).mono ?_
  rintro e w2 ⟨rfl, hb⟩
  replace Bt := Bt.ext hb rfl
  replace Ba := Ba.ext hb rfl
  replace Bb := Bb.ext hb rfl
  replace hw := hw.trans (hb.mono hw.size)
  clear hb
  obtain ⟨xt, yt, zt, vt⟩ := Bt.facts
  obtain ⟨xa, ya, za, va⟩ := Ba.facts
  obtain ⟨xb, yb, zb, vb⟩ := Bb.facts
  go_wp2_with fail
  refine (c1 _).mono ?_
  rintro e w3 ⟨rfl, hb⟩
  clear xt yt zt vt xa ya za va xb yb zb vb
  replace Bt := Bt.ext hb rfl
  replace Ba := Ba.ext hb rfl
  replace Bb := Bb.ext hb rfl
  replace hw := hw.trans (hb.mono hw.size)
  clear hb
  obtain ⟨xt, yt, zt, vt⟩ := Bt.facts
  obtain ⟨xa, ya, za, va⟩ := Ba.facts
  obtain ⟨xb, yb, zb, vb⟩ := Bb.facts
  go_wp2_with fail
  refine (c2 _).mono ?_
  rintro e w4 ⟨rfl, hb⟩
  clear xt yt zt vt xa ya za va xb yb zb vb
  replace Bt := Bt.ext hb rfl
  replace Ba := Ba.ext hb rfl
  replace Bb := Bb.ext hb rfl
  replace hw := hw.trans (hb.mono hw.size)
  clear hb
  obtain ⟨xt, yt, zt, vt⟩ := Bt.facts
  obtain ⟨xa, ya, za, va⟩ := Ba.facts
  obtain ⟨xb, yb, zb, vb⟩ := Bb.facts
  go_wp2_with fail
  refine (c3 _).mono ?_
  rintro e w5 ⟨rfl, hb⟩
  clear xt yt zt vt xa ya za va xb yb zb vb
  replace Bt := Bt.ext hb rfl
  replace Ba := Ba.ext hb rfl
  replace Bb := Bb.ext hb rfl
  replace hw := hw.trans (hb.mono hw.size)
  clear hb
  obtain ⟨xt, yt, zt, vt⟩ := Bt.facts
  obtain ⟨xa, ya, za, va⟩ := Ba.facts
  obtain ⟨xb, yb, zb, vb⟩ := Bb.facts
  go_wp2_with fail
  refine (c4 _).mono ?_
  rintro e w6 ⟨rfl, hb⟩
  clear xt yt zt vt xa ya za va xb yb zb vb
  replace Bt := Bt.ext hb rfl
  replace Ba := Ba.ext hb rfl
  replace Bb := Bb.ext hb rfl
  replace hw := hw.trans (hb.mono hw.size)
  clear hb
  obtain ⟨xt, yt, zt, vt⟩ := Bt.facts
  obtain ⟨xa, ya, za, va⟩ := Ba.facts
  obtain ⟨xb, yb, zb, vb⟩ := Bb.facts
  go_wp2
  go_ret
  exact ⟨rfl, by have hl := hw.size; go_grown⟩

theorem alg_any (T : Tri3) (a b : Pt) (w : World) :
    Calls Try.prog 13 #[.agg #[.int .i64 T.A.x, .int .i64 T.A.y, .int .i64 T.B.x, .int .i64 T.B.y, .int .i64 T.C.x, .int .i64 T.C.y], .agg #[.int .i64 a.x, .int .i64 a.y], .agg #[.int .i64 b.x, .int .i64 b.y]] w fun e w' => e = .returned (.bool (alg T a b)) ∧ Below w.heap.size w w' := by
  unfold alg
  cases h0 : valT T with
  | false => exact alg_0 T a b h0 w
  | true => cases h1 : vld a with
    | false => exact alg_1 T a b h0 h1 w
    | true => cases h2 : vld b with
      | false => exact alg_2 T a b h0 h1 h2 w
      | true => cases h3 : thr T a b with
        | true => exact alg_3 T a b h0 h1 h2 h3 w
        | false => exact alg_4 T a b h0 h1 h2 h3 w
theorem corners_any (r : Rc) (w : World) :
    Calls Try.prog 36 #[.agg #[.int .i64 r.x0, .int .i64 r.y0, .int .i64 r.x1, .int .i64 r.y1]] w fun e w' => ∃ g, e = .returned (.slice (some ⟨g, 0, none⟩) 4 4) ∧ w.heap.size ≤ g ∧ Box w' g [.int .i64 r.x0, .int .i64 r.y0, .int .i64 r.x1, .int .i64 r.y0, .int .i64 r.x1, .int .i64 r.y1, .int .i64 r.x0, .int .i64 r.y1] 23 ∧ Below w.heap.size w w' := by
  go_enter Try.func36, Try.ntmps36
  go_wp2_with fail
  go_ret
  exact ⟨_, rfl, by simp, Box.new (by simp), by go_grown⟩
end Go.Proofs.Ytomdlhdpbdkdhaa
