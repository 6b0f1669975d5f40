/- Whoever is in a triangle, or on an edge and no corner, is in its circle: the law ExactCorners of package hectarelaw2 answers true at every input; no conditions. -/
import Derived.Test.YtmdehannbbpnaaaRows
import Derived.Test.YtmdehannbbpnaaaExS
import Derived.Test.YtmdehannbbpnaaaExT
import Derived.Test.YtmdehannbbpnaaaExW
import Derived.Test.YtmdehannbbpnaaaPost
import Derived.WalkKit
import Derived.WalkSpells
import Derived.WalkLawsBesides
import Derived.Deep.QuietTactic
import Derived.BigQuiet
import Derived.Lib.Hide
import Derived.Handy
import Derived.ProofKit
import Derived.Lib.SmallJoins
namespace Go.Proofs.Ytmdehannbbpnaaa
open Go.RowKit Go.Sort Go.ChangeShapes Go.WideShapes Go.ChangeAt
attribute [local go_sem] rOper rAt rUpon cell_set sg_i64 sg_u64 alloc_cell alloc_frozen
attribute [local go_sem 10000] pt_eql pt_neq
attribute [local irreducible] rWalk

set_option maxRecDepth 100000 in
set_option maxHeartbeats 2000000 in
theorem corners_0 (a b c d : Pt) (h0 : (!decide (ori a b c = 0)) = false) (w : World) :
    Calls Try.prog 9 #[.agg #[.int .i64 a.x, .int .i64 a.y], .agg #[.int .i64 b.x, .int .i64 b.y], .agg #[.int .i64 c.x, .int .i64 c.y], .agg #[.int .i64 d.x, .int .i64 d.y]] w fun e w' => e = .returned (.bool true) ∧ Below w.heap.size w w' := by
  have cm := rmake_any a b c
  rw [h0] at cm
  clear h0
  generalize mk a b c = M at *
  go_enter Try.func9, Try.ntmps9
  go_wp2_with fail
  refine at_call fun W1 hW => ?_
  have Ba : Box W1 (w.heap.size) [.int .i64 a.x, .int .i64 a.y] 23 := by rw [hW]; exact (((Box.new rfl).old _).old _).old _
  have Bb : Box W1 (w.heap.size + 1) [.int .i64 b.x, .int .i64 b.y] 23 := by rw [hW]; exact ((Box.new (by simp)).old _).old _
  have Bc : Box W1 (w.heap.size + 1 + 1) [.int .i64 c.x, .int .i64 c.y] 23 := by rw [hW]; exact (Box.new (by simp)).old _
  have Bd : Box W1 (w.heap.size + 1 + 1 + 1) [.int .i64 d.x, .int .i64 d.y] 23 := by rw [hW]; exact Box.new (by simp)
  have hw : Below w.heap.size w W1 := by rw [hW]; go_grown
  clear hW
  refine (cm _).mono ?_
  rintro e w2 ⟨rfl, hb⟩
  replace Ba := Ba.ext hb rfl
  replace Bb := Bb.ext hb rfl
  replace Bc := Bc.ext hb rfl
  replace Bd := Bd.ext hb rfl
  replace hw := hw.trans (hb.mono hw.size)
  clear hb
  obtain ⟨xa, ya, za, va⟩ := Ba.facts
  obtain ⟨xb, yb, zb, vb⟩ := Bb.facts
  obtain ⟨xc, yc, zc, vc⟩ := Bc.facts
  obtain ⟨xd, yd, zd, vd⟩ := Bd.facts
  go_wp2_with fail
  refine at_call fun W3 hW => ?_
  obtain ⟨bkt, hbt⟩ : ∃ b, w2.heap.size = b := ⟨_, rfl⟩
  rw [hbt]
  have lat := Ba.lt
  rw [hbt] at lat
  have lbt := Bb.lt
  rw [hbt] at lbt
  have lct := Bc.lt
  rw [hbt] at lct
  have ldt := Bd.lt
  rw [hbt] at ldt
  have ft := hw.size
  rw [hbt] at ft
  have Bt : Box W3 bkt [.int .i64 M.A.x, .int .i64 M.A.y, .int .i64 M.B.x, .int .i64 M.B.y, .int .i64 M.C.x, .int .i64 M.C.y] 36 := by rw [hW]; exact Box.new hbt.symm
  replace Ba : Box W3 (w.heap.size) [.int .i64 a.x, .int .i64 a.y] 23 := by rw [hW]; exact Ba.old _
  replace Bb : Box W3 (w.heap.size + 1) [.int .i64 b.x, .int .i64 b.y] 23 := by rw [hW]; exact Bb.old _
  replace Bc : Box W3 (w.heap.size + 1 + 1) [.int .i64 c.x, .int .i64 c.y] 23 := by rw [hW]; exact Bc.old _
  replace Bd : Box W3 (w.heap.size + 1 + 1 + 1) [.int .i64 d.x, .int .i64 d.y] 23 := by rw [hW]; exact Bd.old _
  replace hw : Below w.heap.size w W3 := by have hl := hw.size; rw [hW]; go_grown
  clear hW hbt
  refine (awake_any _).mono ?_
  rintro e w4 ⟨rfl, hb⟩
  clear xa ya za va xb yb zb vb xc yc zc vc xd yd zd vd
  replace Ba := Ba.ext hb rfl
  replace Bb := Bb.ext hb rfl
  replace Bc := Bc.ext hb rfl
  replace Bd := Bd.ext hb rfl
  replace Bt := Bt.ext hb rfl
  replace hw := hw.trans (hb.mono hw.size)
  clear hb
  go_wp2
  go_ret
  exact ⟨rfl, hw⟩

set_option maxRecDepth 100000 in
set_option maxHeartbeats 2000000 in
theorem corners_1 (a b c d : Pt) (h0 : (!decide (ori a b c = 0)) = true) (h1 : hasP (mk a b c) d = false) (w : World) :
    Calls Try.prog 9 #[.agg #[.int .i64 a.x, .int .i64 a.y], .agg #[.int .i64 b.x, .int .i64 b.y], .agg #[.int .i64 c.x, .int .i64 c.y], .agg #[.int .i64 d.x, .int .i64 d.y]] w fun e w' => e = .returned (.bool true) ∧ Below w.heap.size w w' := by
  have cm := rmake_any a b c
  rw [h0] at cm
  have ch := rhasP_any (mk a b c) d
  rw [h1] at ch
  clear h0 h1
  generalize mk a b c = M at *
  go_enter Try.func9, Try.ntmps9
  go_wp2_with fail
  refine at_call fun W1 hW => ?_
  have Ba : Box W1 (w.heap.size) [.int .i64 a.x, .int .i64 a.y] 23 := by rw [hW]; exact (((Box.new rfl).old _).old _).old _
  have Bb : Box W1 (w.heap.size + 1) [.int .i64 b.x, .int .i64 b.y] 23 := by rw [hW]; exact ((Box.new (by simp)).old _).old _
  have Bc : Box W1 (w.heap.size + 1 + 1) [.int .i64 c.x, .int .i64 c.y] 23 := by rw [hW]; exact (Box.new (by simp)).old _
  have Bd : Box W1 (w.heap.size + 1 + 1 + 1) [.int .i64 d.x, .int .i64 d.y] 23 := by rw [hW]; exact Box.new (by simp)
  have hw : Below w.heap.size w W1 := by rw [hW]; go_grown
  clear hW
  refine (cm _).mono ?_
  rintro e w2 ⟨rfl, hb⟩
  replace Ba := Ba.ext hb rfl
  replace Bb := Bb.ext hb rfl
  replace Bc := Bc.ext hb rfl
  replace Bd := Bd.ext hb rfl
  replace hw := hw.trans (hb.mono hw.size)
  clear hb
  obtain ⟨xa, ya, za, va⟩ := Ba.facts
  obtain ⟨xb, yb, zb, vb⟩ := Bb.facts
  obtain ⟨xc, yc, zc, vc⟩ := Bc.facts
  obtain ⟨xd, yd, zd, vd⟩ := Bd.facts
  go_wp2_with fail
  refine at_call fun W3 hW => ?_
  obtain ⟨bkt, hbt⟩ : ∃ b, w2.heap.size = b := ⟨_, rfl⟩
  rw [hbt]
  have lat := Ba.lt
  rw [hbt] at lat
  have lbt := Bb.lt
  rw [hbt] at lbt
  have lct := Bc.lt
  rw [hbt] at lct
  have ldt := Bd.lt
  rw [hbt] at ldt
  have ft := hw.size
  rw [hbt] at ft
  have Bt : Box W3 bkt [.int .i64 M.A.x, .int .i64 M.A.y, .int .i64 M.B.x, .int .i64 M.B.y, .int .i64 M.C.x, .int .i64 M.C.y] 36 := by rw [hW]; exact Box.new hbt.symm
  replace Ba : Box W3 (w.heap.size) [.int .i64 a.x, .int .i64 a.y] 23 := by rw [hW]; exact Ba.old _
  replace Bb : Box W3 (w.heap.size + 1) [.int .i64 b.x, .int .i64 b.y] 23 := by rw [hW]; exact Bb.old _
  replace Bc : Box W3 (w.heap.size + 1 + 1) [.int .i64 c.x, .int .i64 c.y] 23 := by rw [hW]; exact Bc.old _
  replace Bd : Box W3 (w.heap.size + 1 + 1 + 1) [.int .i64 d.x, .int .i64 d.y] 23 := by rw [hW]; exact Bd.old _
  replace hw : Below w.heap.size w W3 := by have hl := hw.size; rw [hW]; go_grown
  clear hW hbt
  refine (ch _).mono ?_
  rintro e w4 ⟨rfl, hb⟩
  clear xa ya za va xb yb zb vb xc yc zc vc xd yd zd vd
  replace Ba := Ba.ext hb rfl
  replace Bb := Bb.ext hb rfl
  replace Bc := Bc.ext hb rfl
  replace Bd := Bd.ext hb rfl
  replace Bt := Bt.ext hb rfl
  replace hw := hw.trans (hb.mono hw.size)
  clear hb
  obtain ⟨xa, ya, za, va⟩ := Ba.facts
  obtain ⟨xb, yb, zb, vb⟩ := Bb.facts
  obtain ⟨xc, yc, zc, vc⟩ := Bc.facts
  obtain ⟨xd, yd, zd, vd⟩ := Bd.facts
  obtain ⟨xt, yt, zt, vt⟩ := Bt.facts
  go_wp2_with fail
  refine (awake_any _).mono ?_
  rintro e w5 ⟨rfl, hb⟩
  clear xa ya za va xb yb zb vb xc yc zc vc xd yd zd vd xt yt zt vt
  replace Ba := Ba.ext hb rfl
  replace Bb := Bb.ext hb rfl
  replace Bc := Bc.ext hb rfl
  replace Bd := Bd.ext hb rfl
  replace Bt := Bt.ext hb rfl
  replace hw := hw.trans (hb.mono hw.size)
  clear hb
  go_wp2
  go_ret
  exact ⟨rfl, hw⟩

set_option maxRecDepth 100000 in
set_option maxHeartbeats 2000000 in
theorem corners_2 (a b c d : Pt) (h0 : (!decide (ori a b c = 0)) = true) (h1 : hasP (mk a b c) d = true) (e1 : peqI d.x d.y a.x a.y = true) (w : World) :
    Calls Try.prog 9 #[.agg #[.int .i64 a.x, .int .i64 a.y], .agg #[.int .i64 b.x, .int .i64 b.y], .agg #[.int .i64 c.x, .int .i64 c.y], .agg #[.int .i64 d.x, .int .i64 d.y]] w fun e w' => e = .returned (.bool true) ∧ Below w.heap.size w w' := by
  have cm := rmake_any a b c
  rw [h0] at cm
  have ch := rhasP_any (mk a b c) d
  rw [h1] at ch
  clear h0 h1
  generalize mk a b c = M at *
  go_enter Try.func9, Try.ntmps9
  go_wp2_with fail
  refine at_call fun W1 hW => ?_
  have Ba : Box W1 (w.heap.size) [.int .i64 a.x, .int .i64 a.y] 23 := by rw [hW]; exact (((Box.new rfl).old _).old _).old _
  have Bb : Box W1 (w.heap.size + 1) [.int .i64 b.x, .int .i64 b.y] 23 := by rw [hW]; exact ((Box.new (by simp)).old _).old _
  have Bc : Box W1 (w.heap.size + 1 + 1) [.int .i64 c.x, .int .i64 c.y] 23 := by rw [hW]; exact (Box.new (by simp)).old _
  have Bd : Box W1 (w.heap.size + 1 + 1 + 1) [.int .i64 d.x, .int .i64 d.y] 23 := by rw [hW]; exact Box.new (by simp)
  have hw : Below w.heap.size w W1 := by rw [hW]; go_grown
  clear hW
  refine (cm _).mono ?_
  rintro e w2 ⟨rfl, hb⟩
  replace Ba := Ba.ext hb rfl
  replace Bb := Bb.ext hb rfl
  replace Bc := Bc.ext hb rfl
  replace Bd := Bd.ext hb rfl
  replace hw := hw.trans (hb.mono hw.size)
  clear hb
  obtain ⟨xa, ya, za, va⟩ := Ba.facts
  obtain ⟨xb, yb, zb, vb⟩ := Bb.facts
  obtain ⟨xc, yc, zc, vc⟩ := Bc.facts
  obtain ⟨xd, yd, zd, vd⟩ := Bd.facts
  go_wp2_with fail
  refine at_call fun W3 hW => ?_
  obtain ⟨bkt, hbt⟩ : ∃ b, w2.heap.size = b := ⟨_, rfl⟩
  rw [hbt]
  have lat := Ba.lt
  rw [hbt] at lat
  have lbt := Bb.lt
  rw [hbt] at lbt
  have lct := Bc.lt
  rw [hbt] at lct
  have ldt := Bd.lt
  rw [hbt] at ldt
  have ft := hw.size
  rw [hbt] at ft
  have Bt : Box W3 bkt [.int .i64 M.A.x, .int .i64 M.A.y, .int .i64 M.B.x, .int .i64 M.B.y, .int .i64 M.C.x, .int .i64 M.C.y] 36 := by rw [hW]; exact Box.new hbt.symm
  replace Ba : Box W3 (w.heap.size) [.int .i64 a.x, .int .i64 a.y] 23 := by rw [hW]; exact Ba.old _
  replace Bb : Box W3 (w.heap.size + 1) [.int .i64 b.x, .int .i64 b.y] 23 := by rw [hW]; exact Bb.old _
  replace Bc : Box W3 (w.heap.size + 1 + 1) [.int .i64 c.x, .int .i64 c.y] 23 := by rw [hW]; exact Bc.old _
  replace Bd : Box W3 (w.heap.size + 1 + 1 + 1) [.int .i64 d.x, .int .i64 d.y] 23 := by rw [hW]; exact Bd.old _
  replace hw : Below w.heap.size w W3 := by have hl := hw.size; rw [hW]; go_grown
  clear hW hbt
  refine (ch _).mono ?_
  rintro e w4 ⟨rfl, hb⟩
  clear xa ya za va xb yb zb vb xc yc zc vc xd yd zd vd
  replace Ba := Ba.ext hb rfl
  replace Bb := Bb.ext hb rfl
  replace Bc := Bc.ext hb rfl
  replace Bd := Bd.ext hb rfl
  replace Bt := Bt.ext hb rfl
  replace hw := hw.trans (hb.mono hw.size)
  clear hb
  obtain ⟨xa, ya, za, va⟩ := Ba.facts
  obtain ⟨xb, yb, zb, vb⟩ := Bb.facts
  obtain ⟨xc, yc, zc, vc⟩ := Bc.facts
  obtain ⟨xd, yd, zd, vd⟩ := Bd.facts
  obtain ⟨xt, yt, zt, vt⟩ := Bt.facts
  go_wp2_with fail
  refine (awake_any _).mono ?_
  rintro e w5 ⟨rfl, hb⟩
  clear xa ya za va xb yb zb vb xc yc zc vc xd yd zd vd xt yt zt vt
  replace Ba := Ba.ext hb rfl
  replace Bb := Bb.ext hb rfl
  replace Bc := Bc.ext hb rfl
  replace Bd := Bd.ext hb rfl
  replace Bt := Bt.ext hb rfl
  replace hw := hw.trans (hb.mono hw.size)
  clear hb
  go_wp2
  go_ret
  exact ⟨rfl, hw⟩

set_option maxRecDepth 100000 in
set_option maxHeartbeats 2000000 in
theorem corners_3 (a b c d : Pt) (h0 : (!decide (ori a b c = 0)) = true) (h1 : hasP (mk a b c) d = true) (e1 : peqI d.x d.y a.x a.y = false) (e2 : peqI d.x d.y b.x b.y = true) (w : World) :
    Calls Try.prog 9 #[.agg #[.int .i64 a.x, .int .i64 a.y], .agg #[.int .i64 b.x, .int .i64 b.y], .agg #[.int .i64 c.x, .int .i64 c.y], .agg #[.int .i64 d.x, .int .i64 d.y]] w fun e w' => e = .returned (.bool true) ∧ Below w.heap.size w w' := by
  have cm := rmake_any a b c
  rw [h0] at cm
  have ch := rhasP_any (mk a b c) d
  rw [h1] at ch
  clear h0 h1
  generalize mk a b c = M at *
  go_enter Try.func9, Try.ntmps9
  go_wp2_with fail
  refine at_call fun W1 hW => ?_
  have Ba : Box W1 (w.heap.size) [.int .i64 a.x, .int .i64 a.y] 23 := by rw [hW]; exact (((Box.new rfl).old _).old _).old _
  have Bb : Box W1 (w.heap.size + 1) [.int .i64 b.x, .int .i64 b.y] 23 := by rw [hW]; exact ((Box.new (by simp)).old _).old _
  have Bc : Box W1 (w.heap.size + 1 + 1) [.int .i64 c.x, .int .i64 c.y] 23 := by rw [hW]; exact (Box.new (by simp)).old _
  have Bd : Box W1 (w.heap.size + 1 + 1 + 1) [.int .i64 d.x, .int .i64 d.y] 23 := by rw [hW]; exact Box.new (by simp)
  have hw : Below w.heap.size w W1 := by rw [hW]; go_grown
  clear hW
  refine (cm _).mono ?_
  rintro e w2 ⟨rfl, hb⟩
  replace Ba := Ba.ext hb rfl
  replace Bb := Bb.ext hb rfl
  replace Bc := Bc.ext hb rfl
  replace Bd := Bd.ext hb rfl
  replace hw := hw.trans (hb.mono hw.size)
  clear hb
  obtain ⟨xa, ya, za, va⟩ := Ba.facts
  obtain ⟨xb, yb, zb, vb⟩ := Bb.facts
  obtain ⟨xc, yc, zc, vc⟩ := Bc.facts
  obtain ⟨xd, yd, zd, vd⟩ := Bd.facts
  go_wp2_with fail
  refine at_call fun W3 hW => ?_
  obtain ⟨bkt, hbt⟩ : ∃ b, w2.heap.size = b := ⟨_, rfl⟩
  rw [hbt]
  have lat := Ba.lt
  rw [hbt] at lat
  have lbt := Bb.lt
  rw [hbt] at lbt
  have lct := Bc.lt
  rw [hbt] at lct
  have ldt := Bd.lt
  rw [hbt] at ldt
  have ft := hw.size
  rw [hbt] at ft
  have Bt : Box W3 bkt [.int .i64 M.A.x, .int .i64 M.A.y, .int .i64 M.B.x, .int .i64 M.B.y, .int .i64 M.C.x, .int .i64 M.C.y] 36 := by rw [hW]; exact Box.new hbt.symm
  replace Ba : Box W3 (w.heap.size) [.int .i64 a.x, .int .i64 a.y] 23 := by rw [hW]; exact Ba.old _
  replace Bb : Box W3 (w.heap.size + 1) [.int .i64 b.x, .int .i64 b.y] 23 := by rw [hW]; exact Bb.old _
  replace Bc : Box W3 (w.heap.size + 1 + 1) [.int .i64 c.x, .int .i64 c.y] 23 := by rw [hW]; exact Bc.old _
  replace Bd : Box W3 (w.heap.size + 1 + 1 + 1) [.int .i64 d.x, .int .i64 d.y] 23 := by rw [hW]; exact Bd.old _
  replace hw : Below w.heap.size w W3 := by have hl := hw.size; rw [hW]; go_grown
  clear hW hbt
  refine (ch _).mono ?_
  rintro e w4 ⟨rfl, hb⟩
  clear xa ya za va xb yb zb vb xc yc zc vc xd yd zd vd
  replace Ba := Ba.ext hb rfl
  replace Bb := Bb.ext hb rfl
  replace Bc := Bc.ext hb rfl
  replace Bd := Bd.ext hb rfl
  replace Bt := Bt.ext hb rfl
  replace hw := hw.trans (hb.mono hw.size)
  clear hb
  obtain ⟨xa, ya, za, va⟩ := Ba.facts
  obtain ⟨xb, yb, zb, vb⟩ := Bb.facts
  obtain ⟨xc, yc, zc, vc⟩ := Bc.facts
  obtain ⟨xd, yd, zd, vd⟩ := Bd.facts
  obtain ⟨xt, yt, zt, vt⟩ := Bt.facts
  go_wp2_with fail
  refine (awake_any _).mono ?_
  rintro e w5 ⟨rfl, hb⟩
  clear xa ya za va xb yb zb vb xc yc zc vc xd yd zd vd xt yt zt vt
  replace Ba := Ba.ext hb rfl
  replace Bb := Bb.ext hb rfl
  replace Bc := Bc.ext hb rfl
  replace Bd := Bd.ext hb rfl
  replace Bt := Bt.ext hb rfl
  replace hw := hw.trans (hb.mono hw.size)
  clear hb
  go_wp2
  go_ret
  exact ⟨rfl, hw⟩

set_option maxRecDepth 100000 in
set_option maxHeartbeats 2000000 in
theorem corners_4 (a b c d : Pt) (h0 : (!decide (ori a b c = 0)) = true) (h1 : hasP (mk a b c) d = true) (e1 : peqI d.x d.y a.x a.y = false) (e2 : peqI d.x d.y b.x b.y = false) (e3 : peqI d.x d.y c.x c.y = true) (w : World) :
    Calls Try.prog 9 #[.agg #[.int .i64 a.x, .int .i64 a.y], .agg #[.int .i64 b.x, .int .i64 b.y], .agg #[.int .i64 c.x, .int .i64 c.y], .agg #[.int .i64 d.x, .int .i64 d.y]] w fun e w' => e = .returned (.bool true) ∧ Below w.heap.size w w' := by
  have cm := rmake_any a b c
  rw [h0] at cm
  have ch := rhasP_any (mk a b c) d
  rw [h1] at ch
  clear h0 h1
  generalize mk a b c = M at *
  go_enter Try.func9, Try.ntmps9
  go_wp2_with fail
  refine at_call fun W1 hW => ?_
  have Ba : Box W1 (w.heap.size) [.int .i64 a.x, .int .i64 a.y] 23 := by rw [hW]; exact (((Box.new rfl).old _).old _).old _
  have Bb : Box W1 (w.heap.size + 1) [.int .i64 b.x, .int .i64 b.y] 23 := by rw [hW]; exact ((Box.new (by simp)).old _).old _
  have Bc : Box W1 (w.heap.size + 1 + 1) [.int .i64 c.x, .int .i64 c.y] 23 := by rw [hW]; exact (Box.new (by simp)).old _
  have Bd : Box W1 (w.heap.size + 1 + 1 + 1) [.int .i64 d.x, .int .i64 d.y] 23 := by rw [hW]; exact Box.new (by simp)
  have hw : Below w.heap.size w W1 := by rw [hW]; go_grown
  clear hW
  refine (cm _).mono ?_
  rintro e w2 ⟨rfl, hb⟩
  replace Ba := Ba.ext hb rfl
  replace Bb := Bb.ext hb rfl
  replace Bc := Bc.ext hb rfl
  replace Bd := Bd.ext hb rfl
  replace hw := hw.trans (hb.mono hw.size)
  clear hb
  obtain ⟨xa, ya, za, va⟩ := Ba.facts
  obtain ⟨xb, yb, zb, vb⟩ := Bb.facts
  obtain ⟨xc, yc, zc, vc⟩ := Bc.facts
  obtain ⟨xd, yd, zd, vd⟩ := Bd.facts
  go_wp2_with fail
  refine at_call fun W3 hW => ?_
  obtain ⟨bkt, hbt⟩ : ∃ b, w2.heap.size = b := ⟨_, rfl⟩
  rw [hbt]
  have lat := Ba.lt
  rw [hbt] at lat
  have lbt := Bb.lt
  rw [hbt] at lbt
  have lct := Bc.lt
  rw [hbt] at lct
  have ldt := Bd.lt
  rw [hbt] at ldt
  have ft := hw.size
  rw [hbt] at ft
  have Bt : Box W3 bkt [.int .i64 M.A.x, .int .i64 M.A.y, .int .i64 M.B.x, .int .i64 M.B.y, .int .i64 M.C.x, .int .i64 M.C.y] 36 := by rw [hW]; exact Box.new hbt.symm
  replace Ba : Box W3 (w.heap.size) [.int .i64 a.x, .int .i64 a.y] 23 := by rw [hW]; exact Ba.old _
  replace Bb : Box W3 (w.heap.size + 1) [.int .i64 b.x, .int .i64 b.y] 23 := by rw [hW]; exact Bb.old _
  replace Bc : Box W3 (w.heap.size + 1 + 1) [.int .i64 c.x, .int .i64 c.y] 23 := by rw [hW]; exact Bc.old _
  replace Bd : Box W3 (w.heap.size + 1 + 1 + 1) [.int .i64 d.x, .int .i64 d.y] 23 := by rw [hW]; exact Bd.old _
  replace hw : Below w.heap.size w W3 := by have hl := hw.size; rw [hW]; go_grown
  clear hW hbt
  refine (ch _).mono ?_
  rintro e w4 ⟨rfl, hb⟩
  clear xa ya za va xb yb zb vb xc yc zc vc xd yd zd vd
  replace Ba := Ba.ext hb rfl
  replace Bb := Bb.ext hb rfl
  replace Bc := Bc.ext hb rfl
  replace Bd := Bd.ext hb rfl
  replace Bt := Bt.ext hb rfl
  replace hw := hw.trans (hb.mono hw.size)
  clear hb
  obtain ⟨xa, ya, za, va⟩ := Ba.facts
  obtain ⟨xb, yb, zb, vb⟩ := Bb.facts
  obtain ⟨xc, yc, zc, vc⟩ := Bc.facts
  obtain ⟨xd, yd, zd, vd⟩ := Bd.facts
  obtain ⟨xt, yt, zt, vt⟩ := Bt.facts
  go_wp2_with fail
  refine (awake_any _).mono ?_
  rintro e w5 ⟨rfl, hb⟩
  clear xa ya za va xb yb zb vb xc yc zc vc xd yd zd vd xt yt zt vt
  replace Ba := Ba.ext hb rfl
  replace Bb := Bb.ext hb rfl
  replace Bc := Bc.ext hb rfl
  replace Bd := Bd.ext hb rfl
  replace Bt := Bt.ext hb rfl
  replace hw := hw.trans (hb.mono hw.size)
  clear hb
  go_wp2
  go_ret
  exact ⟨rfl, hw⟩

set_option maxRecDepth 100000 in
set_option maxHeartbeats 2000000 in
theorem corners_5 (a b c d : Pt) (h0 : (!decide (ori a b c = 0)) = true) (h1 : hasP (mk a b c) d = true) (e1 : peqI d.x d.y a.x a.y = false) (e2 : peqI d.x d.y b.x b.y = false) (e3 : peqI d.x d.y c.x c.y = false) (w : World) :
    Calls Try.prog 9 #[.agg #[.int .i64 a.x, .int .i64 a.y], .agg #[.int .i64 b.x, .int .i64 b.y], .agg #[.int .i64 c.x, .int .i64 c.y], .agg #[.int .i64 d.x, .int .i64 d.y]] w fun e w' => e = .returned (.bool true) ∧ Below w.heap.size w w' := by
  have cm := rmake_any a b c
  rw [h0] at cm
  have ch := rhasP_any (mk a b c) d
  rw [h1] at ch
  have cc := circle_any (mk a b c).A (mk a b c).B (mk a b c).C d
  rw [mk_circ (by simpa using h0) h1 (peqI_ne.1 e1) (peqI_ne.1 e2) (peqI_ne.1 e3)] at cc
  clear h0 h1
  generalize mk a b c = M at *
  go_enter Try.func9, Try.ntmps9
  go_wp2_with fail
  refine at_call fun W1 hW => ?_
  have Ba : Box W1 (w.heap.size) [.int .i64 a.x, .int .i64 a.y] 23 := by rw [hW]; exact (((Box.new rfl).old _).old _).old _
  have Bb : Box W1 (w.heap.size + 1) [.int .i64 b.x, .int .i64 b.y] 23 := by rw [hW]; exact ((Box.new (by simp)).old _).old _
  have Bc : Box W1 (w.heap.size + 1 + 1) [.int .i64 c.x, .int .i64 c.y] 23 := by rw [hW]; exact (Box.new (by simp)).old _
  have Bd : Box W1 (w.heap.size + 1 + 1 + 1) [.int .i64 d.x, .int .i64 d.y] 23 := by rw [hW]; exact Box.new (by simp)
  have hw : Below w.heap.size w W1 := by rw [hW]; go_grown
  clear hW
  refine (cm _).mono ?_
  rintro e w2 ⟨rfl, hb⟩
  replace Ba := Ba.ext hb rfl
  replace Bb := Bb.ext hb rfl
  replace Bc := Bc.ext hb rfl
  replace Bd := Bd.ext hb rfl
  replace hw := hw.trans (hb.mono hw.size)
  clear hb
  obtain ⟨xa, ya, za, va⟩ := Ba.facts
  obtain ⟨xb, yb, zb, vb⟩ := Bb.facts
  obtain ⟨xc, yc, zc, vc⟩ := Bc.facts
  obtain ⟨xd, yd, zd, vd⟩ := Bd.facts
  go_wp2_with fail
  refine at_call fun W3 hW => ?_
  obtain ⟨bkt, hbt⟩ : ∃ b, w2.heap.size = b := ⟨_, rfl⟩
  rw [hbt]
  have lat := Ba.lt
  rw [hbt] at lat
  have lbt := Bb.lt
  rw [hbt] at lbt
  have lct := Bc.lt
  rw [hbt] at lct
  have ldt := Bd.lt
  rw [hbt] at ldt
  have ft := hw.size
  rw [hbt] at ft
  have Bt : Box W3 bkt [.int .i64 M.A.x, .int .i64 M.A.y, .int .i64 M.B.x, .int .i64 M.B.y, .int .i64 M.C.x, .int .i64 M.C.y] 36 := by rw [hW]; exact Box.new hbt.symm
  replace Ba : Box W3 (w.heap.size) [.int .i64 a.x, .int .i64 a.y] 23 := by rw [hW]; exact Ba.old _
  replace Bb : Box W3 (w.heap.size + 1) [.int .i64 b.x, .int .i64 b.y] 23 := by rw [hW]; exact Bb.old _
  replace Bc : Box W3 (w.heap.size + 1 + 1) [.int .i64 c.x, .int .i64 c.y] 23 := by rw [hW]; exact Bc.old _
  replace Bd : Box W3 (w.heap.size + 1 + 1 + 1) [.int .i64 d.x, .int .i64 d.y] 23 := by rw [hW]; exact Bd.old _
  replace hw : Below w.heap.size w W3 := by have hl := hw.size; rw [hW]; go_grown
  clear hW hbt
  refine (ch _).mono ?_
  rintro e w4 ⟨rfl, hb⟩
  clear xa ya za va xb yb zb vb xc yc zc vc xd yd zd vd
  replace Ba := Ba.ext hb rfl
  replace Bb := Bb.ext hb rfl
  replace Bc := Bc.ext hb rfl
  replace Bd := Bd.ext hb rfl
  replace Bt := Bt.ext hb rfl
  replace hw := hw.trans (hb.mono hw.size)
  clear hb
  obtain ⟨xa, ya, za, va⟩ := Ba.facts
  obtain ⟨xb, yb, zb, vb⟩ := Bb.facts
  obtain ⟨xc, yc, zc, vc⟩ := Bc.facts
  obtain ⟨xd, yd, zd, vd⟩ := Bd.facts
  obtain ⟨xt, yt, zt, vt⟩ := Bt.facts
  go_wp2_with fail
  refine (cc _).mono ?_
  rintro e w5 ⟨rfl, hb⟩
  clear xa ya za va xb yb zb vb xc yc zc vc xd yd zd vd xt yt zt vt
  replace Ba := Ba.ext hb rfl
  replace Bb := Bb.ext hb rfl
  replace Bc := Bc.ext hb rfl
  replace Bd := Bd.ext hb rfl
  replace Bt := Bt.ext hb rfl
  replace hw := hw.trans (hb.mono hw.size)
  clear hb
  obtain ⟨xa, ya, za, va⟩ := Ba.facts
  obtain ⟨xb, yb, zb, vb⟩ := Bb.facts
  obtain ⟨xc, yc, zc, vc⟩ := Bc.facts
  obtain ⟨xd, yd, zd, vd⟩ := Bd.facts
  obtain ⟨xt, yt, zt, vt⟩ := Bt.facts
  go_wp2_with fail
  refine (awake_any _).mono ?_
  rintro e w6 ⟨rfl, hb⟩
  clear xa ya za va xb yb zb vb xc yc zc vc xd yd zd vd xt yt zt vt
  replace Ba := Ba.ext hb rfl
  replace Bb := Bb.ext hb rfl
  replace Bc := Bc.ext hb rfl
  replace Bd := Bd.ext hb rfl
  replace Bt := Bt.ext hb rfl
  replace hw := hw.trans (hb.mono hw.size)
  clear hb
  go_wp2
  go_ret
  exact ⟨rfl, hw⟩

theorem corners_law (a b c d : Pt) (w : World) :
    Calls Try.prog 9 #[.agg #[.int .i64 a.x, .int .i64 a.y], .agg #[.int .i64 b.x, .int .i64 b.y], .agg #[.int .i64 c.x, .int .i64 c.y], .agg #[.int .i64 d.x, .int .i64 d.y]] w fun e w' => e = .returned (.bool true) ∧ Below w.heap.size w w' := by
  cases h0 : (!decide (ori a b c = 0)) with
  | false => exact corners_0 a b c d h0 w
  | true => cases h1 : hasP (mk a b c) d with
    | false => exact corners_1 a b c d h0 h1 w
    | true => cases e1 : peqI d.x d.y a.x a.y with
      | true => exact corners_2 a b c d h0 h1 e1 w
      | false => cases e2 : peqI d.x d.y b.x b.y with
        | true => exact corners_3 a b c d h0 h1 e1 e2 w
        | false => cases e3 : peqI d.x d.y c.x c.y with
          | true => exact corners_4 a b c d h0 h1 e1 e2 e3 w
          | false => exact corners_5 a b c d h0 h1 e1 e2 e3 w
set_option maxRecDepth 100000 in
theorem exactCorners_lifted (os : Os) (started : os.Started) (H : Type) (enc : TypeId × Value → H) :
    ReturnsInHanded {} Try.checked os 9 .any (Rows.exactCornersSpec.pre6 enc Try.prog Try.f9 Rows.exactCornersRow.domain false) (Rows.exactCornersSpec.post enc Try.prog Try.f9 false true false false) := by
  refine returnsInHanded_of_change (C := Try.checked) Try.own started (by kernel_rfl) Try.func9
    (ChangeSpec.witness6 (enc := enc) (C := Try.checked) false ⟨#[], #[.agg #[.int .i64 0, .int .i64 0], .agg #[.int .i64 0, .int .i64 0], .agg #[.int .i64 0, .int .i64 0], .agg #[.int .i64 0, .int .i64 0]], []⟩ 8 (by kernel_rfl) (by kernel_rfl) (by kernel_rfl) (by kernel_rfl)) ?_
  intro W base args ds gs before hval0 hW hcnd _
  have hval : ∀ (j : Nat) t v, Try.f9.params[j]? = some t → args[j]? = some v → Value.okWide Try.prog W .any base t v := hval0
  have hW' := hW
  obtain ⟨p, q, hA0, hV, rfl, hfz, hnd⟩ := hW
  have hA : DataW.TrodAll enc Try.prog W 0 (fun _ => true) true Try.f9.params.toList args.toList ds p := hA0
  rw [Try.params9] at hA hval
  obtain ⟨v0, v1, v2, v3, d0, d1, d2, d3, q0, q1, q2, q3, rfl, rfl, rfl, p0, p1, p2, p3⟩ := trodAll_four hA
  obtain ⟨rfl, rfl⟩ := trodVars_none hV
  obtain ⟨c0, e0, y0, z0, m0, rfl, rfl, rfl, hy0, hz0⟩ := Joins.open_agg2 Try.underlying23 (by kernel_rfl) (by kernel_rfl) (hval 0 23 v0 rfl rfl) p0
  obtain ⟨xa, f0, rfl, wxa⟩ := DataW.trod_int Try.underlying3 hy0
  obtain ⟨ya, g0, rfl, wya⟩ := DataW.trod_int Try.underlying3 hz0
  simp at f0 g0
  subst f0 g0
  obtain ⟨c1, e1, y1, z1, m1, rfl, rfl, rfl, hy1, hz1⟩ := Joins.open_agg2 Try.underlying23 (by kernel_rfl) (by kernel_rfl) (hval 1 23 v1 rfl rfl) p1
  obtain ⟨xb, f1, rfl, wxb⟩ := DataW.trod_int Try.underlying3 hy1
  obtain ⟨yb, g1, rfl, wyb⟩ := DataW.trod_int Try.underlying3 hz1
  simp at f1 g1
  subst f1 g1
  obtain ⟨c2, e2, y2, z2, m2, rfl, rfl, rfl, hy2, hz2⟩ := Joins.open_agg2 Try.underlying23 (by kernel_rfl) (by kernel_rfl) (hval 2 23 v2 rfl rfl) p2
  obtain ⟨xc, f2, rfl, wxc⟩ := DataW.trod_int Try.underlying3 hy2
  obtain ⟨yc, g2, rfl, wyc⟩ := DataW.trod_int Try.underlying3 hz2
  simp at f2 g2
  subst f2 g2
  obtain ⟨c3, e3, y3, z3, m3, rfl, rfl, rfl, hy3, hz3⟩ := Joins.open_agg2 Try.underlying23 (by kernel_rfl) (by kernel_rfl) (hval 3 23 v3 rfl rfl) p3
  obtain ⟨xd, f3, rfl, wxd⟩ := DataW.trod_int Try.underlying3 hy3
  obtain ⟨yd, g3, rfl, wyd⟩ := DataW.trod_int Try.underlying3 hz3
  simp at f3 g3
  subst f3 g3
  clear hA0 hval0
  simp only [List.append_nil] at hW'
  refine (corners_law ⟨xa, ya⟩ ⟨xb, yb⟩ ⟨xc, yc⟩ ⟨xd, yd⟩  W).mono fun e W' ⟨he, hb⟩ => ?_
  subst he
  exact ⟨_, rfl, post_of_below (pa := []) (pv := []) hW' (fun _ _ _ => trodAll_mk1 (shut_bool Try.underlying4 true)) (fun sp _ => trodAll_mk4 (Joins.shut_agg2 (y0 := (.lit (.int .i64 xa), [])) (y1 := (.lit (.int .i64 ya), [])) Try.underlying23 (by kernel_rfl) (by kernel_rfl) ⟨1, by simp [DataW.trod, Try.underlying3, wxa]⟩ ⟨1, by simp [DataW.trod, Try.underlying3, wya]⟩) (Joins.shut_agg2 (y0 := (.lit (.int .i64 xb), [])) (y1 := (.lit (.int .i64 yb), [])) Try.underlying23 (by kernel_rfl) (by kernel_rfl) ⟨1, by simp [DataW.trod, Try.underlying3, wxb]⟩ ⟨1, by simp [DataW.trod, Try.underlying3, wyb]⟩) (Joins.shut_agg2 (y0 := (.lit (.int .i64 xc), [])) (y1 := (.lit (.int .i64 yc), [])) Try.underlying23 (by kernel_rfl) (by kernel_rfl) ⟨1, by simp [DataW.trod, Try.underlying3, wxc]⟩ ⟨1, by simp [DataW.trod, Try.underlying3, wyc]⟩) (Joins.shut_agg2 (y0 := (.lit (.int .i64 xd), [])) (y1 := (.lit (.int .i64 yd), [])) Try.underlying23 (by kernel_rfl) (by kernel_rfl) ⟨1, by simp [DataW.trod, Try.underlying3, wxd]⟩ ⟨1, by simp [DataW.trod, Try.underlying3, wyd]⟩)) (fun _ _ => rfl) rfl hb (ok_one (by kernel_rfl) rfl (okWide_bool_mk Try.underlying4 true))⟩
/-- The law ExactCorners holds of every input. -/
theorem exactCorners_holds : Rows.ExactCornersSaid :=
  OpenClaim.holds_of_wide 9 Try.f9 rfl rfl rfl rfl rfl rfl rfl ⟨rfl, rfl, rfl, rfl, rfl⟩ rfl rfl rfl rfl rfl (by kernel_rfl) Try.func9 (by kernel_rfl)
    (of_decide_eq_true (by kernel_rfl)) (by unfold Func.isWrapper; rw [if_neg (of_decide_eq_false (by kernel_rfl))]; exact ⟨rfl, rfl⟩)
    (fun os started H enc _ => exactCorners_lifted os started H enc)
end Go.Proofs.Ytmdehannbbpnaaa
