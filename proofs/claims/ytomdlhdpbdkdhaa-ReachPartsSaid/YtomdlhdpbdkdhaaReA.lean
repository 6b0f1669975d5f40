/- The contracts of package reach's Window, meets, corners, leftmost and leastSide, and of the document's own Window, over the program. -/
import Derived.Test.YtomdlhdpbdkdhaaRows
import Derived.Test.YtomdlhdpbdkdhaaTrC
import Derived.Test.YtomdlhdpbdkdhaaPost
import Derived.WalkKit
import Derived.WalkSpells
import Derived.WalkLawsBesides
import Derived.Laws.Externs
import Derived.Deep.QuietTactic
import Derived.BigQuiet
import Derived.Lib.Hide
import Derived.Handy
import Derived.LoopN
namespace Go.Proofs.Ytomdlhdpbdkdhaa
open Go.RowKit Go.Sort
attribute [local go_sem] rOper rAt rUpon cell_set sg_i64 sg_u64 alloc_cell alloc_frozen
attribute [local go_sem 10000] pt_eql pt_neq tri_eql
attribute [local irreducible] rWalk

/-- A window's four numbers. -/
structure Rc where
  (x0 y0 x1 y1 : Int)
def spn (a b : Int) : Bool := decide (0 ≤ a ∧ a ≤ b ∧ b < 16777216)
def win (r : Rc) : Bool := spn r.x0 r.x1 && spn r.y0 r.y1
theorem spans_any (a b : Int) (w : World) :
    Calls Try.prog 33 #[.int .i64 a, .int .i64 b] w fun e w' => e = .returned (.bool (spn a b)) ∧ Below w.heap.size w w' := by
  go_enter Try.func33, Try.ntmps33
  go_wp2
  all_goals go_ret
  all_goals exact ⟨ret_bool (by rw [Bool.eq_iff_iff]; simp [spn]; omega), by go_grown⟩
theorem win_0 (r : Rc) (h0 : spn r.x0 r.x1 = false) (w : World) :
    Calls Try.prog 9 #[.agg #[.int .i64 r.x0, .int .i64 r.y0, .int .i64 r.x1, .int .i64 r.y1]] w fun e w' => e = .returned (.bool false) ∧ Below w.heap.size w w' := by
  have c1 := spans_any r.x0 r.x1
  have c2 := spans_any r.y0 r.y1
  rw [h0] at c1
  clear h0
  generalize spn r.y0 r.y1 = v at *
  go_enter Try.func9, Try.ntmps9
  go_wp2_with fail
  refine at_call fun W1 hW => ?_
  have Br : Box W1 (w.heap.size) [.int .i64 r.x0, .int .i64 r.y0, .int .i64 r.x1, .int .i64 r.y1] 27 := by rw [hW]; exact Box.new rfl
  have hw : Below w.heap.size w W1 := by rw [hW]; go_grown
  clear hW
  refine (c1 _).mono ?_
  rintro e w2 ⟨rfl, hb⟩
  replace Br := Br.ext hb rfl
  replace hw := hw.trans (hb.mono hw.size)
  clear hb
  obtain ⟨xr, yr, zr, vr⟩ := Br.facts
  go_wp2
  go_ret
  exact ⟨rfl, by have hl := hw.size; go_grown⟩

theorem win_1 (r : Rc) (h0 : spn r.x0 r.x1 = true) (w : World) :
    Calls Try.prog 9 #[.agg #[.int .i64 r.x0, .int .i64 r.y0, .int .i64 r.x1, .int .i64 r.y1]] w fun e w' => e = .returned (.bool (spn r.y0 r.y1)) ∧ Below w.heap.size w w' := by
  have c1 := spans_any r.x0 r.x1
  have c2 := spans_any r.y0 r.y1
  rw [h0] at c1
  clear h0
  generalize spn r.y0 r.y1 = v at *
  go_enter Try.func9, Try.ntmps9
  go_wp2_with fail
  refine at_call fun W1 hW => ?_
  have Br : Box W1 (w.heap.size) [.int .i64 r.x0, .int .i64 r.y0, .int .i64 r.x1, .int .i64 r.y1] 27 := by rw [hW]; exact Box.new rfl
  have hw : Below w.heap.size w W1 := by rw [hW]; go_grown
  clear hW
  refine (c1 _).mono ?_
  rintro e w2 ⟨rfl, hb⟩
  replace Br := Br.ext hb rfl
  replace hw := hw.trans (hb.mono hw.size)
  clear hb
  obtain ⟨xr, yr, zr, vr⟩ := Br.facts
  go_wp2_with fail
  refine (c2 _).mono ?_
  rintro e w3 ⟨rfl, hb⟩
  clear xr yr zr vr
  replace Br := Br.ext hb rfl
  replace hw := hw.trans (hb.mono hw.size)
  clear hb
  obtain ⟨xr, yr, zr, vr⟩ := Br.facts
  go_wp2
  go_ret
  exact ⟨rfl, by have hl := hw.size; go_grown⟩

theorem win_any (r : Rc) (w : World) :
    Calls Try.prog 9 #[.agg #[.int .i64 r.x0, .int .i64 r.y0, .int .i64 r.x1, .int .i64 r.y1]] w fun e w' => e = .returned (.bool (win r)) ∧ Below w.heap.size w w' := by
  unfold win
  cases h : spn r.x0 r.x1 with
  | false => exact win_0 r h w
  | true => exact win_1 r h w
theorem rwin_any (r : Rc) (w : World) :
    Calls Try.prog 10 #[.agg #[.int .i64 r.x0, .int .i64 r.y0, .int .i64 r.x1, .int .i64 r.y1]] w fun e w' => e = .returned (.bool (win r)) ∧ Below w.heap.size w w' := by
  go_enter Try.func10, Try.ntmps10
  go_wp2
  all_goals go_ret
  all_goals exact ⟨ret_bool (by rw [Bool.eq_iff_iff]; simp [win, spn]; omega), by go_grown⟩
def mnA (x y z : Int) : Int := if z < (if y < x then y else x) then z else (if y < x then y else x)
def mxA (x y z : Int) : Int := if z > (if y > x then y else x) then z else (if y > x then y else x)
theorem run_mnA {P : Program} (w : World) (ts : Array TypeId) (t : TypeId) (k k' k'' : IntKind) (x y z : Int) : (Builtin.min_ ts t #[.int k x, .int k' y, .int k'' z]).run P w = .ok (.int k (mnA x y z)) w := run_min_int3 w ts t k k' k'' x y z
theorem run_mxA {P : Program} (w : World) (ts : Array TypeId) (t : TypeId) (k k' k'' : IntKind) (x y z : Int) : (Builtin.max_ ts t #[.int k x, .int k' y, .int k'' z]).run P w = .ok (.int k (mxA x y z)) w := run_max_int3 w ts t k k' k'' x y z
def mn2 (x y : Int) : Int := if y < x then y else x
def mx2 (x y : Int) : Int := if y > x then y else x
theorem run_mn2 {P : Program} (w : World) (ts : Array TypeId) (t : TypeId) (k k' : IntKind) (x y : Int) : (Builtin.min_ ts t #[.int k x, .int k' y]).run P w = .ok (.int k (mn2 x y)) w := run_min_int2 w ts t k k' x y
theorem run_mx2 {P : Program} (w : World) (ts : Array TypeId) (t : TypeId) (k k' : IntKind) (x y : Int) : (Builtin.max_ ts t #[.int k x, .int k' y]).run P w = .ok (.int k (mx2 x y)) w := run_max_int2 w ts t k k' x y
attribute [local go_sem 10000] run_mnA run_mxA run_mn2 run_mx2
def mts (f t a b c : Int) : Bool := decide (mnA a b c ≤ t) && decide (f ≤ mxA a b c)
theorem meets_any (f t a b c : Int) (w : World) :
    Calls Try.prog 34 #[.int .i64 f, .int .i64 t, .int .i64 a, .int .i64 b, .int .i64 c] w fun e w' => e = .returned (.bool (mts f t a b c)) ∧ Below w.heap.size w w' := by
  unfold mts
  cases h : decide (mnA a b c ≤ t)
  all_goals
    go_enter Try.func34, Try.ntmps34
    go_wp2
    all_goals go_ret
    all_goals exact ⟨ret_bool (by simp), by go_grown⟩
def lm2 (p q a b : Pt) : Int := mx2 (mx2 (-1) (ori p q a)) (ori p q b)
set_option maxHeartbeats 1000000 in
theorem lm2_any (p q a b : Pt) (w : World) (bk : Nat) (hB : Box w bk [.int .i64 a.x, .int .i64 a.y, .int .i64 b.x, .int .i64 b.y] 23) :
    Calls Try.prog 52 #[.agg #[.int .i64 p.x, .int .i64 p.y], .agg #[.int .i64 q.x, .int .i64 q.y], .slice (some ⟨bk, 0, none⟩) 2 2] w fun e w' => e = .returned (.int .i64 (lm2 p q a b)) ∧ Below w.heap.size w w' := by
  have o0 := orient_any p q a
  have o1 := orient_any p q b
  unfold lm2
  generalize ori p q a = m0 at *
  generalize ori p q b = m1 at *
  have Bl := hB; clear hB
  obtain ⟨xl, yl, zl, vl⟩ := Bl.facts
  have hw := Below.refl w.heap.size w
  go_enter Try.func52, Try.ntmps52
  go_wp2_with fail
  refine at_world fun W1 hW => ?_
  obtain ⟨bkp, hbp⟩ : ∃ b, w.heap.size = b := ⟨_, rfl⟩
  rw [hbp]
  have llp := Bl.lt
  rw [hbp] at llp
  have fp := hw.size
  rw [hbp] at fp
  have Bp : Box W1 (bkp) [.int .i64 p.x, .int .i64 p.y] 23 := by rw [hW, ← hbp]; exact (Box.new rfl).old _
  have Bq : Box W1 (bkp + 1) [.int .i64 q.x, .int .i64 q.y] 23 := by rw [hW, ← hbp]; exact Box.new (by simp)
  replace Bl : Box W1 (bk) [.int .i64 a.x, .int .i64 a.y, .int .i64 b.x, .int .i64 b.y] 23 := by rw [hW]; exact ((Bl).old _).old _
  replace hw : Below w.heap.size w W1 := by have hl := hw.size; rw [hW]; go_grown
  clear hW hbp
  refine wp_loop_rounds 6 ?_
  try rw [rounds_succ]
  obtain ⟨xl, yl, zl, vl⟩ := Bl.facts
  obtain ⟨xp, yp, zp, vp⟩ := Bp.facts
  obtain ⟨xq, yq, zq, vq⟩ := Bq.facts
  go_wp2_with fail
  refine at_call fun W2 hW => ?_
  obtain ⟨bkv0, hbv0⟩ : ∃ b, W1.heap.size = b := ⟨_, rfl⟩
  rw [hbv0]
  have llv0 := Bl.lt
  rw [hbv0] at llv0
  have lpv0 := Bp.lt
  rw [hbv0] at lpv0
  have lqv0 := Bq.lt
  rw [hbv0] at lqv0
  have fv0 := hw.size
  rw [hbv0] at fv0
  have Bv0 : Box W2 bkv0 [.int .i64 a.x, .int .i64 a.y] 23 := by rw [hW]; exact Box.new hbv0.symm
  replace Bl : Box W2 (bk) [.int .i64 a.x, .int .i64 a.y, .int .i64 b.x, .int .i64 b.y] 23 := by rw [hW]; exact Bl.old _
  replace Bp : Box W2 (bkp) [.int .i64 p.x, .int .i64 p.y] 23 := by rw [hW]; exact Bp.old _
  replace Bq : Box W2 (bkp + 1) [.int .i64 q.x, .int .i64 q.y] 23 := by rw [hW]; exact Bq.old _
  replace hw : Below w.heap.size w W2 := by have hl := hw.size; rw [hW]; go_grown
  clear hW hbv0
  refine (o0 _).mono ?_
  rintro e w3 ⟨rfl, hb⟩
  clear xl yl zl vl xp yp zp vp xq yq zq vq
  replace Bl := Bl.ext hb rfl
  replace Bp := Bp.ext hb rfl
  replace Bq := Bq.ext hb rfl
  replace Bv0 := Bv0.ext hb rfl
  replace hw := hw.trans (hb.mono hw.size)
  clear hb
  clear Bv0
  obtain ⟨xl, yl, zl, vl⟩ := Bl.facts
  obtain ⟨xp, yp, zp, vp⟩ := Bp.facts
  obtain ⟨xq, yq, zq, vq⟩ := Bq.facts
  go_wp2_with fail
  try rw [rounds_succ]
  go_wp2_with fail
  refine at_call fun W4 hW => ?_
  obtain ⟨bkv1, hbv1⟩ : ∃ b, w3.heap.size = b := ⟨_, rfl⟩
  rw [hbv1]
  have llv1 := Bl.lt
  rw [hbv1] at llv1
  have lpv1 := Bp.lt
  rw [hbv1] at lpv1
  have lqv1 := Bq.lt
  rw [hbv1] at lqv1
  have fv1 := hw.size
  rw [hbv1] at fv1
  have Bv1 : Box W4 bkv1 [.int .i64 b.x, .int .i64 b.y] 23 := by rw [hW]; exact Box.new hbv1.symm
  replace Bl : Box W4 (bk) [.int .i64 a.x, .int .i64 a.y, .int .i64 b.x, .int .i64 b.y] 23 := by rw [hW]; exact Bl.old _
  replace Bp : Box W4 (bkp) [.int .i64 p.x, .int .i64 p.y] 23 := by rw [hW]; exact Bp.old _
  replace Bq : Box W4 (bkp + 1) [.int .i64 q.x, .int .i64 q.y] 23 := by rw [hW]; exact Bq.old _
  replace hw : Below w.heap.size w W4 := by have hl := hw.size; rw [hW]; go_grown
  clear hW hbv1
  refine (o1 _).mono ?_
  rintro e w5 ⟨rfl, hb⟩
  clear xl yl zl vl xp yp zp vp xq yq zq vq
  replace Bl := Bl.ext hb rfl
  replace Bp := Bp.ext hb rfl
  replace Bq := Bq.ext hb rfl
  replace Bv1 := Bv1.ext hb rfl
  replace hw := hw.trans (hb.mono hw.size)
  clear hb
  clear Bv1
  obtain ⟨xl, yl, zl, vl⟩ := Bl.facts
  obtain ⟨xp, yp, zp, vp⟩ := Bp.facts
  obtain ⟨xq, yq, zq, vq⟩ := Bq.facts
  go_wp2_with fail
  try rw [rounds_succ]
  go_wp2
  go_ret
  exact ⟨rfl, by have hl := hw.size; go_grown⟩

def lm3 (p q a b c : Pt) : Int := mx2 (mx2 (mx2 (-1) (ori p q a)) (ori p q b)) (ori p q c)
set_option maxHeartbeats 1000000 in
theorem lm3_any (p q a b c : Pt) (w : World) (bk : Nat) (hB : Box w bk [.int .i64 a.x, .int .i64 a.y, .int .i64 b.x, .int .i64 b.y, .int .i64 c.x, .int .i64 c.y] 23) :
    Calls Try.prog 52 #[.agg #[.int .i64 p.x, .int .i64 p.y], .agg #[.int .i64 q.x, .int .i64 q.y], .slice (some ⟨bk, 0, none⟩) 3 3] w fun e w' => e = .returned (.int .i64 (lm3 p q a b c)) ∧ Below w.heap.size w w' := by
  have o0 := orient_any p q a
  have o1 := orient_any p q b
  have o2 := orient_any p q c
  unfold lm3
  generalize ori p q a = m0 at *
  generalize ori p q b = m1 at *
  generalize ori p q c = m2 at *
  have Bl := hB; clear hB
  obtain ⟨xl, yl, zl, vl⟩ := Bl.facts
  have hw := Below.refl w.heap.size w
  go_enter Try.func52, Try.ntmps52
  go_wp2_with fail
  refine at_world fun W1 hW => ?_
  obtain ⟨bkp, hbp⟩ : ∃ b, w.heap.size = b := ⟨_, rfl⟩
  rw [hbp]
  have llp := Bl.lt
  rw [hbp] at llp
  have fp := hw.size
  rw [hbp] at fp
  have Bp : Box W1 (bkp) [.int .i64 p.x, .int .i64 p.y] 23 := by rw [hW, ← hbp]; exact (Box.new rfl).old _
  have Bq : Box W1 (bkp + 1) [.int .i64 q.x, .int .i64 q.y] 23 := by rw [hW, ← hbp]; exact Box.new (by simp)
  replace Bl : Box W1 (bk) [.int .i64 a.x, .int .i64 a.y, .int .i64 b.x, .int .i64 b.y, .int .i64 c.x, .int .i64 c.y] 23 := by rw [hW]; exact ((Bl).old _).old _
  replace hw : Below w.heap.size w W1 := by have hl := hw.size; rw [hW]; go_grown
  clear hW hbp
  refine wp_loop_rounds 6 ?_
  try rw [rounds_succ]
  obtain ⟨xl, yl, zl, vl⟩ := Bl.facts
  obtain ⟨xp, yp, zp, vp⟩ := Bp.facts
  obtain ⟨xq, yq, zq, vq⟩ := Bq.facts
  go_wp2_with fail
  refine at_call fun W2 hW => ?_
  obtain ⟨bkv0, hbv0⟩ : ∃ b, W1.heap.size = b := ⟨_, rfl⟩
  rw [hbv0]
  have llv0 := Bl.lt
  rw [hbv0] at llv0
  have lpv0 := Bp.lt
  rw [hbv0] at lpv0
  have lqv0 := Bq.lt
  rw [hbv0] at lqv0
  have fv0 := hw.size
  rw [hbv0] at fv0
  have Bv0 : Box W2 bkv0 [.int .i64 a.x, .int .i64 a.y] 23 := by rw [hW]; exact Box.new hbv0.symm
  replace Bl : Box W2 (bk) [.int .i64 a.x, .int .i64 a.y, .int .i64 b.x, .int .i64 b.y, .int .i64 c.x, .int .i64 c.y] 23 := by rw [hW]; exact Bl.old _
  replace Bp : Box W2 (bkp) [.int .i64 p.x, .int .i64 p.y] 23 := by rw [hW]; exact Bp.old _
  replace Bq : Box W2 (bkp + 1) [.int .i64 q.x, .int .i64 q.y] 23 := by rw [hW]; exact Bq.old _
  replace hw : Below w.heap.size w W2 := by have hl := hw.size; rw [hW]; go_grown
  clear hW hbv0
  refine (o0 _).mono ?_
  rintro e w3 ⟨rfl, hb⟩
  clear xl yl zl vl xp yp zp vp xq yq zq vq
  replace Bl := Bl.ext hb rfl
  replace Bp := Bp.ext hb rfl
  replace Bq := Bq.ext hb rfl
  replace Bv0 := Bv0.ext hb rfl
  replace hw := hw.trans (hb.mono hw.size)
  clear hb
  clear Bv0
  obtain ⟨xl, yl, zl, vl⟩ := Bl.facts
  obtain ⟨xp, yp, zp, vp⟩ := Bp.facts
  obtain ⟨xq, yq, zq, vq⟩ := Bq.facts
  go_wp2_with fail
  try rw [rounds_succ]
  go_wp2_with fail
  refine at_call fun W4 hW => ?_
  obtain ⟨bkv1, hbv1⟩ : ∃ b, w3.heap.size = b := ⟨_, rfl⟩
  rw [hbv1]
  have llv1 := Bl.lt
  rw [hbv1] at llv1
  have lpv1 := Bp.lt
  rw [hbv1] at lpv1
  have lqv1 := Bq.lt
  rw [hbv1] at lqv1
  have fv1 := hw.size
  rw [hbv1] at fv1
  have Bv1 : Box W4 bkv1 [.int .i64 b.x, .int .i64 b.y] 23 := by rw [hW]; exact Box.new hbv1.symm
  replace Bl : Box W4 (bk) [.int .i64 a.x, .int .i64 a.y, .int .i64 b.x, .int .i64 b.y, .int .i64 c.x, .int .i64 c.y] 23 := by rw [hW]; exact Bl.old _
  replace Bp : Box W4 (bkp) [.int .i64 p.x, .int .i64 p.y] 23 := by rw [hW]; exact Bp.old _
  replace Bq : Box W4 (bkp + 1) [.int .i64 q.x, .int .i64 q.y] 23 := by rw [hW]; exact Bq.old _
  replace hw : Below w.heap.size w W4 := by have hl := hw.size; rw [hW]; go_grown
  clear hW hbv1
  refine (o1 _).mono ?_
  rintro e w5 ⟨rfl, hb⟩
  clear xl yl zl vl xp yp zp vp xq yq zq vq
  replace Bl := Bl.ext hb rfl
  replace Bp := Bp.ext hb rfl
  replace Bq := Bq.ext hb rfl
  replace Bv1 := Bv1.ext hb rfl
  replace hw := hw.trans (hb.mono hw.size)
  clear hb
  clear Bv1
  obtain ⟨xl, yl, zl, vl⟩ := Bl.facts
  obtain ⟨xp, yp, zp, vp⟩ := Bp.facts
  obtain ⟨xq, yq, zq, vq⟩ := Bq.facts
  go_wp2_with fail
  try rw [rounds_succ]
  go_wp2_with fail
  refine at_call fun W6 hW => ?_
  obtain ⟨bkv2, hbv2⟩ : ∃ b, w5.heap.size = b := ⟨_, rfl⟩
  rw [hbv2]
  have llv2 := Bl.lt
  rw [hbv2] at llv2
  have lpv2 := Bp.lt
  rw [hbv2] at lpv2
  have lqv2 := Bq.lt
  rw [hbv2] at lqv2
  have fv2 := hw.size
  rw [hbv2] at fv2
  have Bv2 : Box W6 bkv2 [.int .i64 c.x, .int .i64 c.y] 23 := by rw [hW]; exact Box.new hbv2.symm
  replace Bl : Box W6 (bk) [.int .i64 a.x, .int .i64 a.y, .int .i64 b.x, .int .i64 b.y, .int .i64 c.x, .int .i64 c.y] 23 := by rw [hW]; exact Bl.old _
  replace Bp : Box W6 (bkp) [.int .i64 p.x, .int .i64 p.y] 23 := by rw [hW]; exact Bp.old _
  replace Bq : Box W6 (bkp + 1) [.int .i64 q.x, .int .i64 q.y] 23 := by rw [hW]; exact Bq.old _
  replace hw : Below w.heap.size w W6 := by have hl := hw.size; rw [hW]; go_grown
  clear hW hbv2
  refine (o2 _).mono ?_
  rintro e w7 ⟨rfl, hb⟩
  clear xl yl zl vl xp yp zp vp xq yq zq vq
  replace Bl := Bl.ext hb rfl
  replace Bp := Bp.ext hb rfl
  replace Bq := Bq.ext hb rfl
  replace Bv2 := Bv2.ext hb rfl
  replace hw := hw.trans (hb.mono hw.size)
  clear hb
  clear Bv2
  obtain ⟨xl, yl, zl, vl⟩ := Bl.facts
  obtain ⟨xp, yp, zp, vp⟩ := Bp.facts
  obtain ⟨xq, yq, zq, vq⟩ := Bq.facts
  go_wp2_with fail
  try rw [rounds_succ]
  go_wp2
  go_ret
  exact ⟨rfl, by have hl := hw.size; go_grown⟩

def lm4 (p q a b c d : Pt) : Int := mx2 (mx2 (mx2 (mx2 (-1) (ori p q a)) (ori p q b)) (ori p q c)) (ori p q d)
set_option maxHeartbeats 1000000 in
theorem lm4_any (p q a b c d : Pt) (w : World) (bk : Nat) (hB : Box w bk [.int .i64 a.x, .int .i64 a.y, .int .i64 b.x, .int .i64 b.y, .int .i64 c.x, .int .i64 c.y, .int .i64 d.x, .int .i64 d.y] 23) :
    Calls Try.prog 52 #[.agg #[.int .i64 p.x, .int .i64 p.y], .agg #[.int .i64 q.x, .int .i64 q.y], .slice (some ⟨bk, 0, none⟩) 4 4] w fun e w' => e = .returned (.int .i64 (lm4 p q a b c d)) ∧ Below w.heap.size w w' := by
  have o0 := orient_any p q a
  have o1 := orient_any p q b
  have o2 := orient_any p q c
  have o3 := orient_any p q d
  unfold lm4
  generalize ori p q a = m0 at *
  generalize ori p q b = m1 at *
  generalize ori p q c = m2 at *
  generalize ori p q d = m3 at *
  have Bl := hB; clear hB
  obtain ⟨xl, yl, zl, vl⟩ := Bl.facts
  have hw := Below.refl w.heap.size w
  go_enter Try.func52, Try.ntmps52
  go_wp2_with fail
  refine at_world fun W1 hW => ?_
  obtain ⟨bkp, hbp⟩ : ∃ b, w.heap.size = b := ⟨_, rfl⟩
  rw [hbp]
  have llp := Bl.lt
  rw [hbp] at llp
  have fp := hw.size
  rw [hbp] at fp
  have Bp : Box W1 (bkp) [.int .i64 p.x, .int .i64 p.y] 23 := by rw [hW, ← hbp]; exact (Box.new rfl).old _
  have Bq : Box W1 (bkp + 1) [.int .i64 q.x, .int .i64 q.y] 23 := by rw [hW, ← hbp]; exact Box.new (by simp)
  replace Bl : Box W1 (bk) [.int .i64 a.x, .int .i64 a.y, .int .i64 b.x, .int .i64 b.y, .int .i64 c.x, .int .i64 c.y, .int .i64 d.x, .int .i64 d.y] 23 := by rw [hW]; exact ((Bl).old _).old _
  replace hw : Below w.heap.size w W1 := by have hl := hw.size; rw [hW]; go_grown
  clear hW hbp
  refine wp_loop_rounds 6 ?_
  try rw [rounds_succ]
  obtain ⟨xl, yl, zl, vl⟩ := Bl.facts
  obtain ⟨xp, yp, zp, vp⟩ := Bp.facts
  obtain ⟨xq, yq, zq, vq⟩ := Bq.facts
  go_wp2_with fail
  refine at_call fun W2 hW => ?_
  obtain ⟨bkv0, hbv0⟩ : ∃ b, W1.heap.size = b := ⟨_, rfl⟩
  rw [hbv0]
  have llv0 := Bl.lt
  rw [hbv0] at llv0
  have lpv0 := Bp.lt
  rw [hbv0] at lpv0
  have lqv0 := Bq.lt
  rw [hbv0] at lqv0
  have fv0 := hw.size
  rw [hbv0] at fv0
  have Bv0 : Box W2 bkv0 [.int .i64 a.x, .int .i64 a.y] 23 := by rw [hW]; exact Box.new hbv0.symm
  replace Bl : Box W2 (bk) [.int .i64 a.x, .int .i64 a.y, .int .i64 b.x, .int .i64 b.y, .int .i64 c.x, .int .i64 c.y, .int .i64 d.x, .int .i64 d.y] 23 := by rw [hW]; exact Bl.old _
  replace Bp : Box W2 (bkp) [.int .i64 p.x, .int .i64 p.y] 23 := by rw [hW]; exact Bp.old _
  replace Bq : Box W2 (bkp + 1) [.int .i64 q.x, .int .i64 q.y] 23 := by rw [hW]; exact Bq.old _
  replace hw : Below w.heap.size w W2 := by have hl := hw.size; rw [hW]; go_grown
  clear hW hbv0
  refine (o0 _).mono ?_
  rintro e w3 ⟨rfl, hb⟩
  clear xl yl zl vl xp yp zp vp xq yq zq vq
  replace Bl := Bl.ext hb rfl
  replace Bp := Bp.ext hb rfl
  replace Bq := Bq.ext hb rfl
  replace Bv0 := Bv0.ext hb rfl
  replace hw := hw.trans (hb.mono hw.size)
  clear hb
  clear Bv0
  obtain ⟨xl, yl, zl, vl⟩ := Bl.facts
  obtain ⟨xp, yp, zp, vp⟩ := Bp.facts
  obtain ⟨xq, yq, zq, vq⟩ := Bq.facts
  go_wp2_with fail
  try rw [rounds_succ]
  go_wp2_with fail
  refine at_call fun W4 hW => ?_
  obtain ⟨bkv1, hbv1⟩ : ∃ b, w3.heap.size = b := ⟨_, rfl⟩
  rw [hbv1]
  have llv1 := Bl.lt
  rw [hbv1] at llv1
  have lpv1 := Bp.lt
  rw [hbv1] at lpv1
  have lqv1 := Bq.lt
  rw [hbv1] at lqv1
  have fv1 := hw.size
  rw [hbv1] at fv1
  have Bv1 : Box W4 bkv1 [.int .i64 b.x, .int .i64 b.y] 23 := by rw [hW]; exact Box.new hbv1.symm
  replace Bl : Box W4 (bk) [.int .i64 a.x, .int .i64 a.y, .int .i64 b.x, .int .i64 b.y, .int .i64 c.x, .int .i64 c.y, .int .i64 d.x, .int .i64 d.y] 23 := by rw [hW]; exact Bl.old _
  replace Bp : Box W4 (bkp) [.int .i64 p.x, .int .i64 p.y] 23 := by rw [hW]; exact Bp.old _
  replace Bq : Box W4 (bkp + 1) [.int .i64 q.x, .int .i64 q.y] 23 := by rw [hW]; exact Bq.old _
  replace hw : Below w.heap.size w W4 := by have hl := hw.size; rw [hW]; go_grown
  clear hW hbv1
  refine (o1 _).mono ?_
  rintro e w5 ⟨rfl, hb⟩
  clear xl yl zl vl xp yp zp vp xq yq zq vq
  replace Bl := Bl.ext hb rfl
  replace Bp := Bp.ext hb rfl
  replace Bq := Bq.ext hb rfl
  replace Bv1 := Bv1.ext hb rfl
  replace hw := hw.trans (hb.mono hw.size)
  clear hb
  clear Bv1
  obtain ⟨xl, yl, zl, vl⟩ := Bl.facts
  obtain ⟨xp, yp, zp, vp⟩ := Bp.facts
  obtain ⟨xq, yq, zq, vq⟩ := Bq.facts
  go_wp2_with fail
  try rw [rounds_succ]
  go_wp2_with fail
  refine at_call fun W6 hW => ?_
  obtain ⟨bkv2, hbv2⟩ : ∃ b, w5.heap.size = b := ⟨_, rfl⟩
  rw [hbv2]
  have llv2 := Bl.lt
  rw [hbv2] at llv2
  have lpv2 := Bp.lt
  rw [hbv2] at lpv2
  have lqv2 := Bq.lt
  rw [hbv2] at lqv2
  have fv2 := hw.size
  rw [hbv2] at fv2
  have Bv2 : Box W6 bkv2 [.int .i64 c.x, .int .i64 c.y] 23 := by rw [hW]; exact Box.new hbv2.symm
  replace Bl : Box W6 (bk) [.int .i64 a.x, .int .i64 a.y, .int .i64 b.x, .int .i64 b.y, .int .i64 c.x, .int .i64 c.y, .int .i64 d.x, .int .i64 d.y] 23 := by rw [hW]; exact Bl.old _
  replace Bp : Box W6 (bkp) [.int .i64 p.x, .int .i64 p.y] 23 := by rw [hW]; exact Bp.old _
  replace Bq : Box W6 (bkp + 1) [.int .i64 q.x, .int .i64 q.y] 23 := by rw [hW]; exact Bq.old _
  replace hw : Below w.heap.size w W6 := by have hl := hw.size; rw [hW]; go_grown
  clear hW hbv2
  refine (o2 _).mono ?_
  rintro e w7 ⟨rfl, hb⟩
  clear xl yl zl vl xp yp zp vp xq yq zq vq
  replace Bl := Bl.ext hb rfl
  replace Bp := Bp.ext hb rfl
  replace Bq := Bq.ext hb rfl
  replace Bv2 := Bv2.ext hb rfl
  replace hw := hw.trans (hb.mono hw.size)
  clear hb
  clear Bv2
  obtain ⟨xl, yl, zl, vl⟩ := Bl.facts
  obtain ⟨xp, yp, zp, vp⟩ := Bp.facts
  obtain ⟨xq, yq, zq, vq⟩ := Bq.facts
  go_wp2_with fail
  try rw [rounds_succ]
  go_wp2_with fail
  refine at_call fun W8 hW => ?_
  obtain ⟨bkv3, hbv3⟩ : ∃ b, w7.heap.size = b := ⟨_, rfl⟩
  rw [hbv3]
  have llv3 := Bl.lt
  rw [hbv3] at llv3
  have lpv3 := Bp.lt
  rw [hbv3] at lpv3
  have lqv3 := Bq.lt
  rw [hbv3] at lqv3
  have fv3 := hw.size
  rw [hbv3] at fv3
  have Bv3 : Box W8 bkv3 [.int .i64 d.x, .int .i64 d.y] 23 := by rw [hW]; exact Box.new hbv3.symm
  replace Bl : Box W8 (bk) [.int .i64 a.x, .int .i64 a.y, .int .i64 b.x, .int .i64 b.y, .int .i64 c.x, .int .i64 c.y, .int .i64 d.x, .int .i64 d.y] 23 := by rw [hW]; exact Bl.old _
  replace Bp : Box W8 (bkp) [.int .i64 p.x, .int .i64 p.y] 23 := by rw [hW]; exact Bp.old _
  replace Bq : Box W8 (bkp + 1) [.int .i64 q.x, .int .i64 q.y] 23 := by rw [hW]; exact Bq.old _
  replace hw : Below w.heap.size w W8 := by have hl := hw.size; rw [hW]; go_grown
  clear hW hbv3
  refine (o3 _).mono ?_
  rintro e w9 ⟨rfl, hb⟩
  clear xl yl zl vl xp yp zp vp xq yq zq vq
  replace Bl := Bl.ext hb rfl
  replace Bp := Bp.ext hb rfl
  replace Bq := Bq.ext hb rfl
  replace Bv3 := Bv3.ext hb rfl
  replace hw := hw.trans (hb.mono hw.size)
  clear hb
  clear Bv3
  obtain ⟨xl, yl, zl, vl⟩ := Bl.facts
  obtain ⟨xp, yp, zp, vp⟩ := Bp.facts
  obtain ⟨xq, yq, zq, vq⟩ := Bq.facts
  go_wp2_with fail
  try rw [rounds_succ]
  go_wp2
  go_ret
  exact ⟨rfl, by have hl := hw.size; go_grown⟩

end Go.Proofs.Ytomdlhdpbdkdhaa
