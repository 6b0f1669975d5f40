/- The contract of the document's own Overlaps, over the program. -/
import Derived.Test.YtomdlhdpbdkdhaaRows
import Derived.Test.YtomdlhdpbdkdhaaReA
import Derived.Test.YtomdlhdpbdkdhaaPost
import Derived.WalkKit
import Derived.WalkSpells
import Derived.WalkLawsBesides
import Derived.Laws.Externs
import Derived.Deep.QuietTactic
import Derived.BigQuiet
import Derived.Lib.Hide
import Derived.Handy
import Derived.LoopTactic
import Derived.Test.YtomdlhdpbdkdhaaExJ
import Derived.Test.YtomdlhdpbdkdhaaExW
namespace Go.Proofs.Ytomdlhdpbdkdhaa
open Go.RowKit Go.Sort
attribute [local go_sem] rOper rAt rUpon cell_set sg_i64 sg_u64 alloc_cell alloc_frozen
attribute [local go_sem 10000] pt_eql pt_neq tri_eql run_mnA run_mxA run_mn2 run_mx2
attribute [local irreducible] rWalk

/-- A window's corners. -/
def cw (r : Rc) (k : Nat) : Pt := if k = 0 then ⟨r.x0, r.y0⟩ else if k = 1 then ⟨r.x1, r.y0⟩ else if k = 2 then ⟨r.x1, r.y1⟩ else ⟨r.x0, r.y1⟩
def cntO (T : Tri3) (r : Rc) (i : Nat) : Nat → Int
  | 0 => 0
  | k + 1 => cntO T r i k + (if ori (crn T i) (crn T (i + 1)) (cw r k) < 0 then 1 else 0)
theorem cntO_bd (T : Tri3) (r : Rc) (i : Nat) : ∀ k, 0 ≤ cntO T r i k ∧ cntO T r i k ≤ (k : Int)
  | 0 => by simp [cntO]
  | k + 1 => by
    have := cntO_bd T r i k
    unfold cntO
    split <;> omega
/-- All four corners beyond the edge. -/
def farO (T : Tri3) (r : Rc) (i : Nat) : Bool := cntO T r i 4 == 4
def sov (T : Tri3) (r : Rc) : Bool := !farO T r 0 && (!farO T r 1 && !farO T r 2)
theorem wrap_small4 {n : Int} (h : 0 ≤ n ∧ n ≤ 100) : wrap64 (n + 1) = n + 1 ∧ IntKind.i64.wrap (n + 1) = n + 1 := by
  rw [IntKind.wrap_i64, w64]; omega
set_option maxHeartbeats 1000000 in
theorem rov_0 (T : Tri3) (r : Rc) (h0 : valT T = false) (w : World) :
    Calls Try.prog 12 #[.agg #[.int .i64 T.A.x, .int .i64 T.A.y, .int .i64 T.B.x, .int .i64 T.B.y, .int .i64 T.C.x, .int .i64 T.C.y], .agg #[.int .i64 r.x0, .int .i64 r.y0, .int .i64 r.x1, .int .i64 r.y1]] w fun e w' => e = .returned (.bool false) ∧ Below w.heap.size w w' := by
  have c0 := rvalT_any T
  have c1 := rwin_any r
  rw [h0] at c0
  clear h0
  go_enter Try.func12, Try.ntmps12
  go_wp2_with fail
  refine at_call fun W1 hW => ?_
  have Bt : Box W1 (w.heap.size) [.int .i64 T.A.x, .int .i64 T.A.y, .int .i64 T.B.x, .int .i64 T.B.y, .int .i64 T.C.x, .int .i64 T.C.y] 25 := by rw [hW]; exact (Box.new rfl).old _
  have Br : Box W1 (w.heap.size + 1) [.int .i64 r.x0, .int .i64 r.y0, .int .i64 r.x1, .int .i64 r.y1] 27 := by rw [hW]; exact Box.new (by simp)
  have hw : Below w.heap.size w W1 := by rw [hW]; go_grown
  clear hW
  refine (c0 _).mono ?_
  rintro e w2 ⟨rfl, hb⟩
  replace Bt := Bt.ext hb rfl
  replace Br := Br.ext hb rfl
  replace hw := hw.trans (hb.mono hw.size)
  clear hb
  obtain ⟨xt, yt, zt, vt⟩ := Bt.facts
  obtain ⟨xr, yr, zr, vr⟩ := Br.facts
  go_wp2
  go_ret
  exact ⟨rfl, by have hl := hw.size; go_grown⟩

set_option maxHeartbeats 1000000 in
theorem rov_1 (T : Tri3) (r : Rc) (h0 : valT T = true) (h1 : win r = false) (w : World) :
    Calls Try.prog 12 #[.agg #[.int .i64 T.A.x, .int .i64 T.A.y, .int .i64 T.B.x, .int .i64 T.B.y, .int .i64 T.C.x, .int .i64 T.C.y], .agg #[.int .i64 r.x0, .int .i64 r.y0, .int .i64 r.x1, .int .i64 r.y1]] w fun e w' => e = .returned (.bool false) ∧ Below w.heap.size w w' := by
  have c0 := rvalT_any T
  have c1 := rwin_any r
  rw [h0] at c0
  rw [h1] at c1
  clear h0 h1
  go_enter Try.func12, Try.ntmps12
  go_wp2_with fail
  refine at_call fun W1 hW => ?_
  have Bt : Box W1 (w.heap.size) [.int .i64 T.A.x, .int .i64 T.A.y, .int .i64 T.B.x, .int .i64 T.B.y, .int .i64 T.C.x, .int .i64 T.C.y] 25 := by rw [hW]; exact (Box.new rfl).old _
  have Br : Box W1 (w.heap.size + 1) [.int .i64 r.x0, .int .i64 r.y0, .int .i64 r.x1, .int .i64 r.y1] 27 := by rw [hW]; exact Box.new (by simp)
  have hw : Below w.heap.size w W1 := by rw [hW]; go_grown
  clear hW
  refine (c0 _).mono ?_
  rintro e w2 ⟨rfl, hb⟩
  replace Bt := Bt.ext hb rfl
  replace Br := Br.ext hb rfl
  replace hw := hw.trans (hb.mono hw.size)
  clear hb
  obtain ⟨xt, yt, zt, vt⟩ := Bt.facts
  obtain ⟨xr, yr, zr, vr⟩ := Br.facts
  go_wp2_with fail
  refine (c1 _).mono ?_
  rintro e w3 ⟨rfl, hb⟩
  clear xt yt zt vt xr yr zr vr
  replace Bt := Bt.ext hb rfl
  replace Br := Br.ext hb rfl
  replace hw := hw.trans (hb.mono hw.size)
  clear hb
  obtain ⟨xt, yt, zt, vt⟩ := Bt.facts
  obtain ⟨xr, yr, zr, vr⟩ := Br.facts
  go_wp2
  go_ret
  exact ⟨rfl, by have hl := hw.size; go_grown⟩

set_option maxHeartbeats 1000000 in
theorem rov_2 (T : Tri3) (r : Rc) (h0 : valT T = true) (h1 : win r = true) (h2 : decide (mxA T.A.x T.B.x T.C.x < r.x0) = true) (w : World) :
    Calls Try.prog 12 #[.agg #[.int .i64 T.A.x, .int .i64 T.A.y, .int .i64 T.B.x, .int .i64 T.B.y, .int .i64 T.C.x, .int .i64 T.C.y], .agg #[.int .i64 r.x0, .int .i64 r.y0, .int .i64 r.x1, .int .i64 r.y1]] w fun e w' => e = .returned (.bool false) ∧ Below w.heap.size w w' := by
  have c0 := rvalT_any T
  have c1 := rwin_any r
  rw [h0] at c0
  rw [h1] at c1
  clear h0 h1
  go_enter Try.func12, Try.ntmps12
  go_wp2_with fail
  refine at_call fun W1 hW => ?_
  have Bt : Box W1 (w.heap.size) [.int .i64 T.A.x, .int .i64 T.A.y, .int .i64 T.B.x, .int .i64 T.B.y, .int .i64 T.C.x, .int .i64 T.C.y] 25 := by rw [hW]; exact (Box.new rfl).old _
  have Br : Box W1 (w.heap.size + 1) [.int .i64 r.x0, .int .i64 r.y0, .int .i64 r.x1, .int .i64 r.y1] 27 := by rw [hW]; exact Box.new (by simp)
  have hw : Below w.heap.size w W1 := by rw [hW]; go_grown
  clear hW
  refine (c0 _).mono ?_
  rintro e w2 ⟨rfl, hb⟩
  replace Bt := Bt.ext hb rfl
  replace Br := Br.ext hb rfl
  replace hw := hw.trans (hb.mono hw.size)
  clear hb
  obtain ⟨xt, yt, zt, vt⟩ := Bt.facts
  obtain ⟨xr, yr, zr, vr⟩ := Br.facts
  go_wp2_with fail
  refine (c1 _).mono ?_
  rintro e w3 ⟨rfl, hb⟩
  clear xt yt zt vt xr yr zr vr
  replace Bt := Bt.ext hb rfl
  replace Br := Br.ext hb rfl
  replace hw := hw.trans (hb.mono hw.size)
  clear hb
  obtain ⟨xt, yt, zt, vt⟩ := Bt.facts
  obtain ⟨xr, yr, zr, vr⟩ := Br.facts
  go_wp2
  go_ret
  exact ⟨rfl, by have hl := hw.size; go_grown⟩

set_option maxHeartbeats 1000000 in
theorem rov_3 (T : Tri3) (r : Rc) (h0 : valT T = true) (h1 : win r = true) (h2 : decide (mxA T.A.x T.B.x T.C.x < r.x0) = false) (h3 : decide (mnA T.A.x T.B.x T.C.x > r.x1) = true) (w : World) :
    Calls Try.prog 12 #[.agg #[.int .i64 T.A.x, .int .i64 T.A.y, .int .i64 T.B.x, .int .i64 T.B.y, .int .i64 T.C.x, .int .i64 T.C.y], .agg #[.int .i64 r.x0, .int .i64 r.y0, .int .i64 r.x1, .int .i64 r.y1]] w fun e w' => e = .returned (.bool false) ∧ Below w.heap.size w w' := by
  have c0 := rvalT_any T
  have c1 := rwin_any r
  rw [h0] at c0
  rw [h1] at c1
  clear h0 h1
  go_enter Try.func12, Try.ntmps12
  go_wp2_with fail
  refine at_call fun W1 hW => ?_
  have Bt : Box W1 (w.heap.size) [.int .i64 T.A.x, .int .i64 T.A.y, .int .i64 T.B.x, .int .i64 T.B.y, .int .i64 T.C.x, .int .i64 T.C.y] 25 := by rw [hW]; exact (Box.new rfl).old _
  have Br : Box W1 (w.heap.size + 1) [.int .i64 r.x0, .int .i64 r.y0, .int .i64 r.x1, .int .i64 r.y1] 27 := by rw [hW]; exact Box.new (by simp)
  have hw : Below w.heap.size w W1 := by rw [hW]; go_grown
  clear hW
  refine (c0 _).mono ?_
  rintro e w2 ⟨rfl, hb⟩
  replace Bt := Bt.ext hb rfl
  replace Br := Br.ext hb rfl
  replace hw := hw.trans (hb.mono hw.size)
  clear hb
  obtain ⟨xt, yt, zt, vt⟩ := Bt.facts
  obtain ⟨xr, yr, zr, vr⟩ := Br.facts
  go_wp2_with fail
  refine (c1 _).mono ?_
  rintro e w3 ⟨rfl, hb⟩
  clear xt yt zt vt xr yr zr vr
  replace Bt := Bt.ext hb rfl
  replace Br := Br.ext hb rfl
  replace hw := hw.trans (hb.mono hw.size)
  clear hb
  obtain ⟨xt, yt, zt, vt⟩ := Bt.facts
  obtain ⟨xr, yr, zr, vr⟩ := Br.facts
  go_wp2
  go_ret
  exact ⟨rfl, by have hl := hw.size; go_grown⟩

set_option maxHeartbeats 1000000 in
theorem rov_4 (T : Tri3) (r : Rc) (h0 : valT T = true) (h1 : win r = true) (h2 : decide (mxA T.A.x T.B.x T.C.x < r.x0) = false) (h3 : decide (mnA T.A.x T.B.x T.C.x > r.x1) = false) (h4 : decide (mxA T.A.y T.B.y T.C.y < r.y0) = true) (w : World) :
    Calls Try.prog 12 #[.agg #[.int .i64 T.A.x, .int .i64 T.A.y, .int .i64 T.B.x, .int .i64 T.B.y, .int .i64 T.C.x, .int .i64 T.C.y], .agg #[.int .i64 r.x0, .int .i64 r.y0, .int .i64 r.x1, .int .i64 r.y1]] w fun e w' => e = .returned (.bool false) ∧ Below w.heap.size w w' := by
  have c0 := rvalT_any T
  have c1 := rwin_any r
  rw [h0] at c0
  rw [h1] at c1
  clear h0 h1
  go_enter Try.func12, Try.ntmps12
  go_wp2_with fail
  refine at_call fun W1 hW => ?_
  have Bt : Box W1 (w.heap.size) [.int .i64 T.A.x, .int .i64 T.A.y, .int .i64 T.B.x, .int .i64 T.B.y, .int .i64 T.C.x, .int .i64 T.C.y] 25 := by rw [hW]; exact (Box.new rfl).old _
  have Br : Box W1 (w.heap.size + 1) [.int .i64 r.x0, .int .i64 r.y0, .int .i64 r.x1, .int .i64 r.y1] 27 := by rw [hW]; exact Box.new (by simp)
  have hw : Below w.heap.size w W1 := by rw [hW]; go_grown
  clear hW
  refine (c0 _).mono ?_
  rintro e w2 ⟨rfl, hb⟩
  replace Bt := Bt.ext hb rfl
  replace Br := Br.ext hb rfl
  replace hw := hw.trans (hb.mono hw.size)
  clear hb
  obtain ⟨xt, yt, zt, vt⟩ := Bt.facts
  obtain ⟨xr, yr, zr, vr⟩ := Br.facts
  go_wp2_with fail
  refine (c1 _).mono ?_
  rintro e w3 ⟨rfl, hb⟩
  clear xt yt zt vt xr yr zr vr
  replace Bt := Bt.ext hb rfl
  replace Br := Br.ext hb rfl
  replace hw := hw.trans (hb.mono hw.size)
  clear hb
  obtain ⟨xt, yt, zt, vt⟩ := Bt.facts
  obtain ⟨xr, yr, zr, vr⟩ := Br.facts
  go_wp2
  go_ret
  exact ⟨rfl, by have hl := hw.size; go_grown⟩

set_option maxHeartbeats 1000000 in
theorem rov_5 (T : Tri3) (r : Rc) (h0 : valT T = true) (h1 : win r = true) (h2 : decide (mxA T.A.x T.B.x T.C.x < r.x0) = false) (h3 : decide (mnA T.A.x T.B.x T.C.x > r.x1) = false) (h4 : decide (mxA T.A.y T.B.y T.C.y < r.y0) = false) (h5 : decide (mnA T.A.y T.B.y T.C.y > r.y1) = true) (w : World) :
    Calls Try.prog 12 #[.agg #[.int .i64 T.A.x, .int .i64 T.A.y, .int .i64 T.B.x, .int .i64 T.B.y, .int .i64 T.C.x, .int .i64 T.C.y], .agg #[.int .i64 r.x0, .int .i64 r.y0, .int .i64 r.x1, .int .i64 r.y1]] w fun e w' => e = .returned (.bool false) ∧ Below w.heap.size w w' := by
  have c0 := rvalT_any T
  have c1 := rwin_any r
  rw [h0] at c0
  rw [h1] at c1
  clear h0 h1
  go_enter Try.func12, Try.ntmps12
  go_wp2_with fail
  refine at_call fun W1 hW => ?_
  have Bt : Box W1 (w.heap.size) [.int .i64 T.A.x, .int .i64 T.A.y, .int .i64 T.B.x, .int .i64 T.B.y, .int .i64 T.C.x, .int .i64 T.C.y] 25 := by rw [hW]; exact (Box.new rfl).old _
  have Br : Box W1 (w.heap.size + 1) [.int .i64 r.x0, .int .i64 r.y0, .int .i64 r.x1, .int .i64 r.y1] 27 := by rw [hW]; exact Box.new (by simp)
  have hw : Below w.heap.size w W1 := by rw [hW]; go_grown
  clear hW
  refine (c0 _).mono ?_
  rintro e w2 ⟨rfl, hb⟩
  replace Bt := Bt.ext hb rfl
  replace Br := Br.ext hb rfl
  replace hw := hw.trans (hb.mono hw.size)
  clear hb
  obtain ⟨xt, yt, zt, vt⟩ := Bt.facts
  obtain ⟨xr, yr, zr, vr⟩ := Br.facts
  go_wp2_with fail
  refine (c1 _).mono ?_
  rintro e w3 ⟨rfl, hb⟩
  clear xt yt zt vt xr yr zr vr
  replace Bt := Bt.ext hb rfl
  replace Br := Br.ext hb rfl
  replace hw := hw.trans (hb.mono hw.size)
  clear hb
  obtain ⟨xt, yt, zt, vt⟩ := Bt.facts
  obtain ⟨xr, yr, zr, vr⟩ := Br.facts
  go_wp2
  go_ret
  exact ⟨rfl, by have hl := hw.size; go_grown⟩

set_option maxRecDepth 100000 in
set_option maxHeartbeats 4000000 in
theorem rov_6 (T : Tri3) (r : Rc) (h0 : valT T = true) (h1 : win r = true) (h2 : decide (mxA T.A.x T.B.x T.C.x < r.x0) = false) (h3 : decide (mnA T.A.x T.B.x T.C.x > r.x1) = false) (h4 : decide (mxA T.A.y T.B.y T.C.y < r.y0) = false) (h5 : decide (mnA T.A.y T.B.y T.C.y > r.y1) = false) (w : World) :
    Calls Try.prog 12 #[.agg #[.int .i64 T.A.x, .int .i64 T.A.y, .int .i64 T.B.x, .int .i64 T.B.y, .int .i64 T.C.x, .int .i64 T.C.y], .agg #[.int .i64 r.x0, .int .i64 r.y0, .int .i64 r.x1, .int .i64 r.y1]] w fun e w' => e = .returned (.bool (sov T r)) ∧ Below w.heap.size w w' := by
  have c0 := rvalT_any T
  have c1 := rwin_any r
  rw [h0] at c0
  rw [h1] at c1
  clear h0 h1
  go_enter Try.func12, Try.ntmps12
  go_wp2_with fail
  refine at_call fun W1 hW => ?_
  have Bt : Box W1 (w.heap.size) [.int .i64 T.A.x, .int .i64 T.A.y, .int .i64 T.B.x, .int .i64 T.B.y, .int .i64 T.C.x, .int .i64 T.C.y] 25 := by rw [hW]; exact (Box.new rfl).old _
  have Br : Box W1 (w.heap.size + 1) [.int .i64 r.x0, .int .i64 r.y0, .int .i64 r.x1, .int .i64 r.y1] 27 := by rw [hW]; exact Box.new (by simp)
  have hw : Below w.heap.size w W1 := by rw [hW]; go_grown
  clear hW
  refine (c0 _).mono ?_
  rintro e w2 ⟨rfl, hb⟩
  replace Bt := Bt.ext hb rfl
  replace Br := Br.ext hb rfl
  replace hw := hw.trans (hb.mono hw.size)
  clear hb
  obtain ⟨xt, yt, zt, vt⟩ := Bt.facts
  obtain ⟨xr, yr, zr, vr⟩ := Br.facts
  go_wp2_with fail
  refine (c1 _).mono ?_
  rintro e w3 ⟨rfl, hb⟩
  clear xt yt zt vt xr yr zr vr
  replace Bt := Bt.ext hb rfl
  replace Br := Br.ext hb rfl
  replace hw := hw.trans (hb.mono hw.size)
  clear hb
  obtain ⟨xt, yt, zt, vt⟩ := Bt.facts
  obtain ⟨xr, yr, zr, vr⟩ := Br.facts
  go_wp2_with fail
  refine at_world fun W4 hW => ?_
  obtain ⟨bkv, hbv⟩ : ∃ b, w3.heap.size = b := ⟨_, rfl⟩
  rw [hbv]
  have ltv := Bt.lt
  rw [hbv] at ltv
  have lrv := Br.lt
  rw [hbv] at lrv
  have fv := hw.size
  rw [hbv] at fv
  have Bv : Box W4 bkv [.int .i64 r.x0, .int .i64 r.y0, .int .i64 r.x1, .int .i64 r.y0, .int .i64 r.x1, .int .i64 r.y1, .int .i64 r.x0, .int .i64 r.y1] 58 := by rw [hW]; exact Box.new hbv.symm
  replace Bt : Box W4 (w.heap.size) [.int .i64 T.A.x, .int .i64 T.A.y, .int .i64 T.B.x, .int .i64 T.B.y, .int .i64 T.C.x, .int .i64 T.C.y] 25 := by rw [hW]; exact Bt.old _
  replace Br : Box W4 (w.heap.size + 1) [.int .i64 r.x0, .int .i64 r.y0, .int .i64 r.x1, .int .i64 r.y1] 27 := by rw [hW]; exact Br.old _
  replace hw : Below w.heap.size w W4 := by have hl := hw.size; rw [hW]; go_grown
  clear hW hbv
  clear h2 h3 h4 h5 c0 c1
  clear xt yt zt vt xr yr zr vr
  go_wp2_with fail
  go_loopw [6] (fun i wr => ∃ n : Nat, n ≤ 3 ∧ i = .int .i64 n ∧ (∀ j, j < n → farO T r j = false) ∧ Below w.heap.size w wr ∧ Box wr (w.heap.size) [.int .i64 T.A.x, .int .i64 T.A.y, .int .i64 T.B.x, .int .i64 T.B.y, .int .i64 T.C.x, .int .i64 T.C.y] 25 ∧ Box wr (w.heap.size + 1) [.int .i64 r.x0, .int .i64 r.y0, .int .i64 r.x1, .int .i64 r.y1] 27 ∧ Box wr (bkv) [.int .i64 r.x0, .int .i64 r.y0, .int .i64 r.x1, .int .i64 r.y0, .int .i64 r.x1, .int .i64 r.y1, .int .i64 r.x0, .int .i64 r.y1] 58) (fun i _ => 3 - (intOf i).toNat)
  case atStart => exact ⟨0, by omega, rfl, fun j h => absurd h (by omega), hw, Bt, Br, Bv⟩
  case round =>
    obtain ⟨n, n3, rfl, hfar, hw', Ct, Cr, Cv⟩ := hrel
    clear hw Bt Br Bv
    have hw := hw'
    clear hw'
    have Bt := Ct
    clear Ct
    have Br := Cr
    clear Cr
    have Bv := Cv
    clear Cv
    by_cases hn : n < 3
    · have hd : decide ((n : Int) < 3) = true := by simp; omega
      go_wp2_with fail
      go_loopw [7, 8] (fun o k wi => ∃ m : Nat, m ≤ 4 ∧ o = .int .i64 (cntO T r n m) ∧ k = .int .i64 m ∧ Below w.heap.size w wi ∧ Box wi (w.heap.size) [.int .i64 T.A.x, .int .i64 T.A.y, .int .i64 T.B.x, .int .i64 T.B.y, .int .i64 T.C.x, .int .i64 T.C.y] 25 ∧ Box wi (w.heap.size + 1) [.int .i64 r.x0, .int .i64 r.y0, .int .i64 r.x1, .int .i64 r.y1] 27 ∧ Box wi (bkv) [.int .i64 r.x0, .int .i64 r.y0, .int .i64 r.x1, .int .i64 r.y0, .int .i64 r.x1, .int .i64 r.y1, .int .i64 r.x0, .int .i64 r.y1] 58) (fun _ k _ => 4 - (intOf k).toNat)
      case atStart => exact ⟨0, by omega, rfl, rfl, hw, Bt, Br, Bv⟩
      case round =>
        obtain ⟨m, m4, rfl, rfl, hw', Ct, Cr, Cv⟩ := hrel
        clear hw Bt Br Bv
        have hw := hw'
        clear hw'
        have Bt := Ct
        clear Ct
        have Br := Cr
        clear Cr
        have Bv := Cv
        clear Cv
        by_cases hk : m < 4
        · have c1 := rcorner_any T n
          have c2 := rcorner_any T (n + 1)
          have co := rorient_any (crn T n) (crn T (n + 1))
          obtain ⟨wI, wI2⟩ := wrap_small4 (n := (n : Int)) (by omega)
          obtain ⟨wN, wN2⟩ := wrap_small4 (n := cntO T r n m) (by have := cntO_bd T r n m; omega)
          have eN : cntO T r n (m + 1) = cntO T r n m + (if ori (crn T n) (crn T (n + 1)) (cw r m) < 0 then 1 else 0) := rfl
          generalize cntO T r n m = N at *
          generalize crn T (n + 1) = Y at *
          generalize crn T n = X at *
          clear hfar hd
          have hm4 : m = 0 ∨ m = 1 ∨ m = 2 ∨ m = 3 := by omega
          rcases hm4 with rfl | rfl | rfl | rfl
          · cases hq : decide (ori X Y (cw r 0) < 0)
            · rw [if_neg (of_decide_eq_false hq)] at eN
              have co := co (⟨r.x0, r.y0⟩ : Pt)
              have hq : decide (ori X Y (⟨r.x0, r.y0⟩ : Pt) < 0) = false := hq
              generalize ori X Y (⟨r.x0, r.y0⟩ : Pt) = o at *
              have hm : decide (((0 : Nat) : Int) < 4) = true := by decide
              have EN := Lib.hid eN
              clear eN
              as_aux_lemma =>
                go_wp2_with fail
                have gt := Bt.cells
                have gr := Br.cells
                have gv := Bv.cells
                refine wp_region_tail 11 (by kernel_rfl) (by kernel_rfl) (C := fun w' => ∃ p : Regrown, w' = grow (redrawn wr p.d) p.os) (fun w' h => regrown_of_below h) ?_
                simp only [List.take_succ_cons, List.take_zero, List.drop_succ_cons, List.drop_zero]
                repeat (first | (refine rWalk_skip (Eq.refl false) ?_; simp only [Act.put, List.setIfInBounds_toArray, List.set_cons_succ, List.set_cons_zero]) | (refine rWalk_step (fun K hK => ?_); go_simp; first | (refine hK _ ?_; clear hK K) | (apply Exists.intro; refine ⟨fun _ => ?_, hK _ ?_⟩; (first | with_reducible exact toExt c1 _ | with_reducible exact toExt c2 _ | with_reducible exact toExt co _); clear hK K)))
                refine rWalk_nil ?_
                intro w5 hb
                clear gt gr gv
                replace Bt := Bt.ext hb rfl
                replace Br := Br.ext hb rfl
                replace Bv := Bv.ext hb rfl
                replace hw := hw.trans (hb.mono hw.size)
                go_wp2_with fail
                go_roundw
                case rel => exact ⟨1, by omega, by rw [show cntO T r n 1 = N from EN.out.trans (by simp)], rfl, hw, Bt, Br, Bv⟩
                case measure => simp [intOf]
            · rw [if_pos (of_decide_eq_true hq)] at eN
              have co := co (⟨r.x0, r.y0⟩ : Pt)
              have hq : decide (ori X Y (⟨r.x0, r.y0⟩ : Pt) < 0) = true := hq
              generalize ori X Y (⟨r.x0, r.y0⟩ : Pt) = o at *
              have hm : decide (((0 : Nat) : Int) < 4) = true := by decide
              have EN := Lib.hid eN
              clear eN
              as_aux_lemma =>
                go_wp2_with fail
                have gt := Bt.cells
                have gr := Br.cells
                have gv := Bv.cells
                refine wp_region_tail 11 (by kernel_rfl) (by kernel_rfl) (C := fun w' => ∃ p : Regrown, w' = grow (redrawn wr p.d) p.os) (fun w' h => regrown_of_below h) ?_
                simp only [List.take_succ_cons, List.take_zero, List.drop_succ_cons, List.drop_zero]
                repeat (first | (refine rWalk_skip (Eq.refl false) ?_; simp only [Act.put, List.setIfInBounds_toArray, List.set_cons_succ, List.set_cons_zero]) | (refine rWalk_step (fun K hK => ?_); go_simp; first | (refine hK _ ?_; clear hK K) | (apply Exists.intro; refine ⟨fun _ => ?_, hK _ ?_⟩; (first | with_reducible exact toExt c1 _ | with_reducible exact toExt c2 _ | with_reducible exact toExt co _); clear hK K)))
                refine rWalk_nil ?_
                intro w5 hb
                clear gt gr gv
                replace Bt := Bt.ext hb rfl
                replace Br := Br.ext hb rfl
                replace Bv := Bv.ext hb rfl
                replace hw := hw.trans (hb.mono hw.size)
                go_wp2_with fail
                go_roundw
                case rel => exact ⟨1, by omega, by rw [show cntO T r n 1 = N + 1 from EN.out], rfl, hw, Bt, Br, Bv⟩
                case measure => simp [intOf]
          · cases hq : decide (ori X Y (cw r 1) < 0)
            · rw [if_neg (of_decide_eq_false hq)] at eN
              have co := co (⟨r.x1, r.y0⟩ : Pt)
              have hq : decide (ori X Y (⟨r.x1, r.y0⟩ : Pt) < 0) = false := hq
              generalize ori X Y (⟨r.x1, r.y0⟩ : Pt) = o at *
              have hm : decide (((1 : Nat) : Int) < 4) = true := by decide
              have EN := Lib.hid eN
              clear eN
              as_aux_lemma =>
                go_wp2_with fail
                have gt := Bt.cells
                have gr := Br.cells
                have gv := Bv.cells
                refine wp_region_tail 11 (by kernel_rfl) (by kernel_rfl) (C := fun w' => ∃ p : Regrown, w' = grow (redrawn wr p.d) p.os) (fun w' h => regrown_of_below h) ?_
                simp only [List.take_succ_cons, List.take_zero, List.drop_succ_cons, List.drop_zero]
                repeat (first | (refine rWalk_skip (Eq.refl false) ?_; simp only [Act.put, List.setIfInBounds_toArray, List.set_cons_succ, List.set_cons_zero]) | (refine rWalk_step (fun K hK => ?_); go_simp; first | (refine hK _ ?_; clear hK K) | (apply Exists.intro; refine ⟨fun _ => ?_, hK _ ?_⟩; (first | with_reducible exact toExt c1 _ | with_reducible exact toExt c2 _ | with_reducible exact toExt co _); clear hK K)))
                refine rWalk_nil ?_
                intro w5 hb
                clear gt gr gv
                replace Bt := Bt.ext hb rfl
                replace Br := Br.ext hb rfl
                replace Bv := Bv.ext hb rfl
                replace hw := hw.trans (hb.mono hw.size)
                go_wp2_with fail
                go_roundw
                case rel => exact ⟨2, by omega, by rw [show cntO T r n 2 = N from EN.out.trans (by simp)], rfl, hw, Bt, Br, Bv⟩
                case measure => simp [intOf]
            · rw [if_pos (of_decide_eq_true hq)] at eN
              have co := co (⟨r.x1, r.y0⟩ : Pt)
              have hq : decide (ori X Y (⟨r.x1, r.y0⟩ : Pt) < 0) = true := hq
              generalize ori X Y (⟨r.x1, r.y0⟩ : Pt) = o at *
              have hm : decide (((1 : Nat) : Int) < 4) = true := by decide
              have EN := Lib.hid eN
              clear eN
              as_aux_lemma =>
                go_wp2_with fail
                have gt := Bt.cells
                have gr := Br.cells
                have gv := Bv.cells
                refine wp_region_tail 11 (by kernel_rfl) (by kernel_rfl) (C := fun w' => ∃ p : Regrown, w' = grow (redrawn wr p.d) p.os) (fun w' h => regrown_of_below h) ?_
                simp only [List.take_succ_cons, List.take_zero, List.drop_succ_cons, List.drop_zero]
                repeat (first | (refine rWalk_skip (Eq.refl false) ?_; simp only [Act.put, List.setIfInBounds_toArray, List.set_cons_succ, List.set_cons_zero]) | (refine rWalk_step (fun K hK => ?_); go_simp; first | (refine hK _ ?_; clear hK K) | (apply Exists.intro; refine ⟨fun _ => ?_, hK _ ?_⟩; (first | with_reducible exact toExt c1 _ | with_reducible exact toExt c2 _ | with_reducible exact toExt co _); clear hK K)))
                refine rWalk_nil ?_
                intro w5 hb
                clear gt gr gv
                replace Bt := Bt.ext hb rfl
                replace Br := Br.ext hb rfl
                replace Bv := Bv.ext hb rfl
                replace hw := hw.trans (hb.mono hw.size)
                go_wp2_with fail
                go_roundw
                case rel => exact ⟨2, by omega, by rw [show cntO T r n 2 = N + 1 from EN.out], rfl, hw, Bt, Br, Bv⟩
                case measure => simp [intOf]
          · cases hq : decide (ori X Y (cw r 2) < 0)
            · rw [if_neg (of_decide_eq_false hq)] at eN
              have co := co (⟨r.x1, r.y1⟩ : Pt)
              have hq : decide (ori X Y (⟨r.x1, r.y1⟩ : Pt) < 0) = false := hq
              generalize ori X Y (⟨r.x1, r.y1⟩ : Pt) = o at *
              have hm : decide (((2 : Nat) : Int) < 4) = true := by decide
              have EN := Lib.hid eN
              clear eN
              as_aux_lemma =>
                go_wp2_with fail
                have gt := Bt.cells
                have gr := Br.cells
                have gv := Bv.cells
                refine wp_region_tail 11 (by kernel_rfl) (by kernel_rfl) (C := fun w' => ∃ p : Regrown, w' = grow (redrawn wr p.d) p.os) (fun w' h => regrown_of_below h) ?_
                simp only [List.take_succ_cons, List.take_zero, List.drop_succ_cons, List.drop_zero]
                repeat (first | (refine rWalk_skip (Eq.refl false) ?_; simp only [Act.put, List.setIfInBounds_toArray, List.set_cons_succ, List.set_cons_zero]) | (refine rWalk_step (fun K hK => ?_); go_simp; first | (refine hK _ ?_; clear hK K) | (apply Exists.intro; refine ⟨fun _ => ?_, hK _ ?_⟩; (first | with_reducible exact toExt c1 _ | with_reducible exact toExt c2 _ | with_reducible exact toExt co _); clear hK K)))
                refine rWalk_nil ?_
                intro w5 hb
                clear gt gr gv
                replace Bt := Bt.ext hb rfl
                replace Br := Br.ext hb rfl
                replace Bv := Bv.ext hb rfl
                replace hw := hw.trans (hb.mono hw.size)
                go_wp2_with fail
                go_roundw
                case rel => exact ⟨3, by omega, by rw [show cntO T r n 3 = N from EN.out.trans (by simp)], rfl, hw, Bt, Br, Bv⟩
                case measure => simp [intOf]
            · rw [if_pos (of_decide_eq_true hq)] at eN
              have co := co (⟨r.x1, r.y1⟩ : Pt)
              have hq : decide (ori X Y (⟨r.x1, r.y1⟩ : Pt) < 0) = true := hq
              generalize ori X Y (⟨r.x1, r.y1⟩ : Pt) = o at *
              have hm : decide (((2 : Nat) : Int) < 4) = true := by decide
              have EN := Lib.hid eN
              clear eN
              as_aux_lemma =>
                go_wp2_with fail
                have gt := Bt.cells
                have gr := Br.cells
                have gv := Bv.cells
                refine wp_region_tail 11 (by kernel_rfl) (by kernel_rfl) (C := fun w' => ∃ p : Regrown, w' = grow (redrawn wr p.d) p.os) (fun w' h => regrown_of_below h) ?_
                simp only [List.take_succ_cons, List.take_zero, List.drop_succ_cons, List.drop_zero]
                repeat (first | (refine rWalk_skip (Eq.refl false) ?_; simp only [Act.put, List.setIfInBounds_toArray, List.set_cons_succ, List.set_cons_zero]) | (refine rWalk_step (fun K hK => ?_); go_simp; first | (refine hK _ ?_; clear hK K) | (apply Exists.intro; refine ⟨fun _ => ?_, hK _ ?_⟩; (first | with_reducible exact toExt c1 _ | with_reducible exact toExt c2 _ | with_reducible exact toExt co _); clear hK K)))
                refine rWalk_nil ?_
                intro w5 hb
                clear gt gr gv
                replace Bt := Bt.ext hb rfl
                replace Br := Br.ext hb rfl
                replace Bv := Bv.ext hb rfl
                replace hw := hw.trans (hb.mono hw.size)
                go_wp2_with fail
                go_roundw
                case rel => exact ⟨3, by omega, by rw [show cntO T r n 3 = N + 1 from EN.out], rfl, hw, Bt, Br, Bv⟩
                case measure => simp [intOf]
          · cases hq : decide (ori X Y (cw r 3) < 0)
            · rw [if_neg (of_decide_eq_false hq)] at eN
              have co := co (⟨r.x0, r.y1⟩ : Pt)
              have hq : decide (ori X Y (⟨r.x0, r.y1⟩ : Pt) < 0) = false := hq
              generalize ori X Y (⟨r.x0, r.y1⟩ : Pt) = o at *
              have hm : decide (((3 : Nat) : Int) < 4) = true := by decide
              have EN := Lib.hid eN
              clear eN
              as_aux_lemma =>
                go_wp2_with fail
                have gt := Bt.cells
                have gr := Br.cells
                have gv := Bv.cells
                refine wp_region_tail 11 (by kernel_rfl) (by kernel_rfl) (C := fun w' => ∃ p : Regrown, w' = grow (redrawn wr p.d) p.os) (fun w' h => regrown_of_below h) ?_
                simp only [List.take_succ_cons, List.take_zero, List.drop_succ_cons, List.drop_zero]
                repeat (first | (refine rWalk_skip (Eq.refl false) ?_; simp only [Act.put, List.setIfInBounds_toArray, List.set_cons_succ, List.set_cons_zero]) | (refine rWalk_step (fun K hK => ?_); go_simp; first | (refine hK _ ?_; clear hK K) | (apply Exists.intro; refine ⟨fun _ => ?_, hK _ ?_⟩; (first | with_reducible exact toExt c1 _ | with_reducible exact toExt c2 _ | with_reducible exact toExt co _); clear hK K)))
                refine rWalk_nil ?_
                intro w5 hb
                clear gt gr gv
                replace Bt := Bt.ext hb rfl
                replace Br := Br.ext hb rfl
                replace Bv := Bv.ext hb rfl
                replace hw := hw.trans (hb.mono hw.size)
                go_wp2_with fail
                go_roundw
                case rel => exact ⟨4, by omega, by rw [show cntO T r n 4 = N from EN.out.trans (by simp)], rfl, hw, Bt, Br, Bv⟩
                case measure => simp [intOf]
            · rw [if_pos (of_decide_eq_true hq)] at eN
              have co := co (⟨r.x0, r.y1⟩ : Pt)
              have hq : decide (ori X Y (⟨r.x0, r.y1⟩ : Pt) < 0) = true := hq
              generalize ori X Y (⟨r.x0, r.y1⟩ : Pt) = o at *
              have hm : decide (((3 : Nat) : Int) < 4) = true := by decide
              have EN := Lib.hid eN
              clear eN
              as_aux_lemma =>
                go_wp2_with fail
                have gt := Bt.cells
                have gr := Br.cells
                have gv := Bv.cells
                refine wp_region_tail 11 (by kernel_rfl) (by kernel_rfl) (C := fun w' => ∃ p : Regrown, w' = grow (redrawn wr p.d) p.os) (fun w' h => regrown_of_below h) ?_
                simp only [List.take_succ_cons, List.take_zero, List.drop_succ_cons, List.drop_zero]
                repeat (first | (refine rWalk_skip (Eq.refl false) ?_; simp only [Act.put, List.setIfInBounds_toArray, List.set_cons_succ, List.set_cons_zero]) | (refine rWalk_step (fun K hK => ?_); go_simp; first | (refine hK _ ?_; clear hK K) | (apply Exists.intro; refine ⟨fun _ => ?_, hK _ ?_⟩; (first | with_reducible exact toExt c1 _ | with_reducible exact toExt c2 _ | with_reducible exact toExt co _); clear hK K)))
                refine rWalk_nil ?_
                intro w5 hb
                clear gt gr gv
                replace Bt := Bt.ext hb rfl
                replace Br := Br.ext hb rfl
                replace Bv := Bv.ext hb rfl
                replace hw := hw.trans (hb.mono hw.size)
                go_wp2_with fail
                go_roundw
                case rel => exact ⟨4, by omega, by rw [show cntO T r n 4 = N + 1 from EN.out], rfl, hw, Bt, Br, Bv⟩
                case measure => simp [intOf]
        · obtain rfl : m = 4 := by omega
          have hm : decide (((4 : Nat) : Int) < 4) = false := by decide
          cases hq : farO T r n
          · have hfar2 : ∀ j, j < n + 1 → farO T r j = false := by
              intro j hj
              by_cases e : j = n
              · rw [e]; exact hq
              · exact hfar j (by omega)
            obtain ⟨wI, wI2⟩ := wrap_small4 (n := (n : Int)) (by omega)
            unfold farO at hq
            generalize cntO T r n 4 = N at *
            clear hfar
            go_wp2_with fail
            go_roundw
            case rel => exact ⟨n + 1, by omega, rfl, hfar2, hw, Bt, Br, Bv⟩
            case measure => simp [intOf]; omega
          · have hs : sov T r = false := by
              unfold sov
              have hn : n = 0 ∨ n = 1 ∨ n = 2 := by omega
              rcases hn with rfl | rfl | rfl <;> rw [hq] <;> simp
            have HS := Lib.hid hs
            unfold farO at hq
            generalize cntO T r n 4 = N at *
            clear hs hfar
            go_wp2
            go_ret
            exact ⟨ret_bool HS.out.symm, hw⟩
    · obtain rfl : n = 3 := by omega
      have hs : sov T r = true := by unfold sov; rw [hfar 0 (by omega), hfar 1 (by omega), hfar 2 (by omega)]; rfl
      have HS := Lib.hid hs
      have hd : decide (((3 : Nat) : Int) < 3) = false := by decide
      clear hs hfar
      go_wp2
      go_ret
      exact ⟨ret_bool HS.out.symm, hw⟩

def rovl (T : Tri3) (r : Rc) : Bool := valT T && (win r && (!decide (mxA T.A.x T.B.x T.C.x < r.x0) && (!decide (mnA T.A.x T.B.x T.C.x > r.x1) && (!decide (mxA T.A.y T.B.y T.C.y < r.y0) && (!decide (mnA T.A.y T.B.y T.C.y > r.y1) && sov T r)))))
theorem rovl_any (T : Tri3) (r : Rc) (w : World) :
    Calls Try.prog 12 #[.agg #[.int .i64 T.A.x, .int .i64 T.A.y, .int .i64 T.B.x, .int .i64 T.B.y, .int .i64 T.C.x, .int .i64 T.C.y], .agg #[.int .i64 r.x0, .int .i64 r.y0, .int .i64 r.x1, .int .i64 r.y1]] w fun e w' => e = .returned (.bool (rovl T r)) ∧ Below w.heap.size w w' := by
  unfold rovl
  cases h0 : valT T with
  | false => exact rov_0 T r h0 w
  | true => cases h1 : win r with
    | false => exact rov_1 T r h0 h1 w
    | true => cases h2 : decide (mxA T.A.x T.B.x T.C.x < r.x0) with
      | true => exact rov_2 T r h0 h1 h2 w
      | false => cases h3 : decide (mnA T.A.x T.B.x T.C.x > r.x1) with
        | true => exact rov_3 T r h0 h1 h2 h3 w
        | false => cases h4 : decide (mxA T.A.y T.B.y T.C.y < r.y0) with
          | true => exact rov_4 T r h0 h1 h2 h3 h4 w
          | false => cases h5 : decide (mnA T.A.y T.B.y T.C.y > r.y1) with
            | true => exact rov_5 T r h0 h1 h2 h3 h4 h5 w
            | false => exact rov_6 T r h0 h1 h2 h3 h4 h5 w
end Go.Proofs.Ytomdlhdpbdkdhaa
