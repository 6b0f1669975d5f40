/- The contract of package tri's Make, over the program: it is the document's own. -/
import Derived.Test.YtijdbddjhnjcdaaRows
import Derived.Test.YtijdbddjhnjcdaaSto
import Derived.Test.YtijdbddjhnjcdaaTrC
import Derived.Test.YtijdbddjhnjcdaaPost
import Derived.WalkKit
import Derived.WalkSpells
import Derived.WalkLawsBesides
import Derived.Laws.Externs
import Derived.Deep.QuietTactic
import Derived.BigQuiet
import Derived.Lib.Hide
import Derived.Handy
import Derived.LoopN
import Derived.RegionTactic
namespace Go.Proofs.Ytijdbddjhnjcdaa
open Go.RowKit Go.Sort
attribute [local go_sem] rOper rAt rUpon cell_set sg_i64 sg_u64 alloc_cell alloc_frozen
attribute [local go_sem 10000] pt_eql pt_neq tri_eql
attribute [local irreducible] rWalk

set_option maxHeartbeats 1000000 in
theorem tmake_n0 (a b c : Pt) (l0 : lds ⟨a, b, c⟩ = true) (ho : decide (ori a b c < 0) = true) (hv : valT ⟨a, c, b⟩ = true) (w : World) :
    Calls Try.prog 4 #[.agg #[.int .i64 a.x, .int .i64 a.y], .agg #[.int .i64 b.x, .int .i64 b.y], .agg #[.int .i64 c.x, .int .i64 c.y]] w fun e w' => e = .returned (.tuple #[.agg #[.int .i64 a.x, .int .i64 a.y, .int .i64 c.x, .int .i64 c.y, .int .i64 b.x, .int .i64 b.y], .bool true]) ∧ Below w.heap.size w w' := by
  have k0 := leads_any ⟨a, b, c⟩
  rw [l0] at k0
  dsimp only at k0
  have co := orient_any a b c
  have cv := tvalid_any ⟨a, c, b⟩
  rw [hv] at cv
  dsimp only at cv
  generalize ori a b c = n at *
  clear hv l0
  go_enter Try.func4, Try.ntmps4
  go_wp2_with fail
  refine at_world fun W1 hW => ?_
  have Ba : Box W1 (w.heap.size) [.int .i64 a.x, .int .i64 a.y] 23 := by rw [hW]; exact ((((Box.new rfl).old _).old _).old _).old _
  have Bb : Box W1 (w.heap.size + 1) [.int .i64 b.x, .int .i64 b.y] 23 := by rw [hW]; exact (((Box.new (by simp)).old _).old _).old _
  have Bc : Box W1 (w.heap.size + 1 + 1) [.int .i64 c.x, .int .i64 c.y] 23 := by rw [hW]; exact ((Box.new (by simp)).old _).old _
  have Br : Box W1 (w.heap.size + 1 + 1 + 1) [.int .i64 0, .int .i64 0, .int .i64 0, .int .i64 0, .int .i64 0, .int .i64 0] 25 := by rw [hW]; exact (Box.new (by simp)).old _
  have Bt : Box W1 (w.heap.size + 1 + 1 + 1 + 1) [.int .i64 a.x, .int .i64 a.y, .int .i64 b.x, .int .i64 b.y, .int .i64 c.x, .int .i64 c.y] 25 := by rw [hW]; exact Box.new (by simp)
  have hw : Below w.heap.size w W1 := by rw [hW]; go_grown
  clear hW
  refine wp_loop_rounds 4 ?_
  try rw [rounds_succ]
  obtain ⟨xa, ya, za, va⟩ := Ba.facts
  obtain ⟨xb, yb, zb, vb⟩ := Bb.facts
  obtain ⟨xc, yc, zc, vc⟩ := Bc.facts
  obtain ⟨xr, yr, zr, vr⟩ := Br.facts
  obtain ⟨xt, yt, zt, vt⟩ := Bt.facts
  go_wp2_with fail
  refine (k0 _).mono ?_
  rintro e w2 ⟨rfl, hb⟩
  clear xa ya za va xb yb zb vb xc yc zc vc xr yr zr vr xt yt zt vt
  replace Ba := Ba.ext hb rfl
  replace Bb := Bb.ext hb rfl
  replace Bc := Bc.ext hb rfl
  replace Br := Br.ext hb rfl
  replace Bt := Bt.ext hb rfl
  replace hw := hw.trans (hb.mono hw.size)
  clear hb
  obtain ⟨xa, ya, za, va⟩ := Ba.facts
  obtain ⟨xb, yb, zb, vb⟩ := Bb.facts
  obtain ⟨xc, yc, zc, vc⟩ := Bc.facts
  obtain ⟨xr, yr, zr, vr⟩ := Br.facts
  obtain ⟨xt, yt, zt, vt⟩ := Bt.facts
  go_wp2_with fail
  refine (co _).mono ?_
  rintro e w3 ⟨rfl, hb⟩
  clear xa ya za va xb yb zb vb xc yc zc vc xr yr zr vr xt yt zt vt
  replace Ba := Ba.ext hb rfl
  replace Bb := Bb.ext hb rfl
  replace Bc := Bc.ext hb rfl
  replace Br := Br.ext hb rfl
  replace Bt := Bt.ext hb rfl
  replace hw := hw.trans (hb.mono hw.size)
  clear hb
  obtain ⟨xa, ya, za, va⟩ := Ba.facts
  obtain ⟨xb, yb, zb, vb⟩ := Bb.facts
  obtain ⟨xc, yc, zc, vc⟩ := Bc.facts
  obtain ⟨xr, yr, zr, vr⟩ := Br.facts
  obtain ⟨xt, yt, zt, vt⟩ := Bt.facts
  go_wp2_with fail
  refine at_call fun W4 hW => ?_
  replace Ba := sto Ba hW
  replace Bb := sto Bb hW
  replace Bc := sto Bc hW
  replace Br := sto Br hW
  replace Bt := sto Bt hW
  replace hw := stw hw hW
  clear xa ya za va xb yb zb vb xc yc zc vc xr yr zr vr xt yt zt vt
  clear hW
  refine (cv _).mono ?_
  rintro e w5 ⟨rfl, hb⟩
  replace Ba := Ba.ext hb rfl
  replace Bb := Bb.ext hb rfl
  replace Bc := Bc.ext hb rfl
  replace Br := Br.ext hb rfl
  replace Bt := Bt.ext hb rfl
  replace hw := hw.trans (hb.mono hw.size)
  clear hb
  obtain ⟨xa, ya, za, va⟩ := Ba.facts
  obtain ⟨xb, yb, zb, vb⟩ := Bb.facts
  obtain ⟨xc, yc, zc, vc⟩ := Bc.facts
  obtain ⟨xr, yr, zr, vr⟩ := Br.facts
  obtain ⟨xt, yt, zt, vt⟩ := Bt.facts
  go_wp2_with fail
  refine bodyPost_ret (v := .tuple #[.agg #[.int .i64 a.x, .int .i64 a.y, .int .i64 c.x, .int .i64 c.y, .int .i64 b.x, .int .i64 b.y], .bool true]) (by simp [results, Try.results4, go_sem, xr]) rfl ⟨rfl, by have hl := hw.size; go_grown⟩

set_option maxHeartbeats 1000000 in
theorem tmake_p0 (a b c : Pt) (l0 : lds ⟨a, b, c⟩ = true) (ho : decide (ori a b c < 0) = false) (hv : valT ⟨a, b, c⟩ = true) (w : World) :
    Calls Try.prog 4 #[.agg #[.int .i64 a.x, .int .i64 a.y], .agg #[.int .i64 b.x, .int .i64 b.y], .agg #[.int .i64 c.x, .int .i64 c.y]] w fun e w' => e = .returned (.tuple #[.agg #[.int .i64 a.x, .int .i64 a.y, .int .i64 b.x, .int .i64 b.y, .int .i64 c.x, .int .i64 c.y], .bool true]) ∧ Below w.heap.size w w' := by
  have k0 := leads_any ⟨a, b, c⟩
  rw [l0] at k0
  dsimp only at k0
  have co := orient_any a b c
  have cv := tvalid_any ⟨a, b, c⟩
  rw [hv] at cv
  dsimp only at cv
  generalize ori a b c = n at *
  clear hv l0
  go_enter Try.func4, Try.ntmps4
  go_wp2_with fail
  refine at_world fun W1 hW => ?_
  have Ba : Box W1 (w.heap.size) [.int .i64 a.x, .int .i64 a.y] 23 := by rw [hW]; exact ((((Box.new rfl).old _).old _).old _).old _
  have Bb : Box W1 (w.heap.size + 1) [.int .i64 b.x, .int .i64 b.y] 23 := by rw [hW]; exact (((Box.new (by simp)).old _).old _).old _
  have Bc : Box W1 (w.heap.size + 1 + 1) [.int .i64 c.x, .int .i64 c.y] 23 := by rw [hW]; exact ((Box.new (by simp)).old _).old _
  have Br : Box W1 (w.heap.size + 1 + 1 + 1) [.int .i64 0, .int .i64 0, .int .i64 0, .int .i64 0, .int .i64 0, .int .i64 0] 25 := by rw [hW]; exact (Box.new (by simp)).old _
  have Bt : Box W1 (w.heap.size + 1 + 1 + 1 + 1) [.int .i64 a.x, .int .i64 a.y, .int .i64 b.x, .int .i64 b.y, .int .i64 c.x, .int .i64 c.y] 25 := by rw [hW]; exact Box.new (by simp)
  have hw : Below w.heap.size w W1 := by rw [hW]; go_grown
  clear hW
  refine wp_loop_rounds 4 ?_
  try rw [rounds_succ]
  obtain ⟨xa, ya, za, va⟩ := Ba.facts
  obtain ⟨xb, yb, zb, vb⟩ := Bb.facts
  obtain ⟨xc, yc, zc, vc⟩ := Bc.facts
  obtain ⟨xr, yr, zr, vr⟩ := Br.facts
  obtain ⟨xt, yt, zt, vt⟩ := Bt.facts
  go_wp2_with fail
  refine (k0 _).mono ?_
  rintro e w2 ⟨rfl, hb⟩
  clear xa ya za va xb yb zb vb xc yc zc vc xr yr zr vr xt yt zt vt
  replace Ba := Ba.ext hb rfl
  replace Bb := Bb.ext hb rfl
  replace Bc := Bc.ext hb rfl
  replace Br := Br.ext hb rfl
  replace Bt := Bt.ext hb rfl
  replace hw := hw.trans (hb.mono hw.size)
  clear hb
  obtain ⟨xa, ya, za, va⟩ := Ba.facts
  obtain ⟨xb, yb, zb, vb⟩ := Bb.facts
  obtain ⟨xc, yc, zc, vc⟩ := Bc.facts
  obtain ⟨xr, yr, zr, vr⟩ := Br.facts
  obtain ⟨xt, yt, zt, vt⟩ := Bt.facts
  go_wp2_with fail
  refine (co _).mono ?_
  rintro e w3 ⟨rfl, hb⟩
  clear xa ya za va xb yb zb vb xc yc zc vc xr yr zr vr xt yt zt vt
  replace Ba := Ba.ext hb rfl
  replace Bb := Bb.ext hb rfl
  replace Bc := Bc.ext hb rfl
  replace Br := Br.ext hb rfl
  replace Bt := Bt.ext hb rfl
  replace hw := hw.trans (hb.mono hw.size)
  clear hb
  obtain ⟨xa, ya, za, va⟩ := Ba.facts
  obtain ⟨xb, yb, zb, vb⟩ := Bb.facts
  obtain ⟨xc, yc, zc, vc⟩ := Bc.facts
  obtain ⟨xr, yr, zr, vr⟩ := Br.facts
  obtain ⟨xt, yt, zt, vt⟩ := Bt.facts
  go_wp2_with fail
  refine (cv _).mono ?_
  rintro e w4 ⟨rfl, hb⟩
  clear xa ya za va xb yb zb vb xc yc zc vc xr yr zr vr xt yt zt vt
  replace Ba := Ba.ext hb rfl
  replace Bb := Bb.ext hb rfl
  replace Bc := Bc.ext hb rfl
  replace Br := Br.ext hb rfl
  replace Bt := Bt.ext hb rfl
  replace hw := hw.trans (hb.mono hw.size)
  clear hb
  obtain ⟨xa, ya, za, va⟩ := Ba.facts
  obtain ⟨xb, yb, zb, vb⟩ := Bb.facts
  obtain ⟨xc, yc, zc, vc⟩ := Bc.facts
  obtain ⟨xr, yr, zr, vr⟩ := Br.facts
  obtain ⟨xt, yt, zt, vt⟩ := Bt.facts
  go_wp2_with fail
  refine bodyPost_ret (v := .tuple #[.agg #[.int .i64 a.x, .int .i64 a.y, .int .i64 b.x, .int .i64 b.y, .int .i64 c.x, .int .i64 c.y], .bool true]) (by simp [results, Try.results4, go_sem, xr]) rfl ⟨rfl, by have hl := hw.size; go_grown⟩

set_option maxHeartbeats 1000000 in
theorem tmake_z0 (a b c : Pt) (l0 : lds ⟨a, b, c⟩ = true) (ho : decide (ori a b c < 0) = false) (hv : valT ⟨a, b, c⟩ = false) (w : World) :
    Calls Try.prog 4 #[.agg #[.int .i64 a.x, .int .i64 a.y], .agg #[.int .i64 b.x, .int .i64 b.y], .agg #[.int .i64 c.x, .int .i64 c.y]] w fun e w' => e = .returned (.tuple #[.agg #[.int .i64 0, .int .i64 0, .int .i64 0, .int .i64 0, .int .i64 0, .int .i64 0], .bool false]) ∧ Below w.heap.size w w' := by
  have k0 := leads_any ⟨a, b, c⟩
  rw [l0] at k0
  dsimp only at k0
  have co := orient_any a b c
  have cv := tvalid_any ⟨a, b, c⟩
  rw [hv] at cv
  dsimp only at cv
  generalize ori a b c = n at *
  clear hv l0
  go_enter Try.func4, Try.ntmps4
  go_wp2_with fail
  refine at_world fun W1 hW => ?_
  have Ba : Box W1 (w.heap.size) [.int .i64 a.x, .int .i64 a.y] 23 := by rw [hW]; exact ((((Box.new rfl).old _).old _).old _).old _
  have Bb : Box W1 (w.heap.size + 1) [.int .i64 b.x, .int .i64 b.y] 23 := by rw [hW]; exact (((Box.new (by simp)).old _).old _).old _
  have Bc : Box W1 (w.heap.size + 1 + 1) [.int .i64 c.x, .int .i64 c.y] 23 := by rw [hW]; exact ((Box.new (by simp)).old _).old _
  have Br : Box W1 (w.heap.size + 1 + 1 + 1) [.int .i64 0, .int .i64 0, .int .i64 0, .int .i64 0, .int .i64 0, .int .i64 0] 25 := by rw [hW]; exact (Box.new (by simp)).old _
  have Bt : Box W1 (w.heap.size + 1 + 1 + 1 + 1) [.int .i64 a.x, .int .i64 a.y, .int .i64 b.x, .int .i64 b.y, .int .i64 c.x, .int .i64 c.y] 25 := by rw [hW]; exact Box.new (by simp)
  have hw : Below w.heap.size w W1 := by rw [hW]; go_grown
  clear hW
  refine wp_loop_rounds 4 ?_
  try rw [rounds_succ]
  obtain ⟨xa, ya, za, va⟩ := Ba.facts
  obtain ⟨xb, yb, zb, vb⟩ := Bb.facts
  obtain ⟨xc, yc, zc, vc⟩ := Bc.facts
  obtain ⟨xr, yr, zr, vr⟩ := Br.facts
  obtain ⟨xt, yt, zt, vt⟩ := Bt.facts
  go_wp2_with fail
  refine (k0 _).mono ?_
  rintro e w2 ⟨rfl, hb⟩
  clear xa ya za va xb yb zb vb xc yc zc vc xr yr zr vr xt yt zt vt
  replace Ba := Ba.ext hb rfl
  replace Bb := Bb.ext hb rfl
  replace Bc := Bc.ext hb rfl
  replace Br := Br.ext hb rfl
  replace Bt := Bt.ext hb rfl
  replace hw := hw.trans (hb.mono hw.size)
  clear hb
  obtain ⟨xa, ya, za, va⟩ := Ba.facts
  obtain ⟨xb, yb, zb, vb⟩ := Bb.facts
  obtain ⟨xc, yc, zc, vc⟩ := Bc.facts
  obtain ⟨xr, yr, zr, vr⟩ := Br.facts
  obtain ⟨xt, yt, zt, vt⟩ := Bt.facts
  go_wp2_with fail
  refine (co _).mono ?_
  rintro e w3 ⟨rfl, hb⟩
  clear xa ya za va xb yb zb vb xc yc zc vc xr yr zr vr xt yt zt vt
  replace Ba := Ba.ext hb rfl
  replace Bb := Bb.ext hb rfl
  replace Bc := Bc.ext hb rfl
  replace Br := Br.ext hb rfl
  replace Bt := Bt.ext hb rfl
  replace hw := hw.trans (hb.mono hw.size)
  clear hb
  obtain ⟨xa, ya, za, va⟩ := Ba.facts
  obtain ⟨xb, yb, zb, vb⟩ := Bb.facts
  obtain ⟨xc, yc, zc, vc⟩ := Bc.facts
  obtain ⟨xr, yr, zr, vr⟩ := Br.facts
  obtain ⟨xt, yt, zt, vt⟩ := Bt.facts
  go_wp2_with fail
  refine (cv _).mono ?_
  rintro e w4 ⟨rfl, hb⟩
  clear xa ya za va xb yb zb vb xc yc zc vc xr yr zr vr xt yt zt vt
  replace Ba := Ba.ext hb rfl
  replace Bb := Bb.ext hb rfl
  replace Bc := Bc.ext hb rfl
  replace Br := Br.ext hb rfl
  replace Bt := Bt.ext hb rfl
  replace hw := hw.trans (hb.mono hw.size)
  clear hb
  obtain ⟨xa, ya, za, va⟩ := Ba.facts
  obtain ⟨xb, yb, zb, vb⟩ := Bb.facts
  obtain ⟨xc, yc, zc, vc⟩ := Bc.facts
  obtain ⟨xr, yr, zr, vr⟩ := Br.facts
  obtain ⟨xt, yt, zt, vt⟩ := Bt.facts
  go_wp2_with fail
  refine bodyPost_ret (v := .tuple #[.agg #[.int .i64 0, .int .i64 0, .int .i64 0, .int .i64 0, .int .i64 0, .int .i64 0], .bool false]) (by simp [results, Try.results4, go_sem, xr]) rfl ⟨rfl, by have hl := hw.size; go_grown⟩

set_option maxHeartbeats 1000000 in
theorem tmake_n1 (a b c : Pt) (l0 : lds ⟨a, b, c⟩ = false) (l1 : lds ⟨b, c, a⟩ = true) (ho : decide (ori b c a < 0) = true) (hv : valT ⟨b, a, c⟩ = true) (w : World) :
    Calls Try.prog 4 #[.agg #[.int .i64 a.x, .int .i64 a.y], .agg #[.int .i64 b.x, .int .i64 b.y], .agg #[.int .i64 c.x, .int .i64 c.y]] w fun e w' => e = .returned (.tuple #[.agg #[.int .i64 b.x, .int .i64 b.y, .int .i64 a.x, .int .i64 a.y, .int .i64 c.x, .int .i64 c.y], .bool true]) ∧ Below w.heap.size w w' := by
  have k0 := leads_any ⟨a, b, c⟩
  rw [l0] at k0
  dsimp only at k0
  have r0 := turned_any ⟨a, b, c⟩
  dsimp only at r0
  have k1 := leads_any ⟨b, c, a⟩
  rw [l1] at k1
  dsimp only at k1
  have co := orient_any b c a
  have cv := tvalid_any ⟨b, a, c⟩
  rw [hv] at cv
  dsimp only at cv
  generalize ori b c a = n at *
  clear hv l0 l1
  go_enter Try.func4, Try.ntmps4
  go_wp2_with fail
  refine at_world fun W1 hW => ?_
  have Ba : Box W1 (w.heap.size) [.int .i64 a.x, .int .i64 a.y] 23 := by rw [hW]; exact ((((Box.new rfl).old _).old _).old _).old _
  have Bb : Box W1 (w.heap.size + 1) [.int .i64 b.x, .int .i64 b.y] 23 := by rw [hW]; exact (((Box.new (by simp)).old _).old _).old _
  have Bc : Box W1 (w.heap.size + 1 + 1) [.int .i64 c.x, .int .i64 c.y] 23 := by rw [hW]; exact ((Box.new (by simp)).old _).old _
  have Br : Box W1 (w.heap.size + 1 + 1 + 1) [.int .i64 0, .int .i64 0, .int .i64 0, .int .i64 0, .int .i64 0, .int .i64 0] 25 := by rw [hW]; exact (Box.new (by simp)).old _
  have Bt : Box W1 (w.heap.size + 1 + 1 + 1 + 1) [.int .i64 a.x, .int .i64 a.y, .int .i64 b.x, .int .i64 b.y, .int .i64 c.x, .int .i64 c.y] 25 := by rw [hW]; exact Box.new (by simp)
  have hw : Below w.heap.size w W1 := by rw [hW]; go_grown
  clear hW
  refine wp_loop_rounds 4 ?_
  try rw [rounds_succ]
  obtain ⟨xa, ya, za, va⟩ := Ba.facts
  obtain ⟨xb, yb, zb, vb⟩ := Bb.facts
  obtain ⟨xc, yc, zc, vc⟩ := Bc.facts
  obtain ⟨xr, yr, zr, vr⟩ := Br.facts
  obtain ⟨xt, yt, zt, vt⟩ := Bt.facts
  go_wp2_with fail
  refine (k0 _).mono ?_
  rintro e w2 ⟨rfl, hb⟩
  clear xa ya za va xb yb zb vb xc yc zc vc xr yr zr vr xt yt zt vt
  replace Ba := Ba.ext hb rfl
  replace Bb := Bb.ext hb rfl
  replace Bc := Bc.ext hb rfl
  replace Br := Br.ext hb rfl
  replace Bt := Bt.ext hb rfl
  replace hw := hw.trans (hb.mono hw.size)
  clear hb
  obtain ⟨xa, ya, za, va⟩ := Ba.facts
  obtain ⟨xb, yb, zb, vb⟩ := Bb.facts
  obtain ⟨xc, yc, zc, vc⟩ := Bc.facts
  obtain ⟨xr, yr, zr, vr⟩ := Br.facts
  obtain ⟨xt, yt, zt, vt⟩ := Bt.facts
  go_wp2_with fail
  refine (r0 _).mono ?_
  rintro e w3 ⟨rfl, hb⟩
  clear xa ya za va xb yb zb vb xc yc zc vc xr yr zr vr xt yt zt vt
  replace Ba := Ba.ext hb rfl
  replace Bb := Bb.ext hb rfl
  replace Bc := Bc.ext hb rfl
  replace Br := Br.ext hb rfl
  replace Bt := Bt.ext hb rfl
  replace hw := hw.trans (hb.mono hw.size)
  clear hb
  obtain ⟨xa, ya, za, va⟩ := Ba.facts
  obtain ⟨xb, yb, zb, vb⟩ := Bb.facts
  obtain ⟨xc, yc, zc, vc⟩ := Bc.facts
  obtain ⟨xr, yr, zr, vr⟩ := Br.facts
  obtain ⟨xt, yt, zt, vt⟩ := Bt.facts
  go_wp2_with fail
  refine at_world fun W4 hW => ?_
  replace Ba := sto Ba hW
  replace Bb := sto Bb hW
  replace Bc := sto Bc hW
  replace Br := sto Br hW
  replace Bt := sto Bt hW
  replace hw := stw hw hW
  clear xa ya za va xb yb zb vb xc yc zc vc xr yr zr vr xt yt zt vt
  clear hW
  try rw [rounds_succ]
  obtain ⟨xa, ya, za, va⟩ := Ba.facts
  obtain ⟨xb, yb, zb, vb⟩ := Bb.facts
  obtain ⟨xc, yc, zc, vc⟩ := Bc.facts
  obtain ⟨xr, yr, zr, vr⟩ := Br.facts
  obtain ⟨xt, yt, zt, vt⟩ := Bt.facts
  go_wp2_with fail
  refine (k1 _).mono ?_
  rintro e w5 ⟨rfl, hb⟩
  clear xa ya za va xb yb zb vb xc yc zc vc xr yr zr vr xt yt zt vt
  replace Ba := Ba.ext hb rfl
  replace Bb := Bb.ext hb rfl
  replace Bc := Bc.ext hb rfl
  replace Br := Br.ext hb rfl
  replace Bt := Bt.ext hb rfl
  replace hw := hw.trans (hb.mono hw.size)
  clear hb
  obtain ⟨xa, ya, za, va⟩ := Ba.facts
  obtain ⟨xb, yb, zb, vb⟩ := Bb.facts
  obtain ⟨xc, yc, zc, vc⟩ := Bc.facts
  obtain ⟨xr, yr, zr, vr⟩ := Br.facts
  obtain ⟨xt, yt, zt, vt⟩ := Bt.facts
  go_wp2_with fail
  refine (co _).mono ?_
  rintro e w6 ⟨rfl, hb⟩
  clear xa ya za va xb yb zb vb xc yc zc vc xr yr zr vr xt yt zt vt
  replace Ba := Ba.ext hb rfl
  replace Bb := Bb.ext hb rfl
  replace Bc := Bc.ext hb rfl
  replace Br := Br.ext hb rfl
  replace Bt := Bt.ext hb rfl
  replace hw := hw.trans (hb.mono hw.size)
  clear hb
  obtain ⟨xa, ya, za, va⟩ := Ba.facts
  obtain ⟨xb, yb, zb, vb⟩ := Bb.facts
  obtain ⟨xc, yc, zc, vc⟩ := Bc.facts
  obtain ⟨xr, yr, zr, vr⟩ := Br.facts
  obtain ⟨xt, yt, zt, vt⟩ := Bt.facts
  go_wp2_with fail
  refine at_call fun W7 hW => ?_
  replace Ba := sto Ba hW
  replace Bb := sto Bb hW
  replace Bc := sto Bc hW
  replace Br := sto Br hW
  replace Bt := sto Bt hW
  replace hw := stw hw hW
  clear xa ya za va xb yb zb vb xc yc zc vc xr yr zr vr xt yt zt vt
  clear hW
  refine (cv _).mono ?_
  rintro e w8 ⟨rfl, hb⟩
  replace Ba := Ba.ext hb rfl
  replace Bb := Bb.ext hb rfl
  replace Bc := Bc.ext hb rfl
  replace Br := Br.ext hb rfl
  replace Bt := Bt.ext hb rfl
  replace hw := hw.trans (hb.mono hw.size)
  clear hb
  obtain ⟨xa, ya, za, va⟩ := Ba.facts
  obtain ⟨xb, yb, zb, vb⟩ := Bb.facts
  obtain ⟨xc, yc, zc, vc⟩ := Bc.facts
  obtain ⟨xr, yr, zr, vr⟩ := Br.facts
  obtain ⟨xt, yt, zt, vt⟩ := Bt.facts
  go_wp2_with fail
  refine bodyPost_ret (v := .tuple #[.agg #[.int .i64 b.x, .int .i64 b.y, .int .i64 a.x, .int .i64 a.y, .int .i64 c.x, .int .i64 c.y], .bool true]) (by simp [results, Try.results4, go_sem, xr]) rfl ⟨rfl, by have hl := hw.size; go_grown⟩

set_option maxHeartbeats 1000000 in
theorem tmake_p1 (a b c : Pt) (l0 : lds ⟨a, b, c⟩ = false) (l1 : lds ⟨b, c, a⟩ = true) (ho : decide (ori b c a < 0) = false) (hv : valT ⟨b, c, a⟩ = true) (w : World) :
    Calls Try.prog 4 #[.agg #[.int .i64 a.x, .int .i64 a.y], .agg #[.int .i64 b.x, .int .i64 b.y], .agg #[.int .i64 c.x, .int .i64 c.y]] w fun e w' => e = .returned (.tuple #[.agg #[.int .i64 b.x, .int .i64 b.y, .int .i64 c.x, .int .i64 c.y, .int .i64 a.x, .int .i64 a.y], .bool true]) ∧ Below w.heap.size w w' := by
  have k0 := leads_any ⟨a, b, c⟩
  rw [l0] at k0
  dsimp only at k0
  have r0 := turned_any ⟨a, b, c⟩
  dsimp only at r0
  have k1 := leads_any ⟨b, c, a⟩
  rw [l1] at k1
  dsimp only at k1
  have co := orient_any b c a
  have cv := tvalid_any ⟨b, c, a⟩
  rw [hv] at cv
  dsimp only at cv
  generalize ori b c a = n at *
  clear hv l0 l1
  go_enter Try.func4, Try.ntmps4
  go_wp2_with fail
  refine at_world fun W1 hW => ?_
  have Ba : Box W1 (w.heap.size) [.int .i64 a.x, .int .i64 a.y] 23 := by rw [hW]; exact ((((Box.new rfl).old _).old _).old _).old _
  have Bb : Box W1 (w.heap.size + 1) [.int .i64 b.x, .int .i64 b.y] 23 := by rw [hW]; exact (((Box.new (by simp)).old _).old _).old _
  have Bc : Box W1 (w.heap.size + 1 + 1) [.int .i64 c.x, .int .i64 c.y] 23 := by rw [hW]; exact ((Box.new (by simp)).old _).old _
  have Br : Box W1 (w.heap.size + 1 + 1 + 1) [.int .i64 0, .int .i64 0, .int .i64 0, .int .i64 0, .int .i64 0, .int .i64 0] 25 := by rw [hW]; exact (Box.new (by simp)).old _
  have Bt : Box W1 (w.heap.size + 1 + 1 + 1 + 1) [.int .i64 a.x, .int .i64 a.y, .int .i64 b.x, .int .i64 b.y, .int .i64 c.x, .int .i64 c.y] 25 := by rw [hW]; exact Box.new (by simp)
  have hw : Below w.heap.size w W1 := by rw [hW]; go_grown
  clear hW
  refine wp_loop_rounds 4 ?_
  try rw [rounds_succ]
  obtain ⟨xa, ya, za, va⟩ := Ba.facts
  obtain ⟨xb, yb, zb, vb⟩ := Bb.facts
  obtain ⟨xc, yc, zc, vc⟩ := Bc.facts
  obtain ⟨xr, yr, zr, vr⟩ := Br.facts
  obtain ⟨xt, yt, zt, vt⟩ := Bt.facts
  go_wp2_with fail
  refine (k0 _).mono ?_
  rintro e w2 ⟨rfl, hb⟩
  clear xa ya za va xb yb zb vb xc yc zc vc xr yr zr vr xt yt zt vt
  replace Ba := Ba.ext hb rfl
  replace Bb := Bb.ext hb rfl
  replace Bc := Bc.ext hb rfl
  replace Br := Br.ext hb rfl
  replace Bt := Bt.ext hb rfl
  replace hw := hw.trans (hb.mono hw.size)
  clear hb
  obtain ⟨xa, ya, za, va⟩ := Ba.facts
  obtain ⟨xb, yb, zb, vb⟩ := Bb.facts
  obtain ⟨xc, yc, zc, vc⟩ := Bc.facts
  obtain ⟨xr, yr, zr, vr⟩ := Br.facts
  obtain ⟨xt, yt, zt, vt⟩ := Bt.facts
  go_wp2_with fail
  refine (r0 _).mono ?_
  rintro e w3 ⟨rfl, hb⟩
  clear xa ya za va xb yb zb vb xc yc zc vc xr yr zr vr xt yt zt vt
  replace Ba := Ba.ext hb rfl
  replace Bb := Bb.ext hb rfl
  replace Bc := Bc.ext hb rfl
  replace Br := Br.ext hb rfl
  replace Bt := Bt.ext hb rfl
  replace hw := hw.trans (hb.mono hw.size)
  clear hb
  obtain ⟨xa, ya, za, va⟩ := Ba.facts
  obtain ⟨xb, yb, zb, vb⟩ := Bb.facts
  obtain ⟨xc, yc, zc, vc⟩ := Bc.facts
  obtain ⟨xr, yr, zr, vr⟩ := Br.facts
  obtain ⟨xt, yt, zt, vt⟩ := Bt.facts
  go_wp2_with fail
  refine at_world fun W4 hW => ?_
  replace Ba := sto Ba hW
  replace Bb := sto Bb hW
  replace Bc := sto Bc hW
  replace Br := sto Br hW
  replace Bt := sto Bt hW
  replace hw := stw hw hW
  clear xa ya za va xb yb zb vb xc yc zc vc xr yr zr vr xt yt zt vt
  clear hW
  try rw [rounds_succ]
  obtain ⟨xa, ya, za, va⟩ := Ba.facts
  obtain ⟨xb, yb, zb, vb⟩ := Bb.facts
  obtain ⟨xc, yc, zc, vc⟩ := Bc.facts
  obtain ⟨xr, yr, zr, vr⟩ := Br.facts
  obtain ⟨xt, yt, zt, vt⟩ := Bt.facts
  go_wp2_with fail
  refine (k1 _).mono ?_
  rintro e w5 ⟨rfl, hb⟩
  clear xa ya za va xb yb zb vb xc yc zc vc xr yr zr vr xt yt zt vt
  replace Ba := Ba.ext hb rfl
  replace Bb := Bb.ext hb rfl
  replace Bc := Bc.ext hb rfl
  replace Br := Br.ext hb rfl
  replace Bt := Bt.ext hb rfl
  replace hw := hw.trans (hb.mono hw.size)
  clear hb
  obtain ⟨xa, ya, za, va⟩ := Ba.facts
  obtain ⟨xb, yb, zb, vb⟩ := Bb.facts
  obtain ⟨xc, yc, zc, vc⟩ := Bc.facts
  obtain ⟨xr, yr, zr, vr⟩ := Br.facts
  obtain ⟨xt, yt, zt, vt⟩ := Bt.facts
  go_wp2_with fail
  refine (co _).mono ?_
  rintro e w6 ⟨rfl, hb⟩
  clear xa ya za va xb yb zb vb xc yc zc vc xr yr zr vr xt yt zt vt
  replace Ba := Ba.ext hb rfl
  replace Bb := Bb.ext hb rfl
  replace Bc := Bc.ext hb rfl
  replace Br := Br.ext hb rfl
  replace Bt := Bt.ext hb rfl
  replace hw := hw.trans (hb.mono hw.size)
  clear hb
  obtain ⟨xa, ya, za, va⟩ := Ba.facts
  obtain ⟨xb, yb, zb, vb⟩ := Bb.facts
  obtain ⟨xc, yc, zc, vc⟩ := Bc.facts
  obtain ⟨xr, yr, zr, vr⟩ := Br.facts
  obtain ⟨xt, yt, zt, vt⟩ := Bt.facts
  go_wp2_with fail
  refine (cv _).mono ?_
  rintro e w7 ⟨rfl, hb⟩
  clear xa ya za va xb yb zb vb xc yc zc vc xr yr zr vr xt yt zt vt
  replace Ba := Ba.ext hb rfl
  replace Bb := Bb.ext hb rfl
  replace Bc := Bc.ext hb rfl
  replace Br := Br.ext hb rfl
  replace Bt := Bt.ext hb rfl
  replace hw := hw.trans (hb.mono hw.size)
  clear hb
  obtain ⟨xa, ya, za, va⟩ := Ba.facts
  obtain ⟨xb, yb, zb, vb⟩ := Bb.facts
  obtain ⟨xc, yc, zc, vc⟩ := Bc.facts
  obtain ⟨xr, yr, zr, vr⟩ := Br.facts
  obtain ⟨xt, yt, zt, vt⟩ := Bt.facts
  go_wp2_with fail
  refine bodyPost_ret (v := .tuple #[.agg #[.int .i64 b.x, .int .i64 b.y, .int .i64 c.x, .int .i64 c.y, .int .i64 a.x, .int .i64 a.y], .bool true]) (by simp [results, Try.results4, go_sem, xr]) rfl ⟨rfl, by have hl := hw.size; go_grown⟩

set_option maxHeartbeats 1000000 in
theorem tmake_z1 (a b c : Pt) (l0 : lds ⟨a, b, c⟩ = false) (l1 : lds ⟨b, c, a⟩ = true) (ho : decide (ori b c a < 0) = false) (hv : valT ⟨b, c, a⟩ = false) (w : World) :
    Calls Try.prog 4 #[.agg #[.int .i64 a.x, .int .i64 a.y], .agg #[.int .i64 b.x, .int .i64 b.y], .agg #[.int .i64 c.x, .int .i64 c.y]] w fun e w' => e = .returned (.tuple #[.agg #[.int .i64 0, .int .i64 0, .int .i64 0, .int .i64 0, .int .i64 0, .int .i64 0], .bool false]) ∧ Below w.heap.size w w' := by
  have k0 := leads_any ⟨a, b, c⟩
  rw [l0] at k0
  dsimp only at k0
  have r0 := turned_any ⟨a, b, c⟩
  dsimp only at r0
  have k1 := leads_any ⟨b, c, a⟩
  rw [l1] at k1
  dsimp only at k1
  have co := orient_any b c a
  have cv := tvalid_any ⟨b, c, a⟩
  rw [hv] at cv
  dsimp only at cv
  generalize ori b c a = n at *
  clear hv l0 l1
  go_enter Try.func4, Try.ntmps4
  go_wp2_with fail
  refine at_world fun W1 hW => ?_
  have Ba : Box W1 (w.heap.size) [.int .i64 a.x, .int .i64 a.y] 23 := by rw [hW]; exact ((((Box.new rfl).old _).old _).old _).old _
  have Bb : Box W1 (w.heap.size + 1) [.int .i64 b.x, .int .i64 b.y] 23 := by rw [hW]; exact (((Box.new (by simp)).old _).old _).old _
  have Bc : Box W1 (w.heap.size + 1 + 1) [.int .i64 c.x, .int .i64 c.y] 23 := by rw [hW]; exact ((Box.new (by simp)).old _).old _
  have Br : Box W1 (w.heap.size + 1 + 1 + 1) [.int .i64 0, .int .i64 0, .int .i64 0, .int .i64 0, .int .i64 0, .int .i64 0] 25 := by rw [hW]; exact (Box.new (by simp)).old _
  have Bt : Box W1 (w.heap.size + 1 + 1 + 1 + 1) [.int .i64 a.x, .int .i64 a.y, .int .i64 b.x, .int .i64 b.y, .int .i64 c.x, .int .i64 c.y] 25 := by rw [hW]; exact Box.new (by simp)
  have hw : Below w.heap.size w W1 := by rw [hW]; go_grown
  clear hW
  refine wp_loop_rounds 4 ?_
  try rw [rounds_succ]
  obtain ⟨xa, ya, za, va⟩ := Ba.facts
  obtain ⟨xb, yb, zb, vb⟩ := Bb.facts
  obtain ⟨xc, yc, zc, vc⟩ := Bc.facts
  obtain ⟨xr, yr, zr, vr⟩ := Br.facts
  obtain ⟨xt, yt, zt, vt⟩ := Bt.facts
  go_wp2_with fail
  refine (k0 _).mono ?_
  rintro e w2 ⟨rfl, hb⟩
  clear xa ya za va xb yb zb vb xc yc zc vc xr yr zr vr xt yt zt vt
  replace Ba := Ba.ext hb rfl
  replace Bb := Bb.ext hb rfl
  replace Bc := Bc.ext hb rfl
  replace Br := Br.ext hb rfl
  replace Bt := Bt.ext hb rfl
  replace hw := hw.trans (hb.mono hw.size)
  clear hb
  obtain ⟨xa, ya, za, va⟩ := Ba.facts
  obtain ⟨xb, yb, zb, vb⟩ := Bb.facts
  obtain ⟨xc, yc, zc, vc⟩ := Bc.facts
  obtain ⟨xr, yr, zr, vr⟩ := Br.facts
  obtain ⟨xt, yt, zt, vt⟩ := Bt.facts
  go_wp2_with fail
  refine (r0 _).mono ?_
  rintro e w3 ⟨rfl, hb⟩
  clear xa ya za va xb yb zb vb xc yc zc vc xr yr zr vr xt yt zt vt
  replace Ba := Ba.ext hb rfl
  replace Bb := Bb.ext hb rfl
  replace Bc := Bc.ext hb rfl
  replace Br := Br.ext hb rfl
  replace Bt := Bt.ext hb rfl
  replace hw := hw.trans (hb.mono hw.size)
  clear hb
  obtain ⟨xa, ya, za, va⟩ := Ba.facts
  obtain ⟨xb, yb, zb, vb⟩ := Bb.facts
  obtain ⟨xc, yc, zc, vc⟩ := Bc.facts
  obtain ⟨xr, yr, zr, vr⟩ := Br.facts
  obtain ⟨xt, yt, zt, vt⟩ := Bt.facts
  go_wp2_with fail
  refine at_world fun W4 hW => ?_
  replace Ba := sto Ba hW
  replace Bb := sto Bb hW
  replace Bc := sto Bc hW
  replace Br := sto Br hW
  replace Bt := sto Bt hW
  replace hw := stw hw hW
  clear xa ya za va xb yb zb vb xc yc zc vc xr yr zr vr xt yt zt vt
  clear hW
  try rw [rounds_succ]
  obtain ⟨xa, ya, za, va⟩ := Ba.facts
  obtain ⟨xb, yb, zb, vb⟩ := Bb.facts
  obtain ⟨xc, yc, zc, vc⟩ := Bc.facts
  obtain ⟨xr, yr, zr, vr⟩ := Br.facts
  obtain ⟨xt, yt, zt, vt⟩ := Bt.facts
  go_wp2_with fail
  refine (k1 _).mono ?_
  rintro e w5 ⟨rfl, hb⟩
  clear xa ya za va xb yb zb vb xc yc zc vc xr yr zr vr xt yt zt vt
  replace Ba := Ba.ext hb rfl
  replace Bb := Bb.ext hb rfl
  replace Bc := Bc.ext hb rfl
  replace Br := Br.ext hb rfl
  replace Bt := Bt.ext hb rfl
  replace hw := hw.trans (hb.mono hw.size)
  clear hb
  obtain ⟨xa, ya, za, va⟩ := Ba.facts
  obtain ⟨xb, yb, zb, vb⟩ := Bb.facts
  obtain ⟨xc, yc, zc, vc⟩ := Bc.facts
  obtain ⟨xr, yr, zr, vr⟩ := Br.facts
  obtain ⟨xt, yt, zt, vt⟩ := Bt.facts
  go_wp2_with fail
  refine (co _).mono ?_
  rintro e w6 ⟨rfl, hb⟩
  clear xa ya za va xb yb zb vb xc yc zc vc xr yr zr vr xt yt zt vt
  replace Ba := Ba.ext hb rfl
  replace Bb := Bb.ext hb rfl
  replace Bc := Bc.ext hb rfl
  replace Br := Br.ext hb rfl
  replace Bt := Bt.ext hb rfl
  replace hw := hw.trans (hb.mono hw.size)
  clear hb
  obtain ⟨xa, ya, za, va⟩ := Ba.facts
  obtain ⟨xb, yb, zb, vb⟩ := Bb.facts
  obtain ⟨xc, yc, zc, vc⟩ := Bc.facts
  obtain ⟨xr, yr, zr, vr⟩ := Br.facts
  obtain ⟨xt, yt, zt, vt⟩ := Bt.facts
  go_wp2_with fail
  refine (cv _).mono ?_
  rintro e w7 ⟨rfl, hb⟩
  clear xa ya za va xb yb zb vb xc yc zc vc xr yr zr vr xt yt zt vt
  replace Ba := Ba.ext hb rfl
  replace Bb := Bb.ext hb rfl
  replace Bc := Bc.ext hb rfl
  replace Br := Br.ext hb rfl
  replace Bt := Bt.ext hb rfl
  replace hw := hw.trans (hb.mono hw.size)
  clear hb
  obtain ⟨xa, ya, za, va⟩ := Ba.facts
  obtain ⟨xb, yb, zb, vb⟩ := Bb.facts
  obtain ⟨xc, yc, zc, vc⟩ := Bc.facts
  obtain ⟨xr, yr, zr, vr⟩ := Br.facts
  obtain ⟨xt, yt, zt, vt⟩ := Bt.facts
  go_wp2_with fail
  refine bodyPost_ret (v := .tuple #[.agg #[.int .i64 0, .int .i64 0, .int .i64 0, .int .i64 0, .int .i64 0, .int .i64 0], .bool false]) (by simp [results, Try.results4, go_sem, xr]) rfl ⟨rfl, by have hl := hw.size; go_grown⟩

set_option maxHeartbeats 1000000 in
theorem tmake_n2 (a b c : Pt) (l0 : lds ⟨a, b, c⟩ = false) (l1 : lds ⟨b, c, a⟩ = false) (l2 : lds ⟨c, a, b⟩ = true) (ho : decide (ori c a b < 0) = true) (hv : valT ⟨c, b, a⟩ = true) (w : World) :
    Calls Try.prog 4 #[.agg #[.int .i64 a.x, .int .i64 a.y], .agg #[.int .i64 b.x, .int .i64 b.y], .agg #[.int .i64 c.x, .int .i64 c.y]] w fun e w' => e = .returned (.tuple #[.agg #[.int .i64 c.x, .int .i64 c.y, .int .i64 b.x, .int .i64 b.y, .int .i64 a.x, .int .i64 a.y], .bool true]) ∧ Below w.heap.size w w' := by
  have k0 := leads_any ⟨a, b, c⟩
  rw [l0] at k0
  dsimp only at k0
  have r0 := turned_any ⟨a, b, c⟩
  dsimp only at r0
  have k1 := leads_any ⟨b, c, a⟩
  rw [l1] at k1
  dsimp only at k1
  have r1 := turned_any ⟨b, c, a⟩
  dsimp only at r1
  have k2 := leads_any ⟨c, a, b⟩
  rw [l2] at k2
  dsimp only at k2
  have co := orient_any c a b
  have cv := tvalid_any ⟨c, b, a⟩
  rw [hv] at cv
  dsimp only at cv
  generalize ori c a b = n at *
  clear hv l0 l1 l2
  go_enter Try.func4, Try.ntmps4
  go_wp2_with fail
  refine at_world fun W1 hW => ?_
  have Ba : Box W1 (w.heap.size) [.int .i64 a.x, .int .i64 a.y] 23 := by rw [hW]; exact ((((Box.new rfl).old _).old _).old _).old _
  have Bb : Box W1 (w.heap.size + 1) [.int .i64 b.x, .int .i64 b.y] 23 := by rw [hW]; exact (((Box.new (by simp)).old _).old _).old _
  have Bc : Box W1 (w.heap.size + 1 + 1) [.int .i64 c.x, .int .i64 c.y] 23 := by rw [hW]; exact ((Box.new (by simp)).old _).old _
  have Br : Box W1 (w.heap.size + 1 + 1 + 1) [.int .i64 0, .int .i64 0, .int .i64 0, .int .i64 0, .int .i64 0, .int .i64 0] 25 := by rw [hW]; exact (Box.new (by simp)).old _
  have Bt : Box W1 (w.heap.size + 1 + 1 + 1 + 1) [.int .i64 a.x, .int .i64 a.y, .int .i64 b.x, .int .i64 b.y, .int .i64 c.x, .int .i64 c.y] 25 := by rw [hW]; exact Box.new (by simp)
  have hw : Below w.heap.size w W1 := by rw [hW]; go_grown
  clear hW
  refine wp_loop_rounds 4 ?_
  try rw [rounds_succ]
  obtain ⟨xa, ya, za, va⟩ := Ba.facts
  obtain ⟨xb, yb, zb, vb⟩ := Bb.facts
  obtain ⟨xc, yc, zc, vc⟩ := Bc.facts
  obtain ⟨xr, yr, zr, vr⟩ := Br.facts
  obtain ⟨xt, yt, zt, vt⟩ := Bt.facts
  go_wp2_with fail
  refine (k0 _).mono ?_
  rintro e w2 ⟨rfl, hb⟩
  clear xa ya za va xb yb zb vb xc yc zc vc xr yr zr vr xt yt zt vt
  replace Ba := Ba.ext hb rfl
  replace Bb := Bb.ext hb rfl
  replace Bc := Bc.ext hb rfl
  replace Br := Br.ext hb rfl
  replace Bt := Bt.ext hb rfl
  replace hw := hw.trans (hb.mono hw.size)
  clear hb
  obtain ⟨xa, ya, za, va⟩ := Ba.facts
  obtain ⟨xb, yb, zb, vb⟩ := Bb.facts
  obtain ⟨xc, yc, zc, vc⟩ := Bc.facts
  obtain ⟨xr, yr, zr, vr⟩ := Br.facts
  obtain ⟨xt, yt, zt, vt⟩ := Bt.facts
  go_wp2_with fail
  refine (r0 _).mono ?_
  rintro e w3 ⟨rfl, hb⟩
  clear xa ya za va xb yb zb vb xc yc zc vc xr yr zr vr xt yt zt vt
  replace Ba := Ba.ext hb rfl
  replace Bb := Bb.ext hb rfl
  replace Bc := Bc.ext hb rfl
  replace Br := Br.ext hb rfl
  replace Bt := Bt.ext hb rfl
  replace hw := hw.trans (hb.mono hw.size)
  clear hb
  obtain ⟨xa, ya, za, va⟩ := Ba.facts
  obtain ⟨xb, yb, zb, vb⟩ := Bb.facts
  obtain ⟨xc, yc, zc, vc⟩ := Bc.facts
  obtain ⟨xr, yr, zr, vr⟩ := Br.facts
  obtain ⟨xt, yt, zt, vt⟩ := Bt.facts
  go_wp2_with fail
  refine at_world fun W4 hW => ?_
  replace Ba := sto Ba hW
  replace Bb := sto Bb hW
  replace Bc := sto Bc hW
  replace Br := sto Br hW
  replace Bt := sto Bt hW
  replace hw := stw hw hW
  clear xa ya za va xb yb zb vb xc yc zc vc xr yr zr vr xt yt zt vt
  clear hW
  try rw [rounds_succ]
  obtain ⟨xa, ya, za, va⟩ := Ba.facts
  obtain ⟨xb, yb, zb, vb⟩ := Bb.facts
  obtain ⟨xc, yc, zc, vc⟩ := Bc.facts
  obtain ⟨xr, yr, zr, vr⟩ := Br.facts
  obtain ⟨xt, yt, zt, vt⟩ := Bt.facts
  go_wp2_with fail
  refine (k1 _).mono ?_
  rintro e w5 ⟨rfl, hb⟩
  clear xa ya za va xb yb zb vb xc yc zc vc xr yr zr vr xt yt zt vt
  replace Ba := Ba.ext hb rfl
  replace Bb := Bb.ext hb rfl
  replace Bc := Bc.ext hb rfl
  replace Br := Br.ext hb rfl
  replace Bt := Bt.ext hb rfl
  replace hw := hw.trans (hb.mono hw.size)
  clear hb
  obtain ⟨xa, ya, za, va⟩ := Ba.facts
  obtain ⟨xb, yb, zb, vb⟩ := Bb.facts
  obtain ⟨xc, yc, zc, vc⟩ := Bc.facts
  obtain ⟨xr, yr, zr, vr⟩ := Br.facts
  obtain ⟨xt, yt, zt, vt⟩ := Bt.facts
  go_wp2_with fail
  refine (r1 _).mono ?_
  rintro e w6 ⟨rfl, hb⟩
  clear xa ya za va xb yb zb vb xc yc zc vc xr yr zr vr xt yt zt vt
  replace Ba := Ba.ext hb rfl
  replace Bb := Bb.ext hb rfl
  replace Bc := Bc.ext hb rfl
  replace Br := Br.ext hb rfl
  replace Bt := Bt.ext hb rfl
  replace hw := hw.trans (hb.mono hw.size)
  clear hb
  obtain ⟨xa, ya, za, va⟩ := Ba.facts
  obtain ⟨xb, yb, zb, vb⟩ := Bb.facts
  obtain ⟨xc, yc, zc, vc⟩ := Bc.facts
  obtain ⟨xr, yr, zr, vr⟩ := Br.facts
  obtain ⟨xt, yt, zt, vt⟩ := Bt.facts
  go_wp2_with fail
  refine at_world fun W7 hW => ?_
  replace Ba := sto Ba hW
  replace Bb := sto Bb hW
  replace Bc := sto Bc hW
  replace Br := sto Br hW
  replace Bt := sto Bt hW
  replace hw := stw hw hW
  clear xa ya za va xb yb zb vb xc yc zc vc xr yr zr vr xt yt zt vt
  clear hW
  try rw [rounds_succ]
  obtain ⟨xa, ya, za, va⟩ := Ba.facts
  obtain ⟨xb, yb, zb, vb⟩ := Bb.facts
  obtain ⟨xc, yc, zc, vc⟩ := Bc.facts
  obtain ⟨xr, yr, zr, vr⟩ := Br.facts
  obtain ⟨xt, yt, zt, vt⟩ := Bt.facts
  go_wp2_with fail
  refine (k2 _).mono ?_
  rintro e w8 ⟨rfl, hb⟩
  clear xa ya za va xb yb zb vb xc yc zc vc xr yr zr vr xt yt zt vt
  replace Ba := Ba.ext hb rfl
  replace Bb := Bb.ext hb rfl
  replace Bc := Bc.ext hb rfl
  replace Br := Br.ext hb rfl
  replace Bt := Bt.ext hb rfl
  replace hw := hw.trans (hb.mono hw.size)
  clear hb
  obtain ⟨xa, ya, za, va⟩ := Ba.facts
  obtain ⟨xb, yb, zb, vb⟩ := Bb.facts
  obtain ⟨xc, yc, zc, vc⟩ := Bc.facts
  obtain ⟨xr, yr, zr, vr⟩ := Br.facts
  obtain ⟨xt, yt, zt, vt⟩ := Bt.facts
  go_wp2_with fail
  refine (co _).mono ?_
  rintro e w9 ⟨rfl, hb⟩
  clear xa ya za va xb yb zb vb xc yc zc vc xr yr zr vr xt yt zt vt
  replace Ba := Ba.ext hb rfl
  replace Bb := Bb.ext hb rfl
  replace Bc := Bc.ext hb rfl
  replace Br := Br.ext hb rfl
  replace Bt := Bt.ext hb rfl
  replace hw := hw.trans (hb.mono hw.size)
  clear hb
  obtain ⟨xa, ya, za, va⟩ := Ba.facts
  obtain ⟨xb, yb, zb, vb⟩ := Bb.facts
  obtain ⟨xc, yc, zc, vc⟩ := Bc.facts
  obtain ⟨xr, yr, zr, vr⟩ := Br.facts
  obtain ⟨xt, yt, zt, vt⟩ := Bt.facts
  go_wp2_with fail
  refine at_call fun W10 hW => ?_
  replace Ba := sto Ba hW
  replace Bb := sto Bb hW
  replace Bc := sto Bc hW
  replace Br := sto Br hW
  replace Bt := sto Bt hW
  replace hw := stw hw hW
  clear xa ya za va xb yb zb vb xc yc zc vc xr yr zr vr xt yt zt vt
  clear hW
  refine (cv _).mono ?_
  rintro e w11 ⟨rfl, hb⟩
  replace Ba := Ba.ext hb rfl
  replace Bb := Bb.ext hb rfl
  replace Bc := Bc.ext hb rfl
  replace Br := Br.ext hb rfl
  replace Bt := Bt.ext hb rfl
  replace hw := hw.trans (hb.mono hw.size)
  clear hb
  obtain ⟨xa, ya, za, va⟩ := Ba.facts
  obtain ⟨xb, yb, zb, vb⟩ := Bb.facts
  obtain ⟨xc, yc, zc, vc⟩ := Bc.facts
  obtain ⟨xr, yr, zr, vr⟩ := Br.facts
  obtain ⟨xt, yt, zt, vt⟩ := Bt.facts
  go_wp2_with fail
  refine bodyPost_ret (v := .tuple #[.agg #[.int .i64 c.x, .int .i64 c.y, .int .i64 b.x, .int .i64 b.y, .int .i64 a.x, .int .i64 a.y], .bool true]) (by simp [results, Try.results4, go_sem, xr]) rfl ⟨rfl, by have hl := hw.size; go_grown⟩

set_option maxHeartbeats 1000000 in
theorem tmake_p2 (a b c : Pt) (l0 : lds ⟨a, b, c⟩ = false) (l1 : lds ⟨b, c, a⟩ = false) (l2 : lds ⟨c, a, b⟩ = true) (ho : decide (ori c a b < 0) = false) (hv : valT ⟨c, a, b⟩ = true) (w : World) :
    Calls Try.prog 4 #[.agg #[.int .i64 a.x, .int .i64 a.y], .agg #[.int .i64 b.x, .int .i64 b.y], .agg #[.int .i64 c.x, .int .i64 c.y]] w fun e w' => e = .returned (.tuple #[.agg #[.int .i64 c.x, .int .i64 c.y, .int .i64 a.x, .int .i64 a.y, .int .i64 b.x, .int .i64 b.y], .bool true]) ∧ Below w.heap.size w w' := by
  have k0 := leads_any ⟨a, b, c⟩
  rw [l0] at k0
  dsimp only at k0
  have r0 := turned_any ⟨a, b, c⟩
  dsimp only at r0
  have k1 := leads_any ⟨b, c, a⟩
  rw [l1] at k1
  dsimp only at k1
  have r1 := turned_any ⟨b, c, a⟩
  dsimp only at r1
  have k2 := leads_any ⟨c, a, b⟩
  rw [l2] at k2
  dsimp only at k2
  have co := orient_any c a b
  have cv := tvalid_any ⟨c, a, b⟩
  rw [hv] at cv
  dsimp only at cv
  generalize ori c a b = n at *
  clear hv l0 l1 l2
  go_enter Try.func4, Try.ntmps4
  go_wp2_with fail
  refine at_world fun W1 hW => ?_
  have Ba : Box W1 (w.heap.size) [.int .i64 a.x, .int .i64 a.y] 23 := by rw [hW]; exact ((((Box.new rfl).old _).old _).old _).old _
  have Bb : Box W1 (w.heap.size + 1) [.int .i64 b.x, .int .i64 b.y] 23 := by rw [hW]; exact (((Box.new (by simp)).old _).old _).old _
  have Bc : Box W1 (w.heap.size + 1 + 1) [.int .i64 c.x, .int .i64 c.y] 23 := by rw [hW]; exact ((Box.new (by simp)).old _).old _
  have Br : Box W1 (w.heap.size + 1 + 1 + 1) [.int .i64 0, .int .i64 0, .int .i64 0, .int .i64 0, .int .i64 0, .int .i64 0] 25 := by rw [hW]; exact (Box.new (by simp)).old _
  have Bt : Box W1 (w.heap.size + 1 + 1 + 1 + 1) [.int .i64 a.x, .int .i64 a.y, .int .i64 b.x, .int .i64 b.y, .int .i64 c.x, .int .i64 c.y] 25 := by rw [hW]; exact Box.new (by simp)
  have hw : Below w.heap.size w W1 := by rw [hW]; go_grown
  clear hW
  refine wp_loop_rounds 4 ?_
  try rw [rounds_succ]
  obtain ⟨xa, ya, za, va⟩ := Ba.facts
  obtain ⟨xb, yb, zb, vb⟩ := Bb.facts
  obtain ⟨xc, yc, zc, vc⟩ := Bc.facts
  obtain ⟨xr, yr, zr, vr⟩ := Br.facts
  obtain ⟨xt, yt, zt, vt⟩ := Bt.facts
  go_wp2_with fail
  refine (k0 _).mono ?_
  rintro e w2 ⟨rfl, hb⟩
  clear xa ya za va xb yb zb vb xc yc zc vc xr yr zr vr xt yt zt vt
  replace Ba := Ba.ext hb rfl
  replace Bb := Bb.ext hb rfl
  replace Bc := Bc.ext hb rfl
  replace Br := Br.ext hb rfl
  replace Bt := Bt.ext hb rfl
  replace hw := hw.trans (hb.mono hw.size)
  clear hb
  obtain ⟨xa, ya, za, va⟩ := Ba.facts
  obtain ⟨xb, yb, zb, vb⟩ := Bb.facts
  obtain ⟨xc, yc, zc, vc⟩ := Bc.facts
  obtain ⟨xr, yr, zr, vr⟩ := Br.facts
  obtain ⟨xt, yt, zt, vt⟩ := Bt.facts
  go_wp2_with fail
  refine (r0 _).mono ?_
  rintro e w3 ⟨rfl, hb⟩
  clear xa ya za va xb yb zb vb xc yc zc vc xr yr zr vr xt yt zt vt
  replace Ba := Ba.ext hb rfl
  replace Bb := Bb.ext hb rfl
  replace Bc := Bc.ext hb rfl
  replace Br := Br.ext hb rfl
  replace Bt := Bt.ext hb rfl
  replace hw := hw.trans (hb.mono hw.size)
  clear hb
  obtain ⟨xa, ya, za, va⟩ := Ba.facts
  obtain ⟨xb, yb, zb, vb⟩ := Bb.facts
  obtain ⟨xc, yc, zc, vc⟩ := Bc.facts
  obtain ⟨xr, yr, zr, vr⟩ := Br.facts
  obtain ⟨xt, yt, zt, vt⟩ := Bt.facts
  go_wp2_with fail
  refine at_world fun W4 hW => ?_
  replace Ba := sto Ba hW
  replace Bb := sto Bb hW
  replace Bc := sto Bc hW
  replace Br := sto Br hW
  replace Bt := sto Bt hW
  replace hw := stw hw hW
  clear xa ya za va xb yb zb vb xc yc zc vc xr yr zr vr xt yt zt vt
  clear hW
  try rw [rounds_succ]
  obtain ⟨xa, ya, za, va⟩ := Ba.facts
  obtain ⟨xb, yb, zb, vb⟩ := Bb.facts
  obtain ⟨xc, yc, zc, vc⟩ := Bc.facts
  obtain ⟨xr, yr, zr, vr⟩ := Br.facts
  obtain ⟨xt, yt, zt, vt⟩ := Bt.facts
  go_wp2_with fail
  refine (k1 _).mono ?_
  rintro e w5 ⟨rfl, hb⟩
  clear xa ya za va xb yb zb vb xc yc zc vc xr yr zr vr xt yt zt vt
  replace Ba := Ba.ext hb rfl
  replace Bb := Bb.ext hb rfl
  replace Bc := Bc.ext hb rfl
  replace Br := Br.ext hb rfl
  replace Bt := Bt.ext hb rfl
  replace hw := hw.trans (hb.mono hw.size)
  clear hb
  obtain ⟨xa, ya, za, va⟩ := Ba.facts
  obtain ⟨xb, yb, zb, vb⟩ := Bb.facts
  obtain ⟨xc, yc, zc, vc⟩ := Bc.facts
  obtain ⟨xr, yr, zr, vr⟩ := Br.facts
  obtain ⟨xt, yt, zt, vt⟩ := Bt.facts
  go_wp2_with fail
  refine (r1 _).mono ?_
  rintro e w6 ⟨rfl, hb⟩
  clear xa ya za va xb yb zb vb xc yc zc vc xr yr zr vr xt yt zt vt
  replace Ba := Ba.ext hb rfl
  replace Bb := Bb.ext hb rfl
  replace Bc := Bc.ext hb rfl
  replace Br := Br.ext hb rfl
  replace Bt := Bt.ext hb rfl
  replace hw := hw.trans (hb.mono hw.size)
  clear hb
  obtain ⟨xa, ya, za, va⟩ := Ba.facts
  obtain ⟨xb, yb, zb, vb⟩ := Bb.facts
  obtain ⟨xc, yc, zc, vc⟩ := Bc.facts
  obtain ⟨xr, yr, zr, vr⟩ := Br.facts
  obtain ⟨xt, yt, zt, vt⟩ := Bt.facts
  go_wp2_with fail
  refine at_world fun W7 hW => ?_
  replace Ba := sto Ba hW
  replace Bb := sto Bb hW
  replace Bc := sto Bc hW
  replace Br := sto Br hW
  replace Bt := sto Bt hW
  replace hw := stw hw hW
  clear xa ya za va xb yb zb vb xc yc zc vc xr yr zr vr xt yt zt vt
  clear hW
  try rw [rounds_succ]
  obtain ⟨xa, ya, za, va⟩ := Ba.facts
  obtain ⟨xb, yb, zb, vb⟩ := Bb.facts
  obtain ⟨xc, yc, zc, vc⟩ := Bc.facts
  obtain ⟨xr, yr, zr, vr⟩ := Br.facts
  obtain ⟨xt, yt, zt, vt⟩ := Bt.facts
  go_wp2_with fail
  refine (k2 _).mono ?_
  rintro e w8 ⟨rfl, hb⟩
  clear xa ya za va xb yb zb vb xc yc zc vc xr yr zr vr xt yt zt vt
  replace Ba := Ba.ext hb rfl
  replace Bb := Bb.ext hb rfl
  replace Bc := Bc.ext hb rfl
  replace Br := Br.ext hb rfl
  replace Bt := Bt.ext hb rfl
  replace hw := hw.trans (hb.mono hw.size)
  clear hb
  obtain ⟨xa, ya, za, va⟩ := Ba.facts
  obtain ⟨xb, yb, zb, vb⟩ := Bb.facts
  obtain ⟨xc, yc, zc, vc⟩ := Bc.facts
  obtain ⟨xr, yr, zr, vr⟩ := Br.facts
  obtain ⟨xt, yt, zt, vt⟩ := Bt.facts
  go_wp2_with fail
  refine (co _).mono ?_
  rintro e w9 ⟨rfl, hb⟩
  clear xa ya za va xb yb zb vb xc yc zc vc xr yr zr vr xt yt zt vt
  replace Ba := Ba.ext hb rfl
  replace Bb := Bb.ext hb rfl
  replace Bc := Bc.ext hb rfl
  replace Br := Br.ext hb rfl
  replace Bt := Bt.ext hb rfl
  replace hw := hw.trans (hb.mono hw.size)
  clear hb
  obtain ⟨xa, ya, za, va⟩ := Ba.facts
  obtain ⟨xb, yb, zb, vb⟩ := Bb.facts
  obtain ⟨xc, yc, zc, vc⟩ := Bc.facts
  obtain ⟨xr, yr, zr, vr⟩ := Br.facts
  obtain ⟨xt, yt, zt, vt⟩ := Bt.facts
  go_wp2_with fail
  refine (cv _).mono ?_
  rintro e w10 ⟨rfl, hb⟩
  clear xa ya za va xb yb zb vb xc yc zc vc xr yr zr vr xt yt zt vt
  replace Ba := Ba.ext hb rfl
  replace Bb := Bb.ext hb rfl
  replace Bc := Bc.ext hb rfl
  replace Br := Br.ext hb rfl
  replace Bt := Bt.ext hb rfl
  replace hw := hw.trans (hb.mono hw.size)
  clear hb
  obtain ⟨xa, ya, za, va⟩ := Ba.facts
  obtain ⟨xb, yb, zb, vb⟩ := Bb.facts
  obtain ⟨xc, yc, zc, vc⟩ := Bc.facts
  obtain ⟨xr, yr, zr, vr⟩ := Br.facts
  obtain ⟨xt, yt, zt, vt⟩ := Bt.facts
  go_wp2_with fail
  refine bodyPost_ret (v := .tuple #[.agg #[.int .i64 c.x, .int .i64 c.y, .int .i64 a.x, .int .i64 a.y, .int .i64 b.x, .int .i64 b.y], .bool true]) (by simp [results, Try.results4, go_sem, xr]) rfl ⟨rfl, by have hl := hw.size; go_grown⟩

set_option maxHeartbeats 1000000 in
theorem tmake_z2 (a b c : Pt) (l0 : lds ⟨a, b, c⟩ = false) (l1 : lds ⟨b, c, a⟩ = false) (l2 : lds ⟨c, a, b⟩ = true) (ho : decide (ori c a b < 0) = false) (hv : valT ⟨c, a, b⟩ = false) (w : World) :
    Calls Try.prog 4 #[.agg #[.int .i64 a.x, .int .i64 a.y], .agg #[.int .i64 b.x, .int .i64 b.y], .agg #[.int .i64 c.x, .int .i64 c.y]] w fun e w' => e = .returned (.tuple #[.agg #[.int .i64 0, .int .i64 0, .int .i64 0, .int .i64 0, .int .i64 0, .int .i64 0], .bool false]) ∧ Below w.heap.size w w' := by
  have k0 := leads_any ⟨a, b, c⟩
  rw [l0] at k0
  dsimp only at k0
  have r0 := turned_any ⟨a, b, c⟩
  dsimp only at r0
  have k1 := leads_any ⟨b, c, a⟩
  rw [l1] at k1
  dsimp only at k1
  have r1 := turned_any ⟨b, c, a⟩
  dsimp only at r1
  have k2 := leads_any ⟨c, a, b⟩
  rw [l2] at k2
  dsimp only at k2
  have co := orient_any c a b
  have cv := tvalid_any ⟨c, a, b⟩
  rw [hv] at cv
  dsimp only at cv
  generalize ori c a b = n at *
  clear hv l0 l1 l2
  go_enter Try.func4, Try.ntmps4
  go_wp2_with fail
  refine at_world fun W1 hW => ?_
  have Ba : Box W1 (w.heap.size) [.int .i64 a.x, .int .i64 a.y] 23 := by rw [hW]; exact ((((Box.new rfl).old _).old _).old _).old _
  have Bb : Box W1 (w.heap.size + 1) [.int .i64 b.x, .int .i64 b.y] 23 := by rw [hW]; exact (((Box.new (by simp)).old _).old _).old _
  have Bc : Box W1 (w.heap.size + 1 + 1) [.int .i64 c.x, .int .i64 c.y] 23 := by rw [hW]; exact ((Box.new (by simp)).old _).old _
  have Br : Box W1 (w.heap.size + 1 + 1 + 1) [.int .i64 0, .int .i64 0, .int .i64 0, .int .i64 0, .int .i64 0, .int .i64 0] 25 := by rw [hW]; exact (Box.new (by simp)).old _
  have Bt : Box W1 (w.heap.size + 1 + 1 + 1 + 1) [.int .i64 a.x, .int .i64 a.y, .int .i64 b.x, .int .i64 b.y, .int .i64 c.x, .int .i64 c.y] 25 := by rw [hW]; exact Box.new (by simp)
  have hw : Below w.heap.size w W1 := by rw [hW]; go_grown
  clear hW
  refine wp_loop_rounds 4 ?_
  try rw [rounds_succ]
  obtain ⟨xa, ya, za, va⟩ := Ba.facts
  obtain ⟨xb, yb, zb, vb⟩ := Bb.facts
  obtain ⟨xc, yc, zc, vc⟩ := Bc.facts
  obtain ⟨xr, yr, zr, vr⟩ := Br.facts
  obtain ⟨xt, yt, zt, vt⟩ := Bt.facts
  go_wp2_with fail
  refine (k0 _).mono ?_
  rintro e w2 ⟨rfl, hb⟩
  clear xa ya za va xb yb zb vb xc yc zc vc xr yr zr vr xt yt zt vt
  replace Ba := Ba.ext hb rfl
  replace Bb := Bb.ext hb rfl
  replace Bc := Bc.ext hb rfl
  replace Br := Br.ext hb rfl
  replace Bt := Bt.ext hb rfl
  replace hw := hw.trans (hb.mono hw.size)
  clear hb
  obtain ⟨xa, ya, za, va⟩ := Ba.facts
  obtain ⟨xb, yb, zb, vb⟩ := Bb.facts
  obtain ⟨xc, yc, zc, vc⟩ := Bc.facts
  obtain ⟨xr, yr, zr, vr⟩ := Br.facts
  obtain ⟨xt, yt, zt, vt⟩ := Bt.facts
  go_wp2_with fail
  refine (r0 _).mono ?_
  rintro e w3 ⟨rfl, hb⟩
  clear xa ya za va xb yb zb vb xc yc zc vc xr yr zr vr xt yt zt vt
  replace Ba := Ba.ext hb rfl
  replace Bb := Bb.ext hb rfl
  replace Bc := Bc.ext hb rfl
  replace Br := Br.ext hb rfl
  replace Bt := Bt.ext hb rfl
  replace hw := hw.trans (hb.mono hw.size)
  clear hb
  obtain ⟨xa, ya, za, va⟩ := Ba.facts
  obtain ⟨xb, yb, zb, vb⟩ := Bb.facts
  obtain ⟨xc, yc, zc, vc⟩ := Bc.facts
  obtain ⟨xr, yr, zr, vr⟩ := Br.facts
  obtain ⟨xt, yt, zt, vt⟩ := Bt.facts
  go_wp2_with fail
  refine at_world fun W4 hW => ?_
  replace Ba := sto Ba hW
  replace Bb := sto Bb hW
  replace Bc := sto Bc hW
  replace Br := sto Br hW
  replace Bt := sto Bt hW
  replace hw := stw hw hW
  clear xa ya za va xb yb zb vb xc yc zc vc xr yr zr vr xt yt zt vt
  clear hW
  try rw [rounds_succ]
  obtain ⟨xa, ya, za, va⟩ := Ba.facts
  obtain ⟨xb, yb, zb, vb⟩ := Bb.facts
  obtain ⟨xc, yc, zc, vc⟩ := Bc.facts
  obtain ⟨xr, yr, zr, vr⟩ := Br.facts
  obtain ⟨xt, yt, zt, vt⟩ := Bt.facts
  go_wp2_with fail
  refine (k1 _).mono ?_
  rintro e w5 ⟨rfl, hb⟩
  clear xa ya za va xb yb zb vb xc yc zc vc xr yr zr vr xt yt zt vt
  replace Ba := Ba.ext hb rfl
  replace Bb := Bb.ext hb rfl
  replace Bc := Bc.ext hb rfl
  replace Br := Br.ext hb rfl
  replace Bt := Bt.ext hb rfl
  replace hw := hw.trans (hb.mono hw.size)
  clear hb
  obtain ⟨xa, ya, za, va⟩ := Ba.facts
  obtain ⟨xb, yb, zb, vb⟩ := Bb.facts
  obtain ⟨xc, yc, zc, vc⟩ := Bc.facts
  obtain ⟨xr, yr, zr, vr⟩ := Br.facts
  obtain ⟨xt, yt, zt, vt⟩ := Bt.facts
  go_wp2_with fail
  refine (r1 _).mono ?_
  rintro e w6 ⟨rfl, hb⟩
  clear xa ya za va xb yb zb vb xc yc zc vc xr yr zr vr xt yt zt vt
  replace Ba := Ba.ext hb rfl
  replace Bb := Bb.ext hb rfl
  replace Bc := Bc.ext hb rfl
  replace Br := Br.ext hb rfl
  replace Bt := Bt.ext hb rfl
  replace hw := hw.trans (hb.mono hw.size)
  clear hb
  obtain ⟨xa, ya, za, va⟩ := Ba.facts
  obtain ⟨xb, yb, zb, vb⟩ := Bb.facts
  obtain ⟨xc, yc, zc, vc⟩ := Bc.facts
  obtain ⟨xr, yr, zr, vr⟩ := Br.facts
  obtain ⟨xt, yt, zt, vt⟩ := Bt.facts
  go_wp2_with fail
  refine at_world fun W7 hW => ?_
  replace Ba := sto Ba hW
  replace Bb := sto Bb hW
  replace Bc := sto Bc hW
  replace Br := sto Br hW
  replace Bt := sto Bt hW
  replace hw := stw hw hW
  clear xa ya za va xb yb zb vb xc yc zc vc xr yr zr vr xt yt zt vt
  clear hW
  try rw [rounds_succ]
  obtain ⟨xa, ya, za, va⟩ := Ba.facts
  obtain ⟨xb, yb, zb, vb⟩ := Bb.facts
  obtain ⟨xc, yc, zc, vc⟩ := Bc.facts
  obtain ⟨xr, yr, zr, vr⟩ := Br.facts
  obtain ⟨xt, yt, zt, vt⟩ := Bt.facts
  go_wp2_with fail
  refine (k2 _).mono ?_
  rintro e w8 ⟨rfl, hb⟩
  clear xa ya za va xb yb zb vb xc yc zc vc xr yr zr vr xt yt zt vt
  replace Ba := Ba.ext hb rfl
  replace Bb := Bb.ext hb rfl
  replace Bc := Bc.ext hb rfl
  replace Br := Br.ext hb rfl
  replace Bt := Bt.ext hb rfl
  replace hw := hw.trans (hb.mono hw.size)
  clear hb
  obtain ⟨xa, ya, za, va⟩ := Ba.facts
  obtain ⟨xb, yb, zb, vb⟩ := Bb.facts
  obtain ⟨xc, yc, zc, vc⟩ := Bc.facts
  obtain ⟨xr, yr, zr, vr⟩ := Br.facts
  obtain ⟨xt, yt, zt, vt⟩ := Bt.facts
  go_wp2_with fail
  refine (co _).mono ?_
  rintro e w9 ⟨rfl, hb⟩
  clear xa ya za va xb yb zb vb xc yc zc vc xr yr zr vr xt yt zt vt
  replace Ba := Ba.ext hb rfl
  replace Bb := Bb.ext hb rfl
  replace Bc := Bc.ext hb rfl
  replace Br := Br.ext hb rfl
  replace Bt := Bt.ext hb rfl
  replace hw := hw.trans (hb.mono hw.size)
  clear hb
  obtain ⟨xa, ya, za, va⟩ := Ba.facts
  obtain ⟨xb, yb, zb, vb⟩ := Bb.facts
  obtain ⟨xc, yc, zc, vc⟩ := Bc.facts
  obtain ⟨xr, yr, zr, vr⟩ := Br.facts
  obtain ⟨xt, yt, zt, vt⟩ := Bt.facts
  go_wp2_with fail
  refine (cv _).mono ?_
  rintro e w10 ⟨rfl, hb⟩
  clear xa ya za va xb yb zb vb xc yc zc vc xr yr zr vr xt yt zt vt
  replace Ba := Ba.ext hb rfl
  replace Bb := Bb.ext hb rfl
  replace Bc := Bc.ext hb rfl
  replace Br := Br.ext hb rfl
  replace Bt := Bt.ext hb rfl
  replace hw := hw.trans (hb.mono hw.size)
  clear hb
  obtain ⟨xa, ya, za, va⟩ := Ba.facts
  obtain ⟨xb, yb, zb, vb⟩ := Bb.facts
  obtain ⟨xc, yc, zc, vc⟩ := Bc.facts
  obtain ⟨xr, yr, zr, vr⟩ := Br.facts
  obtain ⟨xt, yt, zt, vt⟩ := Bt.facts
  go_wp2_with fail
  refine bodyPost_ret (v := .tuple #[.agg #[.int .i64 0, .int .i64 0, .int .i64 0, .int .i64 0, .int .i64 0, .int .i64 0], .bool false]) (by simp [results, Try.results4, go_sem, xr]) rfl ⟨rfl, by have hl := hw.size; go_grown⟩

end Go.Proofs.Ytijdbddjhnjcdaa
