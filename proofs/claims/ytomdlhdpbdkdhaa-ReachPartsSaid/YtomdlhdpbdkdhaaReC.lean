/- The contract of package reach's Overlaps, over the program. -/
import Derived.Test.YtomdlhdpbdkdhaaRows
import Derived.Test.YtomdlhdpbdkdhaaReB
import Derived.Test.YtomdlhdpbdkdhaaPost
import Derived.WalkKit
import Derived.WalkSpells
import Derived.WalkLawsBesides
import Derived.Laws.Externs
import Derived.Deep.QuietTactic
import Derived.BigQuiet
import Derived.Lib.Hide
import Derived.Handy
import Derived.LoopN
import Derived.RegionTactic
import Derived.Deep.RegionHeld3
namespace Go.Proofs.Ytomdlhdpbdkdhaa
open Go.RowKit Go.Sort
attribute [local go_sem] rOper rAt rUpon cell_set sg_i64 sg_u64 alloc_cell alloc_frozen
attribute [local go_sem 10000] pt_eql pt_neq tri_eql run_mnA run_mxA run_mn2 run_mx2
attribute [local irreducible] rWalk

theorem rheld_first {w W : World} {b g : Nat} {cs ds : List Value} {T U : TypeId} (hw : Below w.heap.size w W) (h1 : Box W b cs T) (h2 : Box W g ds U) :
    Below w.heap.size w W.drew ∧ Box W.drew b cs T ∧ Box W.drew g ds U ∧ (∀ i, W.drew.cell? ⟨b, i, none⟩ = cs[i]?) ∧ (∀ i, W.drew.cell? ⟨g, i, none⟩ = ds[i]?) :=
  ⟨hw.drew, h1, h2, Box.facts (w := W.drew) h1 |>.1, Box.facts (w := W.drew) h2 |>.1⟩
theorem rheld_alloc {w W : World} {b g : Nat} {cs ds : List Value} {T U : TypeId} (o : Obj) (h : Below w.heap.size w W ∧ Box W b cs T ∧ Box W g ds U ∧ (∀ i, W.cell? ⟨b, i, none⟩ = cs[i]?) ∧ (∀ i, W.cell? ⟨g, i, none⟩ = ds[i]?)) :
    Below w.heap.size w (W.alloc o) ∧ Box (W.alloc o) b cs T ∧ Box (W.alloc o) g ds U ∧ (∀ i, (W.alloc o).cell? ⟨b, i, none⟩ = cs[i]?) ∧ (∀ i, (W.alloc o).cell? ⟨g, i, none⟩ = ds[i]?) :=
  ⟨h.1.alloc h.1.size o, h.2.1.old o, h.2.2.1.old o, (h.2.1.old o).facts.1, (h.2.2.1.old o).facts.1⟩
theorem rheld_below {w W W2 : World} {b g : Nat} {cs ds : List Value} {T U : TypeId} (h : Below w.heap.size w W ∧ Box W b cs T ∧ Box W g ds U ∧ (∀ i, W.cell? ⟨b, i, none⟩ = cs[i]?) ∧ (∀ i, W.cell? ⟨g, i, none⟩ = ds[i]?)) (hb : Below W.heap.size W W2) :
    Below w.heap.size w W2 ∧ Box W2 b cs T ∧ Box W2 g ds U ∧ (∀ i, W2.cell? ⟨b, i, none⟩ = cs[i]?) ∧ (∀ i, W2.cell? ⟨g, i, none⟩ = ds[i]?) :=
  ⟨h.1.trans (hb.mono h.1.size), h.2.1.ext hb rfl, h.2.2.1.ext hb rfl, (h.2.1.ext hb rfl).facts.1, (h.2.2.1.ext hb rfl).facts.1⟩
theorem rheld_box {w W : World} {b g : Nat} {cs ds : List Value} {T U : TypeId} (h : Below w.heap.size w W ∧ Box W b cs T ∧ Box W g ds U ∧ (∀ i, W.cell? ⟨b, i, none⟩ = cs[i]?) ∧ (∀ i, W.cell? ⟨g, i, none⟩ = ds[i]?)) : Box W g ds U := h.2.2.1
def ovl (T : Tri3) (r : Rc) : Bool := valT T && (win r && (mts r.x0 r.x1 T.A.x T.B.x T.C.x && (mts r.y0 r.y1 T.A.y T.B.y T.C.y && decide (0 ≤ ls4 T (⟨r.x0, r.y0⟩ : Pt) (⟨r.x1, r.y0⟩ : Pt) (⟨r.x1, r.y1⟩ : Pt) (⟨r.x0, r.y1⟩ : Pt)))))
theorem ovl_0 (T : Tri3) (r : Rc) (h0 : valT T = false) (w : World) :
    Calls Try.prog 11 #[.agg #[.int .i64 T.A.x, .int .i64 T.A.y, .int .i64 T.B.x, .int .i64 T.B.y, .int .i64 T.C.x, .int .i64 T.C.y], .agg #[.int .i64 r.x0, .int .i64 r.y0, .int .i64 r.x1, .int .i64 r.y1]] w fun e w' => e = .returned (.bool false) ∧ Below w.heap.size w w' := by
  have c0 := tvalid_any T
  have c1 := win_any r
  have c2 := meets_any r.x0 r.x1 T.A.x T.B.x T.C.x
  have c3 := meets_any r.y0 r.y1 T.A.y T.B.y T.C.y
  rw [h0] at c0
  clear h0
  go_enter Try.func11, Try.ntmps11
  go_wp2_with fail
  refine at_call fun W1 hW => ?_
  have Bt : Box W1 (w.heap.size) [.int .i64 T.A.x, .int .i64 T.A.y, .int .i64 T.B.x, .int .i64 T.B.y, .int .i64 T.C.x, .int .i64 T.C.y] 25 := by rw [hW]; exact (Box.new rfl).old _
  have Br : Box W1 (w.heap.size + 1) [.int .i64 r.x0, .int .i64 r.y0, .int .i64 r.x1, .int .i64 r.y1] 27 := by rw [hW]; exact Box.new (by simp)
  have hw : Below w.heap.size w W1 := by rw [hW]; go_grown
  clear hW
  refine (c0 _).mono ?_
  rintro e w2 ⟨rfl, hb⟩
  replace Bt := Bt.ext hb rfl
  replace Br := Br.ext hb rfl
  replace hw := hw.trans (hb.mono hw.size)
  clear hb
  obtain ⟨xt, yt, zt, vt⟩ := Bt.facts
  obtain ⟨xr, yr, zr, vr⟩ := Br.facts
  go_wp2
  go_ret
  exact ⟨rfl, by have hl := hw.size; go_grown⟩

theorem ovl_1 (T : Tri3) (r : Rc) (h0 : valT T = true) (h1 : win r = false) (w : World) :
    Calls Try.prog 11 #[.agg #[.int .i64 T.A.x, .int .i64 T.A.y, .int .i64 T.B.x, .int .i64 T.B.y, .int .i64 T.C.x, .int .i64 T.C.y], .agg #[.int .i64 r.x0, .int .i64 r.y0, .int .i64 r.x1, .int .i64 r.y1]] w fun e w' => e = .returned (.bool false) ∧ Below w.heap.size w w' := by
  have c0 := tvalid_any T
  have c1 := win_any r
  have c2 := meets_any r.x0 r.x1 T.A.x T.B.x T.C.x
  have c3 := meets_any r.y0 r.y1 T.A.y T.B.y T.C.y
  rw [h0] at c0
  rw [h1] at c1
  clear h0 h1
  go_enter Try.func11, Try.ntmps11
  go_wp2_with fail
  refine at_call fun W1 hW => ?_
  have Bt : Box W1 (w.heap.size) [.int .i64 T.A.x, .int .i64 T.A.y, .int .i64 T.B.x, .int .i64 T.B.y, .int .i64 T.C.x, .int .i64 T.C.y] 25 := by rw [hW]; exact (Box.new rfl).old _
  have Br : Box W1 (w.heap.size + 1) [.int .i64 r.x0, .int .i64 r.y0, .int .i64 r.x1, .int .i64 r.y1] 27 := by rw [hW]; exact Box.new (by simp)
  have hw : Below w.heap.size w W1 := by rw [hW]; go_grown
  clear hW
  refine (c0 _).mono ?_
  rintro e w2 ⟨rfl, hb⟩
  replace Bt := Bt.ext hb rfl
  replace Br := Br.ext hb rfl
  replace hw := hw.trans (hb.mono hw.size)
  clear hb
  obtain ⟨xt, yt, zt, vt⟩ := Bt.facts
  obtain ⟨xr, yr, zr, vr⟩ := Br.facts
  go_wp2_with fail
  refine (c1 _).mono ?_
  rintro e w3 ⟨rfl, hb⟩
  clear xt yt zt vt xr yr zr vr
  replace Bt := Bt.ext hb rfl
  replace Br := Br.ext hb rfl
  replace hw := hw.trans (hb.mono hw.size)
  clear hb
  obtain ⟨xt, yt, zt, vt⟩ := Bt.facts
  obtain ⟨xr, yr, zr, vr⟩ := Br.facts
  go_wp2
  go_ret
  exact ⟨rfl, by have hl := hw.size; go_grown⟩

theorem ovl_2 (T : Tri3) (r : Rc) (h0 : valT T = true) (h1 : win r = true) (h2 : mts r.x0 r.x1 T.A.x T.B.x T.C.x = false) (w : World) :
    Calls Try.prog 11 #[.agg #[.int .i64 T.A.x, .int .i64 T.A.y, .int .i64 T.B.x, .int .i64 T.B.y, .int .i64 T.C.x, .int .i64 T.C.y], .agg #[.int .i64 r.x0, .int .i64 r.y0, .int .i64 r.x1, .int .i64 r.y1]] w fun e w' => e = .returned (.bool false) ∧ Below w.heap.size w w' := by
  have c0 := tvalid_any T
  have c1 := win_any r
  have c2 := meets_any r.x0 r.x1 T.A.x T.B.x T.C.x
  have c3 := meets_any r.y0 r.y1 T.A.y T.B.y T.C.y
  rw [h0] at c0
  rw [h1] at c1
  rw [h2] at c2
  clear h0 h1 h2
  go_enter Try.func11, Try.ntmps11
  go_wp2_with fail
  refine at_call fun W1 hW => ?_
  have Bt : Box W1 (w.heap.size) [.int .i64 T.A.x, .int .i64 T.A.y, .int .i64 T.B.x, .int .i64 T.B.y, .int .i64 T.C.x, .int .i64 T.C.y] 25 := by rw [hW]; exact (Box.new rfl).old _
  have Br : Box W1 (w.heap.size + 1) [.int .i64 r.x0, .int .i64 r.y0, .int .i64 r.x1, .int .i64 r.y1] 27 := by rw [hW]; exact Box.new (by simp)
  have hw : Below w.heap.size w W1 := by rw [hW]; go_grown
  clear hW
  refine (c0 _).mono ?_
  rintro e w2 ⟨rfl, hb⟩
  replace Bt := Bt.ext hb rfl
  replace Br := Br.ext hb rfl
  replace hw := hw.trans (hb.mono hw.size)
  clear hb
  obtain ⟨xt, yt, zt, vt⟩ := Bt.facts
  obtain ⟨xr, yr, zr, vr⟩ := Br.facts
  go_wp2_with fail
  refine (c1 _).mono ?_
  rintro e w3 ⟨rfl, hb⟩
  clear xt yt zt vt xr yr zr vr
  replace Bt := Bt.ext hb rfl
  replace Br := Br.ext hb rfl
  replace hw := hw.trans (hb.mono hw.size)
  clear hb
  obtain ⟨xt, yt, zt, vt⟩ := Bt.facts
  obtain ⟨xr, yr, zr, vr⟩ := Br.facts
  go_wp2_with fail
  refine (c2 _).mono ?_
  rintro e w4 ⟨rfl, hb⟩
  clear xt yt zt vt xr yr zr vr
  replace Bt := Bt.ext hb rfl
  replace Br := Br.ext hb rfl
  replace hw := hw.trans (hb.mono hw.size)
  clear hb
  obtain ⟨xt, yt, zt, vt⟩ := Bt.facts
  obtain ⟨xr, yr, zr, vr⟩ := Br.facts
  go_wp2
  go_ret
  exact ⟨rfl, by have hl := hw.size; go_grown⟩

theorem ovl_3 (T : Tri3) (r : Rc) (h0 : valT T = true) (h1 : win r = true) (h2 : mts r.x0 r.x1 T.A.x T.B.x T.C.x = true) (h3 : mts r.y0 r.y1 T.A.y T.B.y T.C.y = false) (w : World) :
    Calls Try.prog 11 #[.agg #[.int .i64 T.A.x, .int .i64 T.A.y, .int .i64 T.B.x, .int .i64 T.B.y, .int .i64 T.C.x, .int .i64 T.C.y], .agg #[.int .i64 r.x0, .int .i64 r.y0, .int .i64 r.x1, .int .i64 r.y1]] w fun e w' => e = .returned (.bool false) ∧ Below w.heap.size w w' := by
  have c0 := tvalid_any T
  have c1 := win_any r
  have c2 := meets_any r.x0 r.x1 T.A.x T.B.x T.C.x
  have c3 := meets_any r.y0 r.y1 T.A.y T.B.y T.C.y
  rw [h0] at c0
  rw [h1] at c1
  rw [h2] at c2
  rw [h3] at c3
  clear h0 h1 h2 h3
  go_enter Try.func11, Try.ntmps11
  go_wp2_with fail
  refine at_call fun W1 hW => ?_
  have Bt : Box W1 (w.heap.size) [.int .i64 T.A.x, .int .i64 T.A.y, .int .i64 T.B.x, .int .i64 T.B.y, .int .i64 T.C.x, .int .i64 T.C.y] 25 := by rw [hW]; exact (Box.new rfl).old _
  have Br : Box W1 (w.heap.size + 1) [.int .i64 r.x0, .int .i64 r.y0, .int .i64 r.x1, .int .i64 r.y1] 27 := by rw [hW]; exact Box.new (by simp)
  have hw : Below w.heap.size w W1 := by rw [hW]; go_grown
  clear hW
  refine (c0 _).mono ?_
  rintro e w2 ⟨rfl, hb⟩
  replace Bt := Bt.ext hb rfl
  replace Br := Br.ext hb rfl
  replace hw := hw.trans (hb.mono hw.size)
  clear hb
  obtain ⟨xt, yt, zt, vt⟩ := Bt.facts
  obtain ⟨xr, yr, zr, vr⟩ := Br.facts
  go_wp2_with fail
  refine (c1 _).mono ?_
  rintro e w3 ⟨rfl, hb⟩
  clear xt yt zt vt xr yr zr vr
  replace Bt := Bt.ext hb rfl
  replace Br := Br.ext hb rfl
  replace hw := hw.trans (hb.mono hw.size)
  clear hb
  obtain ⟨xt, yt, zt, vt⟩ := Bt.facts
  obtain ⟨xr, yr, zr, vr⟩ := Br.facts
  go_wp2_with fail
  refine (c2 _).mono ?_
  rintro e w4 ⟨rfl, hb⟩
  clear xt yt zt vt xr yr zr vr
  replace Bt := Bt.ext hb rfl
  replace Br := Br.ext hb rfl
  replace hw := hw.trans (hb.mono hw.size)
  clear hb
  obtain ⟨xt, yt, zt, vt⟩ := Bt.facts
  obtain ⟨xr, yr, zr, vr⟩ := Br.facts
  go_wp2_with fail
  refine (c3 _).mono ?_
  rintro e w5 ⟨rfl, hb⟩
  clear xt yt zt vt xr yr zr vr
  replace Bt := Bt.ext hb rfl
  replace Br := Br.ext hb rfl
  replace hw := hw.trans (hb.mono hw.size)
  clear hb
  obtain ⟨xt, yt, zt, vt⟩ := Bt.facts
  obtain ⟨xr, yr, zr, vr⟩ := Br.facts
  go_wp2
  go_ret
  exact ⟨rfl, by have hl := hw.size; go_grown⟩

theorem ovl_4 (T : Tri3) (r : Rc) (h0 : valT T = true) (h1 : win r = true) (h2 : mts r.x0 r.x1 T.A.x T.B.x T.C.x = true) (h3 : mts r.y0 r.y1 T.A.y T.B.y T.C.y = true) (w : World) :
    Calls Try.prog 11 #[.agg #[.int .i64 T.A.x, .int .i64 T.A.y, .int .i64 T.B.x, .int .i64 T.B.y, .int .i64 T.C.x, .int .i64 T.C.y], .agg #[.int .i64 r.x0, .int .i64 r.y0, .int .i64 r.x1, .int .i64 r.y1]] w fun e w' => e = .returned (.bool (decide (0 ≤ ls4 T (⟨r.x0, r.y0⟩ : Pt) (⟨r.x1, r.y0⟩ : Pt) (⟨r.x1, r.y1⟩ : Pt) (⟨r.x0, r.y1⟩ : Pt)))) ∧ Below w.heap.size w w' := by
  have c0 := tvalid_any T
  have c1 := win_any r
  have c2 := meets_any r.x0 r.x1 T.A.x T.B.x T.C.x
  have c3 := meets_any r.y0 r.y1 T.A.y T.B.y T.C.y
  rw [h0] at c0
  rw [h1] at c1
  rw [h2] at c2
  rw [h3] at c3
  clear h0 h1 h2 h3
  have c4 := corners_any r
  have c5 := ls4_any T (⟨r.x0, r.y0⟩ : Pt) (⟨r.x1, r.y0⟩ : Pt) (⟨r.x1, r.y1⟩ : Pt) (⟨r.x0, r.y1⟩ : Pt)
  generalize ls4 T (⟨r.x0, r.y0⟩ : Pt) (⟨r.x1, r.y0⟩ : Pt) (⟨r.x1, r.y1⟩ : Pt) (⟨r.x0, r.y1⟩ : Pt) = m at *
  go_enter Try.func11, Try.ntmps11
  go_wp2_with fail
  refine at_call fun W1 hW => ?_
  have Bt : Box W1 (w.heap.size) [.int .i64 T.A.x, .int .i64 T.A.y, .int .i64 T.B.x, .int .i64 T.B.y, .int .i64 T.C.x, .int .i64 T.C.y] 25 := by rw [hW]; exact (Box.new rfl).old _
  have Br : Box W1 (w.heap.size + 1) [.int .i64 r.x0, .int .i64 r.y0, .int .i64 r.x1, .int .i64 r.y1] 27 := by rw [hW]; exact Box.new (by simp)
  have hw : Below w.heap.size w W1 := by rw [hW]; go_grown
  clear hW
  refine (c0 _).mono ?_
  rintro e w2 ⟨rfl, hb⟩
  replace Bt := Bt.ext hb rfl
  replace Br := Br.ext hb rfl
  replace hw := hw.trans (hb.mono hw.size)
  clear hb
  obtain ⟨xt, yt, zt, vt⟩ := Bt.facts
  obtain ⟨xr, yr, zr, vr⟩ := Br.facts
  go_wp2_with fail
  refine (c1 _).mono ?_
  rintro e w3 ⟨rfl, hb⟩
  clear xt yt zt vt xr yr zr vr
  replace Bt := Bt.ext hb rfl
  replace Br := Br.ext hb rfl
  replace hw := hw.trans (hb.mono hw.size)
  clear hb
  obtain ⟨xt, yt, zt, vt⟩ := Bt.facts
  obtain ⟨xr, yr, zr, vr⟩ := Br.facts
  go_wp2_with fail
  refine (c2 _).mono ?_
  rintro e w4 ⟨rfl, hb⟩
  clear xt yt zt vt xr yr zr vr
  replace Bt := Bt.ext hb rfl
  replace Br := Br.ext hb rfl
  replace hw := hw.trans (hb.mono hw.size)
  clear hb
  obtain ⟨xt, yt, zt, vt⟩ := Bt.facts
  obtain ⟨xr, yr, zr, vr⟩ := Br.facts
  go_wp2_with fail
  refine (c3 _).mono ?_
  rintro e w5 ⟨rfl, hb⟩
  clear xt yt zt vt xr yr zr vr
  replace Bt := Bt.ext hb rfl
  replace Br := Br.ext hb rfl
  replace hw := hw.trans (hb.mono hw.size)
  clear hb
  obtain ⟨xt, yt, zt, vt⟩ := Bt.facts
  obtain ⟨xr, yr, zr, vr⟩ := Br.facts
  go_wp2_with fail
  refine at_world fun W6 hW => ?_
  replace hw : Below w.heap.size w W6 := by rw [hW]; exact hw
  replace Bt : Box W6 (w.heap.size) [.int .i64 T.A.x, .int .i64 T.A.y, .int .i64 T.B.x, .int .i64 T.B.y, .int .i64 T.C.x, .int .i64 T.C.y] 25 := by rw [hW]; exact Bt
  replace Br : Box W6 (w.heap.size + 1) [.int .i64 r.x0, .int .i64 r.y0, .int .i64 r.x1, .int .i64 r.y1] 27 := by rw [hW]; exact Br
  clear hW
  clear xt yt zt vt xr yr zr vr
  clear c0 c1 c2 c3
  go_region_held3 (fun w' => Below w.heap.size w w' ∧ Box w' (w.heap.size) [.int .i64 T.A.x, .int .i64 T.A.y, .int .i64 T.B.x, .int .i64 T.B.y, .int .i64 T.C.x, .int .i64 T.C.y] 25 ∧ Box w' (w.heap.size + 1) [.int .i64 r.x0, .int .i64 r.y0, .int .i64 r.x1, .int .i64 r.y1] 27 ∧ (∀ i, w'.cell? ⟨w.heap.size, i, none⟩ = [.int .i64 T.A.x, .int .i64 T.A.y, .int .i64 T.B.x, .int .i64 T.B.y, .int .i64 T.C.x, .int .i64 T.C.y][i]?) ∧ (∀ i, w'.cell? ⟨w.heap.size + 1, i, none⟩ = [.int .i64 r.x0, .int .i64 r.y0, .int .i64 r.x1, .int .i64 r.y1][i]?)) (first | exact rheld_first hw Bt Br | exact rheld_below (by assumption) hb2 | exact rheld_below (by assumption) hb1 | exact rheld_alloc _ (by assumption)) (first | (go_at_call 36; refine (c4 _).mono ?_; rintro e wq1 ⟨g2, rfl, hg2, Bq, hb1⟩) | (go_at_call 35; refine (c5 _ _ (by first | exact Bq | exact Box.drew Bq)).mono ?_; rintro e wq2 ⟨rfl, hb2⟩))
  rename_i hK
  replace hK := hK.1
  go_wp2
  go_ret
  exact ⟨rfl, hK⟩

theorem ovl_any (T : Tri3) (r : Rc) (w : World) :
    Calls Try.prog 11 #[.agg #[.int .i64 T.A.x, .int .i64 T.A.y, .int .i64 T.B.x, .int .i64 T.B.y, .int .i64 T.C.x, .int .i64 T.C.y], .agg #[.int .i64 r.x0, .int .i64 r.y0, .int .i64 r.x1, .int .i64 r.y1]] w fun e w' => e = .returned (.bool (ovl T r)) ∧ Below w.heap.size w w' := by
  unfold ovl
  cases h0 : valT T with
  | false => exact ovl_0 T r h0 w
  | true => cases h1 : win r with
    | false => exact ovl_1 T r h0 h1 w
    | true => cases h2 : mts r.x0 r.x1 T.A.x T.B.x T.C.x with
      | false => exact ovl_2 T r h0 h1 h2 w
      | true => cases h3 : mts r.y0 r.y1 T.A.y T.B.y T.C.y with
        | false => exact ovl_3 T r h0 h1 h2 h3 w
        | true => exact ovl_4 T r h0 h1 h2 h3 w
end Go.Proofs.Ytomdlhdpbdkdhaa
