/- Triangles have one order: the law TriOrder of package hectarelaw3 answers true at every input; no conditions. -/
import Derived.Test.YtbbmcbkmfehidaaRows
import Derived.Test.YtbbmcbkmfehidaaTrF
import Derived.Test.YtbbmcbkmfehidaaTrP
import Derived.Test.YtbbmcbkmfehidaaPost
import Derived.WalkKit
import Derived.WalkSpells
import Derived.WalkLawsBesides
import Derived.Deep.QuietTactic
import Derived.BigQuiet
import Derived.Lib.Hide
import Derived.Handy
import Derived.ProofKit
import Derived.Lib.SmallJoins
namespace Go.Proofs.Ytbbmcbkmfehidaa
open Go.RowKit Go.Sort Go.ChangeShapes Go.WideShapes Go.ChangeAt
attribute [local go_sem] rOper rAt rUpon cell_set sg_i64 sg_u64 alloc_cell alloc_frozen
attribute [local go_sem 10000] pt_eql pt_neq tri_eql
attribute [local irreducible] rWalk

theorem cmpP_anti (p q : Pt) : cmpP q p = -cmpP p q := by unfold cmpP cmpN sgn; (repeat' split) <;> omega
theorem cmpP_zero {p q : Pt} : cmpP p q = 0 ↔ p = q := by
  rw [Pt.eq_iff]; unfold cmpP cmpN sgn; (repeat' split) <;> omega
theorem cmpP_le {p q : Pt} : cmpP p q ≤ 0 ↔ p.x < q.x ∨ (p.x = q.x ∧ p.y ≤ q.y) := by
  unfold cmpP cmpN sgn; (repeat' split) <;> omega
theorem cmpP_tr {p q r : Pt} (h1 : cmpP p q ≤ 0) (h2 : cmpP q r ≤ 0) : cmpP p r ≤ 0 := by
  rw [cmpP_le] at *; omega
theorem cmpT_anti (S T : Tri3) : cmpT T S = -cmpT S T := by
  unfold cmpT
  rw [cmpP_anti S.A T.A, cmpP_anti S.B T.B, cmpP_anti S.C T.C]
  (repeat' split) <;> omega
theorem cmpT_bd (S T : Tri3) : -1 ≤ cmpT S T ∧ cmpT S T ≤ 1 := by
  have h1 := cmpP_bd S.A T.A
  have h2 := cmpP_bd S.B T.B
  have h3 := cmpP_bd S.C T.C
  unfold cmpT; (repeat' split) <;> omega
theorem cmpT_zero {S T : Tri3} : cmpT S T = 0 ↔ S = T := by
  rw [Tri3.eq_iff, ← cmpP_zero, ← cmpP_zero (p := S.B), ← cmpP_zero (p := S.C)]
  unfold cmpT; (repeat' split) <;> omega
theorem lexi {x1 x2 x3 y1 y2 y3 z1 z2 z3 : Int} (t1 : x1 ≤ 0 → y1 ≤ 0 → z1 ≤ 0) (o1 : z1 = 0 → y1 = -x1)
    (e2 : x2 = 0 → z2 = y2) (f2 : y2 = 0 → z2 = x2) (t2 : x2 ≤ 0 → y2 ≤ 0 → z2 ≤ 0) (o2 : z2 = 0 → y2 = -x2) (t3 : x3 ≤ 0 → y3 ≤ 0 → z3 ≤ 0)
    (hx : or3 x1 x2 x3 ≤ 0) (hy : or3 y1 y2 y3 ≤ 0) : or3 z1 z2 z3 ≤ 0 := by
  unfold or3 at *
  (repeat' split at hx) <;> (repeat' split at hy) <;> (repeat' split) <;> omega
theorem cmpT_tr {S T U : Tri3} (h1 : cmpT S T ≤ 0) (h2 : cmpT T U ≤ 0) : cmpT S U ≤ 0 := by
  have e : ∀ p q r : Pt, cmpP p q = 0 → cmpP p r = cmpP q r := fun p q r h => by rw [cmpP_zero.1 h]
  have f : ∀ p q r : Pt, cmpP q r = 0 → cmpP p r = cmpP p q := fun p q r h => by rw [cmpP_zero.1 h]
  have o : ∀ p q r : Pt, cmpP p r = 0 → cmpP q r = -cmpP p q := fun p q r h => by rw [← cmpP_zero.1 h, cmpP_anti]
  exact lexi cmpP_tr (o _ T.A _) (e _ T.B _) (f _ T.B _) cmpP_tr (o _ T.B _) cmpP_tr h1 h2
theorem cmpT_tr2 {S T U : Tri3} (h1 : 0 ≤ cmpT S T) (h2 : 0 ≤ cmpT T U) : 0 ≤ cmpT S U := by
  have := cmpT_tr (S := U) (T := T) (U := S) (by rw [cmpT_anti]; omega) (by rw [cmpT_anti]; omega)
  rw [cmpT_anti] at this; omega
set_option maxRecDepth 100000 in
set_option maxHeartbeats 2000000 in
theorem order_nn (S T U : Tri3) (hx : cmpT S T = (-1)) (hr : cmpT T S = 1) (he : teq S T = false) (hy : cmpT T U = (-1)) (h1 : decide (cmpT S U ≤ 0) = true) (w : World) :
    Calls Try.prog 6 #[.agg #[.int .i64 S.A.x, .int .i64 S.A.y, .int .i64 S.B.x, .int .i64 S.B.y, .int .i64 S.C.x, .int .i64 S.C.y], .agg #[.int .i64 T.A.x, .int .i64 T.A.y, .int .i64 T.B.x, .int .i64 T.B.y, .int .i64 T.C.x, .int .i64 T.C.y], .agg #[.int .i64 U.A.x, .int .i64 U.A.y, .int .i64 U.B.x, .int .i64 U.B.y, .int .i64 U.C.x, .int .i64 U.C.y]] w fun e w' => e = .returned (.bool true) ∧ Below w.heap.size w w' := by
  have d1 := cmpT_any S T
  have d2 := cmpT_any T U
  have d3 := cmpT_any S U
  have d4 := cmpT_any T S
  rw [hx] at d1
  rw [hy] at d2
  rw [hr] at d4
  generalize cmpT S U = n at *
  clear hx hr hy
  go_enter Try.func6, Try.ntmps6
  go_wp2_with fail
  refine at_world fun W1 hW => ?_
  have Bs : Box W1 (w.heap.size) [.int .i64 S.A.x, .int .i64 S.A.y, .int .i64 S.B.x, .int .i64 S.B.y, .int .i64 S.C.x, .int .i64 S.C.y] 25 := by rw [hW]; exact ((Box.new rfl).old _).old _
  have Bt : Box W1 (w.heap.size + 1) [.int .i64 T.A.x, .int .i64 T.A.y, .int .i64 T.B.x, .int .i64 T.B.y, .int .i64 T.C.x, .int .i64 T.C.y] 25 := by rw [hW]; exact (Box.new (by simp)).old _
  have Bu : Box W1 (w.heap.size + 1 + 1) [.int .i64 U.A.x, .int .i64 U.A.y, .int .i64 U.B.x, .int .i64 U.B.y, .int .i64 U.C.x, .int .i64 U.C.y] 25 := by rw [hW]; exact Box.new (by simp)
  have hw : Below w.heap.size w W1 := by rw [hW]; go_grown
  clear hW
  have gs := Bs.cells
  have gt := Bt.cells
  have gu := Bu.cells
  refine wp_region_tail 11 (by kernel_rfl) (by kernel_rfl) (C := fun w' => ∃ p : Regrown, w' = grow (redrawn W1 p.d) p.os) (fun w' h => regrown_of_below h) ?_
  simp only [List.take_succ_cons, List.take_zero, List.drop_succ_cons, List.drop_zero]
  repeat (first | (refine rWalk_skip (Eq.refl false) ?_; simp only [Act.put, List.setIfInBounds_toArray, List.set_cons_succ, List.set_cons_zero]) | (refine rWalk_step (fun K hK => ?_); go_simp; first | (refine hK _ ?_; clear hK K) | (apply Exists.intro; refine ⟨fun _ => ?_, hK _ ?_⟩; (first | with_reducible exact toExt d1 _ | with_reducible exact toExt d2 _ | with_reducible exact toExt d3 _); clear hK K)))
  refine rWalk_nil ?_
  intro w2 hb
  clear gs gt gu
  replace Bs := Bs.ext hb rfl
  replace Bt := Bt.ext hb rfl
  replace Bu := Bu.ext hb rfl
  replace hw := hw.trans (hb.mono hw.size)
  obtain ⟨xs, ys, zs, vs⟩ := Bs.facts
  obtain ⟨xt, yt, zt, vt⟩ := Bt.facts
  obtain ⟨xu, yu, zu, vu⟩ := Bu.facts
  go_wp2_with fail
  refine (d4 _).mono ?_
  rintro e w3 ⟨rfl, hb⟩
  clear xs ys zs vs xt yt zt vt xu yu zu vu
  replace Bs := Bs.ext hb rfl
  replace Bt := Bt.ext hb rfl
  replace Bu := Bu.ext hb rfl
  replace hw := hw.trans (hb.mono hw.size)
  clear hb
  obtain ⟨xs, ys, zs, vs⟩ := Bs.facts
  obtain ⟨xt, yt, zt, vt⟩ := Bt.facts
  obtain ⟨xu, yu, zu, vu⟩ := Bu.facts
  go_wp2_with fail
  refine (awake_any _).mono ?_
  rintro e w4 ⟨rfl, hb⟩
  clear xs ys zs vs xt yt zt vt xu yu zu vu
  replace Bs := Bs.ext hb rfl
  replace Bt := Bt.ext hb rfl
  replace Bu := Bu.ext hb rfl
  replace hw := hw.trans (hb.mono hw.size)
  clear hb
  go_wp2
  go_ret
  exact ⟨rfl, hw⟩

set_option maxRecDepth 100000 in
set_option maxHeartbeats 2000000 in
theorem order_nz (S T U : Tri3) (hx : cmpT S T = (-1)) (hr : cmpT T S = 1) (he : teq S T = false) (hy : cmpT T U = 0) (h1 : decide (cmpT S U ≤ 0) = true) (w : World) :
    Calls Try.prog 6 #[.agg #[.int .i64 S.A.x, .int .i64 S.A.y, .int .i64 S.B.x, .int .i64 S.B.y, .int .i64 S.C.x, .int .i64 S.C.y], .agg #[.int .i64 T.A.x, .int .i64 T.A.y, .int .i64 T.B.x, .int .i64 T.B.y, .int .i64 T.C.x, .int .i64 T.C.y], .agg #[.int .i64 U.A.x, .int .i64 U.A.y, .int .i64 U.B.x, .int .i64 U.B.y, .int .i64 U.C.x, .int .i64 U.C.y]] w fun e w' => e = .returned (.bool true) ∧ Below w.heap.size w w' := by
  have d1 := cmpT_any S T
  have d2 := cmpT_any T U
  have d3 := cmpT_any S U
  have d4 := cmpT_any T S
  rw [hx] at d1
  rw [hy] at d2
  rw [hr] at d4
  generalize cmpT S U = n at *
  clear hx hr hy
  go_enter Try.func6, Try.ntmps6
  go_wp2_with fail
  refine at_world fun W1 hW => ?_
  have Bs : Box W1 (w.heap.size) [.int .i64 S.A.x, .int .i64 S.A.y, .int .i64 S.B.x, .int .i64 S.B.y, .int .i64 S.C.x, .int .i64 S.C.y] 25 := by rw [hW]; exact ((Box.new rfl).old _).old _
  have Bt : Box W1 (w.heap.size + 1) [.int .i64 T.A.x, .int .i64 T.A.y, .int .i64 T.B.x, .int .i64 T.B.y, .int .i64 T.C.x, .int .i64 T.C.y] 25 := by rw [hW]; exact (Box.new (by simp)).old _
  have Bu : Box W1 (w.heap.size + 1 + 1) [.int .i64 U.A.x, .int .i64 U.A.y, .int .i64 U.B.x, .int .i64 U.B.y, .int .i64 U.C.x, .int .i64 U.C.y] 25 := by rw [hW]; exact Box.new (by simp)
  have hw : Below w.heap.size w W1 := by rw [hW]; go_grown
  clear hW
  have gs := Bs.cells
  have gt := Bt.cells
  have gu := Bu.cells
  refine wp_region_tail 11 (by kernel_rfl) (by kernel_rfl) (C := fun w' => ∃ p : Regrown, w' = grow (redrawn W1 p.d) p.os) (fun w' h => regrown_of_below h) ?_
  simp only [List.take_succ_cons, List.take_zero, List.drop_succ_cons, List.drop_zero]
  repeat (first | (refine rWalk_skip (Eq.refl false) ?_; simp only [Act.put, List.setIfInBounds_toArray, List.set_cons_succ, List.set_cons_zero]) | (refine rWalk_step (fun K hK => ?_); go_simp; first | (refine hK _ ?_; clear hK K) | (apply Exists.intro; refine ⟨fun _ => ?_, hK _ ?_⟩; (first | with_reducible exact toExt d1 _ | with_reducible exact toExt d2 _ | with_reducible exact toExt d3 _); clear hK K)))
  refine rWalk_nil ?_
  intro w2 hb
  clear gs gt gu
  replace Bs := Bs.ext hb rfl
  replace Bt := Bt.ext hb rfl
  replace Bu := Bu.ext hb rfl
  replace hw := hw.trans (hb.mono hw.size)
  obtain ⟨xs, ys, zs, vs⟩ := Bs.facts
  obtain ⟨xt, yt, zt, vt⟩ := Bt.facts
  obtain ⟨xu, yu, zu, vu⟩ := Bu.facts
  go_wp2_with fail
  refine (d4 _).mono ?_
  rintro e w3 ⟨rfl, hb⟩
  clear xs ys zs vs xt yt zt vt xu yu zu vu
  replace Bs := Bs.ext hb rfl
  replace Bt := Bt.ext hb rfl
  replace Bu := Bu.ext hb rfl
  replace hw := hw.trans (hb.mono hw.size)
  clear hb
  obtain ⟨xs, ys, zs, vs⟩ := Bs.facts
  obtain ⟨xt, yt, zt, vt⟩ := Bt.facts
  obtain ⟨xu, yu, zu, vu⟩ := Bu.facts
  go_wp2_with fail
  refine (awake_any _).mono ?_
  rintro e w4 ⟨rfl, hb⟩
  clear xs ys zs vs xt yt zt vt xu yu zu vu
  replace Bs := Bs.ext hb rfl
  replace Bt := Bt.ext hb rfl
  replace Bu := Bu.ext hb rfl
  replace hw := hw.trans (hb.mono hw.size)
  clear hb
  go_wp2
  go_ret
  exact ⟨rfl, hw⟩

set_option maxRecDepth 100000 in
set_option maxHeartbeats 2000000 in
theorem order_np (S T U : Tri3) (hx : cmpT S T = (-1)) (hr : cmpT T S = 1) (he : teq S T = false) (hy : cmpT T U = 1) (w : World) :
    Calls Try.prog 6 #[.agg #[.int .i64 S.A.x, .int .i64 S.A.y, .int .i64 S.B.x, .int .i64 S.B.y, .int .i64 S.C.x, .int .i64 S.C.y], .agg #[.int .i64 T.A.x, .int .i64 T.A.y, .int .i64 T.B.x, .int .i64 T.B.y, .int .i64 T.C.x, .int .i64 T.C.y], .agg #[.int .i64 U.A.x, .int .i64 U.A.y, .int .i64 U.B.x, .int .i64 U.B.y, .int .i64 U.C.x, .int .i64 U.C.y]] w fun e w' => e = .returned (.bool true) ∧ Below w.heap.size w w' := by
  have d1 := cmpT_any S T
  have d2 := cmpT_any T U
  have d3 := cmpT_any S U
  have d4 := cmpT_any T S
  rw [hx] at d1
  rw [hy] at d2
  rw [hr] at d4
  generalize cmpT S U = n at *
  clear hx hr hy
  go_enter Try.func6, Try.ntmps6
  go_wp2_with fail
  refine at_world fun W1 hW => ?_
  have Bs : Box W1 (w.heap.size) [.int .i64 S.A.x, .int .i64 S.A.y, .int .i64 S.B.x, .int .i64 S.B.y, .int .i64 S.C.x, .int .i64 S.C.y] 25 := by rw [hW]; exact ((Box.new rfl).old _).old _
  have Bt : Box W1 (w.heap.size + 1) [.int .i64 T.A.x, .int .i64 T.A.y, .int .i64 T.B.x, .int .i64 T.B.y, .int .i64 T.C.x, .int .i64 T.C.y] 25 := by rw [hW]; exact (Box.new (by simp)).old _
  have Bu : Box W1 (w.heap.size + 1 + 1) [.int .i64 U.A.x, .int .i64 U.A.y, .int .i64 U.B.x, .int .i64 U.B.y, .int .i64 U.C.x, .int .i64 U.C.y] 25 := by rw [hW]; exact Box.new (by simp)
  have hw : Below w.heap.size w W1 := by rw [hW]; go_grown
  clear hW
  have gs := Bs.cells
  have gt := Bt.cells
  have gu := Bu.cells
  refine wp_region_tail 11 (by kernel_rfl) (by kernel_rfl) (C := fun w' => ∃ p : Regrown, w' = grow (redrawn W1 p.d) p.os) (fun w' h => regrown_of_below h) ?_
  simp only [List.take_succ_cons, List.take_zero, List.drop_succ_cons, List.drop_zero]
  repeat (first | (refine rWalk_skip (Eq.refl false) ?_; simp only [Act.put, List.setIfInBounds_toArray, List.set_cons_succ, List.set_cons_zero]) | (refine rWalk_step (fun K hK => ?_); go_simp; first | (refine hK _ ?_; clear hK K) | (apply Exists.intro; refine ⟨fun _ => ?_, hK _ ?_⟩; (first | with_reducible exact toExt d1 _ | with_reducible exact toExt d2 _ | with_reducible exact toExt d3 _); clear hK K)))
  refine rWalk_nil ?_
  intro w2 hb
  clear gs gt gu
  replace Bs := Bs.ext hb rfl
  replace Bt := Bt.ext hb rfl
  replace Bu := Bu.ext hb rfl
  replace hw := hw.trans (hb.mono hw.size)
  obtain ⟨xs, ys, zs, vs⟩ := Bs.facts
  obtain ⟨xt, yt, zt, vt⟩ := Bt.facts
  obtain ⟨xu, yu, zu, vu⟩ := Bu.facts
  go_wp2_with fail
  refine (d4 _).mono ?_
  rintro e w3 ⟨rfl, hb⟩
  clear xs ys zs vs xt yt zt vt xu yu zu vu
  replace Bs := Bs.ext hb rfl
  replace Bt := Bt.ext hb rfl
  replace Bu := Bu.ext hb rfl
  replace hw := hw.trans (hb.mono hw.size)
  clear hb
  obtain ⟨xs, ys, zs, vs⟩ := Bs.facts
  obtain ⟨xt, yt, zt, vt⟩ := Bt.facts
  obtain ⟨xu, yu, zu, vu⟩ := Bu.facts
  go_wp2_with fail
  refine (awake_any _).mono ?_
  rintro e w4 ⟨rfl, hb⟩
  clear xs ys zs vs xt yt zt vt xu yu zu vu
  replace Bs := Bs.ext hb rfl
  replace Bt := Bt.ext hb rfl
  replace Bu := Bu.ext hb rfl
  replace hw := hw.trans (hb.mono hw.size)
  clear hb
  go_wp2
  go_ret
  exact ⟨rfl, hw⟩

set_option maxRecDepth 100000 in
set_option maxHeartbeats 2000000 in
theorem order_zn (S T U : Tri3) (hx : cmpT S T = 0) (hr : cmpT T S = 0) (he : teq S T = true) (hy : cmpT T U = (-1)) (h1 : decide (cmpT S U ≤ 0) = true) (w : World) :
    Calls Try.prog 6 #[.agg #[.int .i64 S.A.x, .int .i64 S.A.y, .int .i64 S.B.x, .int .i64 S.B.y, .int .i64 S.C.x, .int .i64 S.C.y], .agg #[.int .i64 T.A.x, .int .i64 T.A.y, .int .i64 T.B.x, .int .i64 T.B.y, .int .i64 T.C.x, .int .i64 T.C.y], .agg #[.int .i64 U.A.x, .int .i64 U.A.y, .int .i64 U.B.x, .int .i64 U.B.y, .int .i64 U.C.x, .int .i64 U.C.y]] w fun e w' => e = .returned (.bool true) ∧ Below w.heap.size w w' := by
  have d1 := cmpT_any S T
  have d2 := cmpT_any T U
  have d3 := cmpT_any S U
  have d4 := cmpT_any T S
  rw [hx] at d1
  rw [hy] at d2
  rw [hr] at d4
  generalize cmpT S U = n at *
  clear hx hr hy
  go_enter Try.func6, Try.ntmps6
  go_wp2_with fail
  refine at_world fun W1 hW => ?_
  have Bs : Box W1 (w.heap.size) [.int .i64 S.A.x, .int .i64 S.A.y, .int .i64 S.B.x, .int .i64 S.B.y, .int .i64 S.C.x, .int .i64 S.C.y] 25 := by rw [hW]; exact ((Box.new rfl).old _).old _
  have Bt : Box W1 (w.heap.size + 1) [.int .i64 T.A.x, .int .i64 T.A.y, .int .i64 T.B.x, .int .i64 T.B.y, .int .i64 T.C.x, .int .i64 T.C.y] 25 := by rw [hW]; exact (Box.new (by simp)).old _
  have Bu : Box W1 (w.heap.size + 1 + 1) [.int .i64 U.A.x, .int .i64 U.A.y, .int .i64 U.B.x, .int .i64 U.B.y, .int .i64 U.C.x, .int .i64 U.C.y] 25 := by rw [hW]; exact Box.new (by simp)
  have hw : Below w.heap.size w W1 := by rw [hW]; go_grown
  clear hW
  have gs := Bs.cells
  have gt := Bt.cells
  have gu := Bu.cells
  refine wp_region_tail 11 (by kernel_rfl) (by kernel_rfl) (C := fun w' => ∃ p : Regrown, w' = grow (redrawn W1 p.d) p.os) (fun w' h => regrown_of_below h) ?_
  simp only [List.take_succ_cons, List.take_zero, List.drop_succ_cons, List.drop_zero]
  repeat (first | (refine rWalk_skip (Eq.refl false) ?_; simp only [Act.put, List.setIfInBounds_toArray, List.set_cons_succ, List.set_cons_zero]) | (refine rWalk_step (fun K hK => ?_); go_simp; first | (refine hK _ ?_; clear hK K) | (apply Exists.intro; refine ⟨fun _ => ?_, hK _ ?_⟩; (first | with_reducible exact toExt d1 _ | with_reducible exact toExt d2 _ | with_reducible exact toExt d3 _); clear hK K)))
  refine rWalk_nil ?_
  intro w2 hb
  clear gs gt gu
  replace Bs := Bs.ext hb rfl
  replace Bt := Bt.ext hb rfl
  replace Bu := Bu.ext hb rfl
  replace hw := hw.trans (hb.mono hw.size)
  obtain ⟨xs, ys, zs, vs⟩ := Bs.facts
  obtain ⟨xt, yt, zt, vt⟩ := Bt.facts
  obtain ⟨xu, yu, zu, vu⟩ := Bu.facts
  go_wp2_with fail
  refine (d4 _).mono ?_
  rintro e w3 ⟨rfl, hb⟩
  clear xs ys zs vs xt yt zt vt xu yu zu vu
  replace Bs := Bs.ext hb rfl
  replace Bt := Bt.ext hb rfl
  replace Bu := Bu.ext hb rfl
  replace hw := hw.trans (hb.mono hw.size)
  clear hb
  obtain ⟨xs, ys, zs, vs⟩ := Bs.facts
  obtain ⟨xt, yt, zt, vt⟩ := Bt.facts
  obtain ⟨xu, yu, zu, vu⟩ := Bu.facts
  go_wp2_with fail
  refine (awake_any _).mono ?_
  rintro e w4 ⟨rfl, hb⟩
  clear xs ys zs vs xt yt zt vt xu yu zu vu
  replace Bs := Bs.ext hb rfl
  replace Bt := Bt.ext hb rfl
  replace Bu := Bu.ext hb rfl
  replace hw := hw.trans (hb.mono hw.size)
  clear hb
  go_wp2
  go_ret
  exact ⟨rfl, hw⟩

set_option maxRecDepth 100000 in
set_option maxHeartbeats 2000000 in
theorem order_zz (S T U : Tri3) (hx : cmpT S T = 0) (hr : cmpT T S = 0) (he : teq S T = true) (hy : cmpT T U = 0) (h1 : decide (cmpT S U ≤ 0) = true) (h2 : decide (0 ≤ cmpT S U) = true) (w : World) :
    Calls Try.prog 6 #[.agg #[.int .i64 S.A.x, .int .i64 S.A.y, .int .i64 S.B.x, .int .i64 S.B.y, .int .i64 S.C.x, .int .i64 S.C.y], .agg #[.int .i64 T.A.x, .int .i64 T.A.y, .int .i64 T.B.x, .int .i64 T.B.y, .int .i64 T.C.x, .int .i64 T.C.y], .agg #[.int .i64 U.A.x, .int .i64 U.A.y, .int .i64 U.B.x, .int .i64 U.B.y, .int .i64 U.C.x, .int .i64 U.C.y]] w fun e w' => e = .returned (.bool true) ∧ Below w.heap.size w w' := by
  have d1 := cmpT_any S T
  have d2 := cmpT_any T U
  have d3 := cmpT_any S U
  have d4 := cmpT_any T S
  rw [hx] at d1
  rw [hy] at d2
  rw [hr] at d4
  have h3 : decide (cmpT S U ≥ 0) = true := h2
  generalize cmpT S U = n at *
  clear hx hr hy
  go_enter Try.func6, Try.ntmps6
  go_wp2_with fail
  refine at_world fun W1 hW => ?_
  have Bs : Box W1 (w.heap.size) [.int .i64 S.A.x, .int .i64 S.A.y, .int .i64 S.B.x, .int .i64 S.B.y, .int .i64 S.C.x, .int .i64 S.C.y] 25 := by rw [hW]; exact ((Box.new rfl).old _).old _
  have Bt : Box W1 (w.heap.size + 1) [.int .i64 T.A.x, .int .i64 T.A.y, .int .i64 T.B.x, .int .i64 T.B.y, .int .i64 T.C.x, .int .i64 T.C.y] 25 := by rw [hW]; exact (Box.new (by simp)).old _
  have Bu : Box W1 (w.heap.size + 1 + 1) [.int .i64 U.A.x, .int .i64 U.A.y, .int .i64 U.B.x, .int .i64 U.B.y, .int .i64 U.C.x, .int .i64 U.C.y] 25 := by rw [hW]; exact Box.new (by simp)
  have hw : Below w.heap.size w W1 := by rw [hW]; go_grown
  clear hW
  have gs := Bs.cells
  have gt := Bt.cells
  have gu := Bu.cells
  refine wp_region_tail 11 (by kernel_rfl) (by kernel_rfl) (C := fun w' => ∃ p : Regrown, w' = grow (redrawn W1 p.d) p.os) (fun w' h => regrown_of_below h) ?_
  simp only [List.take_succ_cons, List.take_zero, List.drop_succ_cons, List.drop_zero]
  repeat (first | (refine rWalk_skip (Eq.refl false) ?_; simp only [Act.put, List.setIfInBounds_toArray, List.set_cons_succ, List.set_cons_zero]) | (refine rWalk_step (fun K hK => ?_); go_simp; first | (refine hK _ ?_; clear hK K) | (apply Exists.intro; refine ⟨fun _ => ?_, hK _ ?_⟩; (first | with_reducible exact toExt d1 _ | with_reducible exact toExt d2 _ | with_reducible exact toExt d3 _); clear hK K)))
  refine rWalk_nil ?_
  intro w2 hb
  clear gs gt gu
  replace Bs := Bs.ext hb rfl
  replace Bt := Bt.ext hb rfl
  replace Bu := Bu.ext hb rfl
  replace hw := hw.trans (hb.mono hw.size)
  obtain ⟨xs, ys, zs, vs⟩ := Bs.facts
  obtain ⟨xt, yt, zt, vt⟩ := Bt.facts
  obtain ⟨xu, yu, zu, vu⟩ := Bu.facts
  go_wp2_with fail
  refine (d4 _).mono ?_
  rintro e w3 ⟨rfl, hb⟩
  clear xs ys zs vs xt yt zt vt xu yu zu vu
  replace Bs := Bs.ext hb rfl
  replace Bt := Bt.ext hb rfl
  replace Bu := Bu.ext hb rfl
  replace hw := hw.trans (hb.mono hw.size)
  clear hb
  obtain ⟨xs, ys, zs, vs⟩ := Bs.facts
  obtain ⟨xt, yt, zt, vt⟩ := Bt.facts
  obtain ⟨xu, yu, zu, vu⟩ := Bu.facts
  go_wp2_with fail
  refine (awake_any _).mono ?_
  rintro e w4 ⟨rfl, hb⟩
  clear xs ys zs vs xt yt zt vt xu yu zu vu
  replace Bs := Bs.ext hb rfl
  replace Bt := Bt.ext hb rfl
  replace Bu := Bu.ext hb rfl
  replace hw := hw.trans (hb.mono hw.size)
  clear hb
  go_wp2
  go_ret
  exact ⟨rfl, hw⟩

set_option maxRecDepth 100000 in
set_option maxHeartbeats 2000000 in
theorem order_zp (S T U : Tri3) (hx : cmpT S T = 0) (hr : cmpT T S = 0) (he : teq S T = true) (hy : cmpT T U = 1) (h2 : decide (0 ≤ cmpT S U) = true) (w : World) :
    Calls Try.prog 6 #[.agg #[.int .i64 S.A.x, .int .i64 S.A.y, .int .i64 S.B.x, .int .i64 S.B.y, .int .i64 S.C.x, .int .i64 S.C.y], .agg #[.int .i64 T.A.x, .int .i64 T.A.y, .int .i64 T.B.x, .int .i64 T.B.y, .int .i64 T.C.x, .int .i64 T.C.y], .agg #[.int .i64 U.A.x, .int .i64 U.A.y, .int .i64 U.B.x, .int .i64 U.B.y, .int .i64 U.C.x, .int .i64 U.C.y]] w fun e w' => e = .returned (.bool true) ∧ Below w.heap.size w w' := by
  have d1 := cmpT_any S T
  have d2 := cmpT_any T U
  have d3 := cmpT_any S U
  have d4 := cmpT_any T S
  rw [hx] at d1
  rw [hy] at d2
  rw [hr] at d4
  have h3 : decide (cmpT S U ≥ 0) = true := h2
  generalize cmpT S U = n at *
  clear hx hr hy
  go_enter Try.func6, Try.ntmps6
  go_wp2_with fail
  refine at_world fun W1 hW => ?_
  have Bs : Box W1 (w.heap.size) [.int .i64 S.A.x, .int .i64 S.A.y, .int .i64 S.B.x, .int .i64 S.B.y, .int .i64 S.C.x, .int .i64 S.C.y] 25 := by rw [hW]; exact ((Box.new rfl).old _).old _
  have Bt : Box W1 (w.heap.size + 1) [.int .i64 T.A.x, .int .i64 T.A.y, .int .i64 T.B.x, .int .i64 T.B.y, .int .i64 T.C.x, .int .i64 T.C.y] 25 := by rw [hW]; exact (Box.new (by simp)).old _
  have Bu : Box W1 (w.heap.size + 1 + 1) [.int .i64 U.A.x, .int .i64 U.A.y, .int .i64 U.B.x, .int .i64 U.B.y, .int .i64 U.C.x, .int .i64 U.C.y] 25 := by rw [hW]; exact Box.new (by simp)
  have hw : Below w.heap.size w W1 := by rw [hW]; go_grown
  clear hW
  have gs := Bs.cells
  have gt := Bt.cells
  have gu := Bu.cells
  refine wp_region_tail 11 (by kernel_rfl) (by kernel_rfl) (C := fun w' => ∃ p : Regrown, w' = grow (redrawn W1 p.d) p.os) (fun w' h => regrown_of_below h) ?_
  simp only [List.take_succ_cons, List.take_zero, List.drop_succ_cons, List.drop_zero]
  repeat (first | (refine rWalk_skip (Eq.refl false) ?_; simp only [Act.put, List.setIfInBounds_toArray, List.set_cons_succ, List.set_cons_zero]) | (refine rWalk_step (fun K hK => ?_); go_simp; first | (refine hK _ ?_; clear hK K) | (apply Exists.intro; refine ⟨fun _ => ?_, hK _ ?_⟩; (first | with_reducible exact toExt d1 _ | with_reducible exact toExt d2 _ | with_reducible exact toExt d3 _); clear hK K)))
  refine rWalk_nil ?_
  intro w2 hb
  clear gs gt gu
  replace Bs := Bs.ext hb rfl
  replace Bt := Bt.ext hb rfl
  replace Bu := Bu.ext hb rfl
  replace hw := hw.trans (hb.mono hw.size)
  obtain ⟨xs, ys, zs, vs⟩ := Bs.facts
  obtain ⟨xt, yt, zt, vt⟩ := Bt.facts
  obtain ⟨xu, yu, zu, vu⟩ := Bu.facts
  go_wp2_with fail
  refine (d4 _).mono ?_
  rintro e w3 ⟨rfl, hb⟩
  clear xs ys zs vs xt yt zt vt xu yu zu vu
  replace Bs := Bs.ext hb rfl
  replace Bt := Bt.ext hb rfl
  replace Bu := Bu.ext hb rfl
  replace hw := hw.trans (hb.mono hw.size)
  clear hb
  obtain ⟨xs, ys, zs, vs⟩ := Bs.facts
  obtain ⟨xt, yt, zt, vt⟩ := Bt.facts
  obtain ⟨xu, yu, zu, vu⟩ := Bu.facts
  go_wp2_with fail
  refine (awake_any _).mono ?_
  rintro e w4 ⟨rfl, hb⟩
  clear xs ys zs vs xt yt zt vt xu yu zu vu
  replace Bs := Bs.ext hb rfl
  replace Bt := Bt.ext hb rfl
  replace Bu := Bu.ext hb rfl
  replace hw := hw.trans (hb.mono hw.size)
  clear hb
  go_wp2
  go_ret
  exact ⟨rfl, hw⟩

set_option maxRecDepth 100000 in
set_option maxHeartbeats 2000000 in
theorem order_pn (S T U : Tri3) (hx : cmpT S T = 1) (hr : cmpT T S = (-1)) (he : teq S T = false) (hy : cmpT T U = (-1)) (w : World) :
    Calls Try.prog 6 #[.agg #[.int .i64 S.A.x, .int .i64 S.A.y, .int .i64 S.B.x, .int .i64 S.B.y, .int .i64 S.C.x, .int .i64 S.C.y], .agg #[.int .i64 T.A.x, .int .i64 T.A.y, .int .i64 T.B.x, .int .i64 T.B.y, .int .i64 T.C.x, .int .i64 T.C.y], .agg #[.int .i64 U.A.x, .int .i64 U.A.y, .int .i64 U.B.x, .int .i64 U.B.y, .int .i64 U.C.x, .int .i64 U.C.y]] w fun e w' => e = .returned (.bool true) ∧ Below w.heap.size w w' := by
  have d1 := cmpT_any S T
  have d2 := cmpT_any T U
  have d3 := cmpT_any S U
  have d4 := cmpT_any T S
  rw [hx] at d1
  rw [hy] at d2
  rw [hr] at d4
  generalize cmpT S U = n at *
  clear hx hr hy
  go_enter Try.func6, Try.ntmps6
  go_wp2_with fail
  refine at_world fun W1 hW => ?_
  have Bs : Box W1 (w.heap.size) [.int .i64 S.A.x, .int .i64 S.A.y, .int .i64 S.B.x, .int .i64 S.B.y, .int .i64 S.C.x, .int .i64 S.C.y] 25 := by rw [hW]; exact ((Box.new rfl).old _).old _
  have Bt : Box W1 (w.heap.size + 1) [.int .i64 T.A.x, .int .i64 T.A.y, .int .i64 T.B.x, .int .i64 T.B.y, .int .i64 T.C.x, .int .i64 T.C.y] 25 := by rw [hW]; exact (Box.new (by simp)).old _
  have Bu : Box W1 (w.heap.size + 1 + 1) [.int .i64 U.A.x, .int .i64 U.A.y, .int .i64 U.B.x, .int .i64 U.B.y, .int .i64 U.C.x, .int .i64 U.C.y] 25 := by rw [hW]; exact Box.new (by simp)
  have hw : Below w.heap.size w W1 := by rw [hW]; go_grown
  clear hW
  have gs := Bs.cells
  have gt := Bt.cells
  have gu := Bu.cells
  refine wp_region_tail 11 (by kernel_rfl) (by kernel_rfl) (C := fun w' => ∃ p : Regrown, w' = grow (redrawn W1 p.d) p.os) (fun w' h => regrown_of_below h) ?_
  simp only [List.take_succ_cons, List.take_zero, List.drop_succ_cons, List.drop_zero]
  repeat (first | (refine rWalk_skip (Eq.refl false) ?_; simp only [Act.put, List.setIfInBounds_toArray, List.set_cons_succ, List.set_cons_zero]) | (refine rWalk_step (fun K hK => ?_); go_simp; first | (refine hK _ ?_; clear hK K) | (apply Exists.intro; refine ⟨fun _ => ?_, hK _ ?_⟩; (first | with_reducible exact toExt d1 _ | with_reducible exact toExt d2 _ | with_reducible exact toExt d3 _); clear hK K)))
  refine rWalk_nil ?_
  intro w2 hb
  clear gs gt gu
  replace Bs := Bs.ext hb rfl
  replace Bt := Bt.ext hb rfl
  replace Bu := Bu.ext hb rfl
  replace hw := hw.trans (hb.mono hw.size)
  obtain ⟨xs, ys, zs, vs⟩ := Bs.facts
  obtain ⟨xt, yt, zt, vt⟩ := Bt.facts
  obtain ⟨xu, yu, zu, vu⟩ := Bu.facts
  go_wp2_with fail
  refine (d4 _).mono ?_
  rintro e w3 ⟨rfl, hb⟩
  clear xs ys zs vs xt yt zt vt xu yu zu vu
  replace Bs := Bs.ext hb rfl
  replace Bt := Bt.ext hb rfl
  replace Bu := Bu.ext hb rfl
  replace hw := hw.trans (hb.mono hw.size)
  clear hb
  obtain ⟨xs, ys, zs, vs⟩ := Bs.facts
  obtain ⟨xt, yt, zt, vt⟩ := Bt.facts
  obtain ⟨xu, yu, zu, vu⟩ := Bu.facts
  go_wp2_with fail
  refine (awake_any _).mono ?_
  rintro e w4 ⟨rfl, hb⟩
  clear xs ys zs vs xt yt zt vt xu yu zu vu
  replace Bs := Bs.ext hb rfl
  replace Bt := Bt.ext hb rfl
  replace Bu := Bu.ext hb rfl
  replace hw := hw.trans (hb.mono hw.size)
  clear hb
  go_wp2
  go_ret
  exact ⟨rfl, hw⟩

set_option maxRecDepth 100000 in
set_option maxHeartbeats 2000000 in
theorem order_pz (S T U : Tri3) (hx : cmpT S T = 1) (hr : cmpT T S = (-1)) (he : teq S T = false) (hy : cmpT T U = 0) (h2 : decide (0 ≤ cmpT S U) = true) (w : World) :
    Calls Try.prog 6 #[.agg #[.int .i64 S.A.x, .int .i64 S.A.y, .int .i64 S.B.x, .int .i64 S.B.y, .int .i64 S.C.x, .int .i64 S.C.y], .agg #[.int .i64 T.A.x, .int .i64 T.A.y, .int .i64 T.B.x, .int .i64 T.B.y, .int .i64 T.C.x, .int .i64 T.C.y], .agg #[.int .i64 U.A.x, .int .i64 U.A.y, .int .i64 U.B.x, .int .i64 U.B.y, .int .i64 U.C.x, .int .i64 U.C.y]] w fun e w' => e = .returned (.bool true) ∧ Below w.heap.size w w' := by
  have d1 := cmpT_any S T
  have d2 := cmpT_any T U
  have d3 := cmpT_any S U
  have d4 := cmpT_any T S
  rw [hx] at d1
  rw [hy] at d2
  rw [hr] at d4
  have h3 : decide (cmpT S U ≥ 0) = true := h2
  generalize cmpT S U = n at *
  clear hx hr hy
  go_enter Try.func6, Try.ntmps6
  go_wp2_with fail
  refine at_world fun W1 hW => ?_
  have Bs : Box W1 (w.heap.size) [.int .i64 S.A.x, .int .i64 S.A.y, .int .i64 S.B.x, .int .i64 S.B.y, .int .i64 S.C.x, .int .i64 S.C.y] 25 := by rw [hW]; exact ((Box.new rfl).old _).old _
  have Bt : Box W1 (w.heap.size + 1) [.int .i64 T.A.x, .int .i64 T.A.y, .int .i64 T.B.x, .int .i64 T.B.y, .int .i64 T.C.x, .int .i64 T.C.y] 25 := by rw [hW]; exact (Box.new (by simp)).old _
  have Bu : Box W1 (w.heap.size + 1 + 1) [.int .i64 U.A.x, .int .i64 U.A.y, .int .i64 U.B.x, .int .i64 U.B.y, .int .i64 U.C.x, .int .i64 U.C.y] 25 := by rw [hW]; exact Box.new (by simp)
  have hw : Below w.heap.size w W1 := by rw [hW]; go_grown
  clear hW
  have gs := Bs.cells
  have gt := Bt.cells
  have gu := Bu.cells
  refine wp_region_tail 11 (by kernel_rfl) (by kernel_rfl) (C := fun w' => ∃ p : Regrown, w' = grow (redrawn W1 p.d) p.os) (fun w' h => regrown_of_below h) ?_
  simp only [List.take_succ_cons, List.take_zero, List.drop_succ_cons, List.drop_zero]
  repeat (first | (refine rWalk_skip (Eq.refl false) ?_; simp only [Act.put, List.setIfInBounds_toArray, List.set_cons_succ, List.set_cons_zero]) | (refine rWalk_step (fun K hK => ?_); go_simp; first | (refine hK _ ?_; clear hK K) | (apply Exists.intro; refine ⟨fun _ => ?_, hK _ ?_⟩; (first | with_reducible exact toExt d1 _ | with_reducible exact toExt d2 _ | with_reducible exact toExt d3 _); clear hK K)))
  refine rWalk_nil ?_
  intro w2 hb
  clear gs gt gu
  replace Bs := Bs.ext hb rfl
  replace Bt := Bt.ext hb rfl
  replace Bu := Bu.ext hb rfl
  replace hw := hw.trans (hb.mono hw.size)
  obtain ⟨xs, ys, zs, vs⟩ := Bs.facts
  obtain ⟨xt, yt, zt, vt⟩ := Bt.facts
  obtain ⟨xu, yu, zu, vu⟩ := Bu.facts
  go_wp2_with fail
  refine (d4 _).mono ?_
  rintro e w3 ⟨rfl, hb⟩
  clear xs ys zs vs xt yt zt vt xu yu zu vu
  replace Bs := Bs.ext hb rfl
  replace Bt := Bt.ext hb rfl
  replace Bu := Bu.ext hb rfl
  replace hw := hw.trans (hb.mono hw.size)
  clear hb
  obtain ⟨xs, ys, zs, vs⟩ := Bs.facts
  obtain ⟨xt, yt, zt, vt⟩ := Bt.facts
  obtain ⟨xu, yu, zu, vu⟩ := Bu.facts
  go_wp2_with fail
  refine (awake_any _).mono ?_
  rintro e w4 ⟨rfl, hb⟩
  clear xs ys zs vs xt yt zt vt xu yu zu vu
  replace Bs := Bs.ext hb rfl
  replace Bt := Bt.ext hb rfl
  replace Bu := Bu.ext hb rfl
  replace hw := hw.trans (hb.mono hw.size)
  clear hb
  go_wp2
  go_ret
  exact ⟨rfl, hw⟩

set_option maxRecDepth 100000 in
set_option maxHeartbeats 2000000 in
theorem order_pp (S T U : Tri3) (hx : cmpT S T = 1) (hr : cmpT T S = (-1)) (he : teq S T = false) (hy : cmpT T U = 1) (h2 : decide (0 ≤ cmpT S U) = true) (w : World) :
    Calls Try.prog 6 #[.agg #[.int .i64 S.A.x, .int .i64 S.A.y, .int .i64 S.B.x, .int .i64 S.B.y, .int .i64 S.C.x, .int .i64 S.C.y], .agg #[.int .i64 T.A.x, .int .i64 T.A.y, .int .i64 T.B.x, .int .i64 T.B.y, .int .i64 T.C.x, .int .i64 T.C.y], .agg #[.int .i64 U.A.x, .int .i64 U.A.y, .int .i64 U.B.x, .int .i64 U.B.y, .int .i64 U.C.x, .int .i64 U.C.y]] w fun e w' => e = .returned (.bool true) ∧ Below w.heap.size w w' := by
  have d1 := cmpT_any S T
  have d2 := cmpT_any T U
  have d3 := cmpT_any S U
  have d4 := cmpT_any T S
  rw [hx] at d1
  rw [hy] at d2
  rw [hr] at d4
  have h3 : decide (cmpT S U ≥ 0) = true := h2
  generalize cmpT S U = n at *
  clear hx hr hy
  go_enter Try.func6, Try.ntmps6
  go_wp2_with fail
  refine at_world fun W1 hW => ?_
  have Bs : Box W1 (w.heap.size) [.int .i64 S.A.x, .int .i64 S.A.y, .int .i64 S.B.x, .int .i64 S.B.y, .int .i64 S.C.x, .int .i64 S.C.y] 25 := by rw [hW]; exact ((Box.new rfl).old _).old _
  have Bt : Box W1 (w.heap.size + 1) [.int .i64 T.A.x, .int .i64 T.A.y, .int .i64 T.B.x, .int .i64 T.B.y, .int .i64 T.C.x, .int .i64 T.C.y] 25 := by rw [hW]; exact (Box.new (by simp)).old _
  have Bu : Box W1 (w.heap.size + 1 + 1) [.int .i64 U.A.x, .int .i64 U.A.y, .int .i64 U.B.x, .int .i64 U.B.y, .int .i64 U.C.x, .int .i64 U.C.y] 25 := by rw [hW]; exact Box.new (by simp)
  have hw : Below w.heap.size w W1 := by rw [hW]; go_grown
  clear hW
  have gs := Bs.cells
  have gt := Bt.cells
  have gu := Bu.cells
  refine wp_region_tail 11 (by kernel_rfl) (by kernel_rfl) (C := fun w' => ∃ p : Regrown, w' = grow (redrawn W1 p.d) p.os) (fun w' h => regrown_of_below h) ?_
  simp only [List.take_succ_cons, List.take_zero, List.drop_succ_cons, List.drop_zero]
  repeat (first | (refine rWalk_skip (Eq.refl false) ?_; simp only [Act.put, List.setIfInBounds_toArray, List.set_cons_succ, List.set_cons_zero]) | (refine rWalk_step (fun K hK => ?_); go_simp; first | (refine hK _ ?_; clear hK K) | (apply Exists.intro; refine ⟨fun _ => ?_, hK _ ?_⟩; (first | with_reducible exact toExt d1 _ | with_reducible exact toExt d2 _ | with_reducible exact toExt d3 _); clear hK K)))
  refine rWalk_nil ?_
  intro w2 hb
  clear gs gt gu
  replace Bs := Bs.ext hb rfl
  replace Bt := Bt.ext hb rfl
  replace Bu := Bu.ext hb rfl
  replace hw := hw.trans (hb.mono hw.size)
  obtain ⟨xs, ys, zs, vs⟩ := Bs.facts
  obtain ⟨xt, yt, zt, vt⟩ := Bt.facts
  obtain ⟨xu, yu, zu, vu⟩ := Bu.facts
  go_wp2_with fail
  refine (d4 _).mono ?_
  rintro e w3 ⟨rfl, hb⟩
  clear xs ys zs vs xt yt zt vt xu yu zu vu
  replace Bs := Bs.ext hb rfl
  replace Bt := Bt.ext hb rfl
  replace Bu := Bu.ext hb rfl
  replace hw := hw.trans (hb.mono hw.size)
  clear hb
  obtain ⟨xs, ys, zs, vs⟩ := Bs.facts
  obtain ⟨xt, yt, zt, vt⟩ := Bt.facts
  obtain ⟨xu, yu, zu, vu⟩ := Bu.facts
  go_wp2_with fail
  refine (awake_any _).mono ?_
  rintro e w4 ⟨rfl, hb⟩
  clear xs ys zs vs xt yt zt vt xu yu zu vu
  replace Bs := Bs.ext hb rfl
  replace Bt := Bt.ext hb rfl
  replace Bu := Bu.ext hb rfl
  replace hw := hw.trans (hb.mono hw.size)
  clear hb
  go_wp2
  go_ret
  exact ⟨rfl, hw⟩

theorem order_law (S T U : Tri3) (w : World) :
    Calls Try.prog 6 #[.agg #[.int .i64 S.A.x, .int .i64 S.A.y, .int .i64 S.B.x, .int .i64 S.B.y, .int .i64 S.C.x, .int .i64 S.C.y], .agg #[.int .i64 T.A.x, .int .i64 T.A.y, .int .i64 T.B.x, .int .i64 T.B.y, .int .i64 T.C.x, .int .i64 T.C.y], .agg #[.int .i64 U.A.x, .int .i64 U.A.y, .int .i64 U.B.x, .int .i64 U.B.y, .int .i64 U.C.x, .int .i64 U.C.y]] w fun e w' => e = .returned (.bool true) ∧ Below w.heap.size w w' := by
  have b1 := cmpT_bd S T
  have b2 := cmpT_bd T U
  have an := cmpT_anti S T
  have e0 : cmpT S T = 0 → teq S T = true := fun h => teq_iff.2 (cmpT_zero.1 h)
  have e1 : cmpT S T ≠ 0 → teq S T = false := fun h => by rw [← Bool.not_eq_true, teq_iff]; exact fun k => h (cmpT_zero.2 k)
  have le : cmpT S T ≤ 0 → cmpT T U ≤ 0 → decide (cmpT S U ≤ 0) = true := fun a b => decide_eq_true (cmpT_tr a b)
  have ge : 0 ≤ cmpT S T → 0 ≤ cmpT T U → decide (0 ≤ cmpT S U) = true := fun a b => decide_eq_true (cmpT_tr2 a b)
  have c1 : cmpT S T = -1 ∨ cmpT S T = 0 ∨ cmpT S T = 1 := by omega
  have c2 : cmpT T U = -1 ∨ cmpT T U = 0 ∨ cmpT T U = 1 := by omega
  rcases c1 with x | x | x <;> rcases c2 with y | y | y
  · exact order_nn S T U x (by omega) (e1 (by omega)) y (le (by omega) (by omega)) w
  · exact order_nz S T U x (by omega) (e1 (by omega)) y (le (by omega) (by omega)) w
  · exact order_np S T U x (by omega) (e1 (by omega)) y w
  · exact order_zn S T U x (by omega) (e0 x) y (le (by omega) (by omega)) w
  · exact order_zz S T U x (by omega) (e0 x) y (le (by omega) (by omega)) (ge (by omega) (by omega)) w
  · exact order_zp S T U x (by omega) (e0 x) y (ge (by omega) (by omega)) w
  · exact order_pn S T U x (by omega) (e1 (by omega)) y w
  · exact order_pz S T U x (by omega) (e1 (by omega)) y (ge (by omega) (by omega)) w
  · exact order_pp S T U x (by omega) (e1 (by omega)) y (ge (by omega) (by omega)) w
set_option maxRecDepth 100000 in
theorem triOrder_lifted (os : Os) (started : os.Started) (H : Type) (enc : TypeId × Value → H) :
    ReturnsInHanded {} Try.checked os 6 .any (Rows.triOrderSpec.pre6 enc Try.prog Try.f6 Rows.triOrderRow.domain false) (Rows.triOrderSpec.post enc Try.prog Try.f6 false true false false) := by
  refine returnsInHanded_of_change (C := Try.checked) Try.own started (by kernel_rfl) Try.func6
    (ChangeSpec.witness6 (enc := enc) (C := Try.checked) false ⟨#[], #[.agg #[.int .i64 0, .int .i64 0, .int .i64 0, .int .i64 0, .int .i64 0, .int .i64 0], .agg #[.int .i64 0, .int .i64 0, .int .i64 0, .int .i64 0, .int .i64 0, .int .i64 0], .agg #[.int .i64 0, .int .i64 0, .int .i64 0, .int .i64 0, .int .i64 0, .int .i64 0]], []⟩ 8 (by kernel_rfl) (by kernel_rfl) (by kernel_rfl) (by kernel_rfl)) ?_
  intro W base args ds gs before hval0 hW hcnd _
  have hval : ∀ (j : Nat) t v, Try.f6.params[j]? = some t → args[j]? = some v → Value.okWide Try.prog W .any base t v := hval0
  have hW' := hW
  obtain ⟨p, q, hA0, hV, rfl, hfz, hnd⟩ := hW
  have hA : DataW.TrodAll enc Try.prog W 0 (fun _ => true) true Try.f6.params.toList args.toList ds p := hA0
  rw [Try.params6] at hA hval
  obtain ⟨v0, v1, v2, d0, d1, d2, q0, q1, q2, rfl, rfl, rfl, p0, p1, p2⟩ := trodAll_three hA
  obtain ⟨rfl, rfl⟩ := trodVars_none hV
  obtain ⟨S, rfl, rfl, rfl, kS⟩ := open_tri (hval 0 25 v0 rfl rfl) p0
  obtain ⟨T, rfl, rfl, rfl, kT⟩ := open_tri (hval 1 25 v1 rfl rfl) p1
  obtain ⟨U, rfl, rfl, rfl, kU⟩ := open_tri (hval 2 25 v2 rfl rfl) p2
  clear hA0 hval0
  simp only [List.append_nil] at hW'
  refine (order_law S T U W).mono fun e W' ⟨he, hb⟩ => ?_
  subst he
  exact ⟨_, rfl, post_of_below (pa := []) (pv := []) hW' (fun _ _ _ => trodAll_mk1 (shut_bool Try.underlying4 true)) (fun sp _ => trodAll_mk3 (shut_tri kS) (shut_tri kT) (shut_tri kU)) (fun _ _ => rfl) rfl hb (ok_one (by kernel_rfl) rfl (okWide_bool_mk Try.underlying4 true))⟩
/-- The law TriOrder holds of every input. -/
theorem triOrder_holds : Rows.TriOrderSaid :=
  OpenClaim.holds_of_wide 6 Try.f6 rfl rfl rfl rfl rfl rfl rfl ⟨rfl, rfl, rfl, rfl, rfl⟩ rfl rfl rfl rfl rfl (by kernel_rfl) Try.func6 (by kernel_rfl)
    (of_decide_eq_true (by kernel_rfl)) (by unfold Func.isWrapper; rw [if_neg (of_decide_eq_false (by kernel_rfl))]; exact ⟨rfl, rfl⟩)
    (fun os started H enc _ => triOrder_lifted os started H enc)
end Go.Proofs.Ytbbmcbkmfehidaa
