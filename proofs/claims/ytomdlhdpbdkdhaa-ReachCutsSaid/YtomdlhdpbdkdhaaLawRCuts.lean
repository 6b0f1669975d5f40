/- A window that is cut in two reaches a triangle just if one of the two does: the law ReachCuts of package hectarelaw4 answers true at every input; no conditions. -/
import Derived.Test.YtomdlhdpbdkdhaaRows
import Derived.Test.YtomdlhdpbdkdhaaReF
import Derived.Test.YtomdlhdpbdkdhaaReO
import Derived.Test.YtomdlhdpbdkdhaaReP
import Derived.Test.YtomdlhdpbdkdhaaPost
import Derived.WalkKit
import Derived.WalkSpells
import Derived.WalkLawsBesides
import Derived.Deep.QuietTactic
import Derived.BigQuiet
import Derived.Lib.Hide
import Derived.Handy
import Derived.RegionTactic
import Derived.BigRegion
import Derived.Carry
import Derived.ProofKit
import Derived.Lib.SmallJoins
namespace Go.Proofs.Ytomdlhdpbdkdhaa
open Go.RowKit Go.Sort Go.ChangeShapes Go.WideShapes Go.ChangeAt
attribute [local go_sem] rOper rAt rUpon cell_set sg_i64 sg_u64 alloc_cell alloc_frozen
attribute [local go_sem 10000] pt_eql pt_neq tri_eql
attribute [local irreducible] rWalk

theorem cut_any {T : Tri3} {r : Rc} {m : Int} (hr : win r = true) (h0 : r.x0 ≤ m) (h1 : m < r.x1) : ovl T r = (ovl T ⟨r.x0, r.y0, m + 1, r.y1⟩ || ovl T ⟨m, r.y0, r.x1, r.y1⟩) := by
  cases hT : valT T with
  | false => unfold ovl; rw [hT]; rfl
  | true => exact cut_ov (x0 := r.x0) (y0 := r.y0) (x1 := r.x1) (y1 := r.y1) hT hr h0 h1
theorem wrap_in {n : Int} (h : -9223372036854775808 ≤ n ∧ n ≤ 9223372036854775807) : wrap64 n = n ∧ IntKind.i64.wrap n = n := by
  rw [IntKind.wrap_i64, w64]; omega
set_option maxHeartbeats 1000000 in
theorem rcuts_0 (T : Tri3) (r : Rc) (at_ : Int) (h0 : win r = false) (w : World) :
    Calls Try.prog 7 #[.agg #[.int .i64 T.A.x, .int .i64 T.A.y, .int .i64 T.B.x, .int .i64 T.B.y, .int .i64 T.C.x, .int .i64 T.C.y], .agg #[.int .i64 r.x0, .int .i64 r.y0, .int .i64 r.x1, .int .i64 r.y1], .int .i64 at_] w fun e w' => e = .returned (.bool true) ∧ Below w.heap.size w w' := by
  have c0 := rwin_any r
  rw [h0] at c0
  clear h0
  go_enter Try.func7, Try.ntmps7
  go_wp2_with fail
  refine at_call fun W1 hW => ?_
  have Bt : Box W1 (w.heap.size) [.int .i64 T.A.x, .int .i64 T.A.y, .int .i64 T.B.x, .int .i64 T.B.y, .int .i64 T.C.x, .int .i64 T.C.y] 25 := by rw [hW]; exact (Box.new rfl).old _
  have Br : Box W1 (w.heap.size + 1) [.int .i64 r.x0, .int .i64 r.y0, .int .i64 r.x1, .int .i64 r.y1] 27 := by rw [hW]; exact Box.new (by simp)
  have hw : Below w.heap.size w W1 := by rw [hW]; go_grown
  clear hW
  refine (c0 _).mono ?_
  rintro e w2 ⟨rfl, hb⟩
  replace Bt := Bt.ext hb rfl
  replace Br := Br.ext hb rfl
  replace hw := hw.trans (hb.mono hw.size)
  clear hb
  obtain ⟨xt, yt, zt, vt⟩ := Bt.facts
  obtain ⟨xr, yr, zr, vr⟩ := Br.facts
  go_wp2_with fail
  refine (awake4_any _).mono ?_
  rintro e w3 ⟨rfl, hb⟩
  clear xt yt zt vt xr yr zr vr
  replace Bt := Bt.ext hb rfl
  replace Br := Br.ext hb rfl
  replace hw := hw.trans (hb.mono hw.size)
  clear hb
  go_wp2
  go_ret
  exact ⟨rfl, hw⟩

set_option maxHeartbeats 1000000 in
theorem rcuts_1 (T : Tri3) (r : Rc) (at_ : Int) (h0 : win r = true) (h1 : (r.x1 == r.x0) = true) (w : World) :
    Calls Try.prog 7 #[.agg #[.int .i64 T.A.x, .int .i64 T.A.y, .int .i64 T.B.x, .int .i64 T.B.y, .int .i64 T.C.x, .int .i64 T.C.y], .agg #[.int .i64 r.x0, .int .i64 r.y0, .int .i64 r.x1, .int .i64 r.y1], .int .i64 at_] w fun e w' => e = .returned (.bool true) ∧ Below w.heap.size w w' := by
  have c0 := rwin_any r
  rw [h0] at c0
  clear h0
  go_enter Try.func7, Try.ntmps7
  go_wp2_with fail
  refine at_call fun W1 hW => ?_
  have Bt : Box W1 (w.heap.size) [.int .i64 T.A.x, .int .i64 T.A.y, .int .i64 T.B.x, .int .i64 T.B.y, .int .i64 T.C.x, .int .i64 T.C.y] 25 := by rw [hW]; exact (Box.new rfl).old _
  have Br : Box W1 (w.heap.size + 1) [.int .i64 r.x0, .int .i64 r.y0, .int .i64 r.x1, .int .i64 r.y1] 27 := by rw [hW]; exact Box.new (by simp)
  have hw : Below w.heap.size w W1 := by rw [hW]; go_grown
  clear hW
  refine (c0 _).mono ?_
  rintro e w2 ⟨rfl, hb⟩
  replace Bt := Bt.ext hb rfl
  replace Br := Br.ext hb rfl
  replace hw := hw.trans (hb.mono hw.size)
  clear hb
  obtain ⟨xt, yt, zt, vt⟩ := Bt.facts
  obtain ⟨xr, yr, zr, vr⟩ := Br.facts
  go_wp2_with fail
  refine (awake4_any _).mono ?_
  rintro e w3 ⟨rfl, hb⟩
  clear xt yt zt vt xr yr zr vr
  replace Bt := Bt.ext hb rfl
  replace Br := Br.ext hb rfl
  replace hw := hw.trans (hb.mono hw.size)
  clear hb
  go_wp2
  go_ret
  exact ⟨rfl, hw⟩

set_option maxRecDepth 100000 in
set_option maxHeartbeats 2000000 in
theorem rcuts_m0 (T : Tri3) (r : Rc) (at_ : Int) (h0 : win r = true) (h1 : (r.x1 == r.x0) = false) (hv : ovl T ⟨r.x0, r.y0, r.x0 + at_ % (r.x1 - r.x0) + 1, r.y1⟩ = false) (w : World) :
    Calls Try.prog 7 #[.agg #[.int .i64 T.A.x, .int .i64 T.A.y, .int .i64 T.B.x, .int .i64 T.B.y, .int .i64 T.C.x, .int .i64 T.C.y], .agg #[.int .i64 r.x0, .int .i64 r.y0, .int .i64 r.x1, .int .i64 r.y1], .int .i64 at_] w fun e w' => e = .returned (.bool true) ∧ Below w.heap.size w w' := by
  have c0 := rwin_any r
  rw [h0] at c0
  have hr := (win_iff r).1 h0
  have hne : r.x0 < r.x1 := by
    have : ¬ r.x1 = r.x0 := by simpa using h1
    omega
  have cr := round_gen (i := at_) (n := r.x1 - r.x0) (by omega) (by omega)
  have k0 : 0 ≤ at_ % (r.x1 - r.x0) := Int.emod_nonneg _ (by omega)
  have k1 : at_ % (r.x1 - r.x0) < r.x1 - r.x0 := Int.emod_lt_of_pos _ (by omega)
  generalize at_ % (r.x1 - r.x0) = K at *
  obtain ⟨M, hM⟩ : ∃ M, M = r.x0 + K := ⟨_, rfl⟩
  obtain ⟨wA, wA2⟩ := wrap_in (n := r.x1 - r.x0) (by omega)
  obtain ⟨wB, wB2⟩ : wrap64 (r.x0 + K) = M ∧ IntKind.i64.wrap (r.x0 + K) = M := by rw [hM]; exact wrap_in (by omega)
  obtain ⟨wC, wC2⟩ := wrap_in (n := M + 1) (by omega)
  rw [← hM] at hv
  have hc := cut_any (T := T) (m := M) h0 (by omega) (by omega)
  have co := ovl_any T r
  have cl := ovl_any T ⟨r.x0, r.y0, M + 1, r.y1⟩
  have cm := ovl_any T ⟨M, r.y0, r.x1, r.y1⟩
  simp only at cl cm
  rw [hc, hv, Bool.false_or] at co
  rw [hv] at cl
  clear hc hv hr h0 hM k0 k1 hne
  generalize ovl T ⟨M, r.y0, r.x1, r.y1⟩ = u at *
  go_enter Try.func7, Try.ntmps7
  go_wp2_with fail
  refine at_call fun W1 hW => ?_
  have Bt : Box W1 (w.heap.size) [.int .i64 T.A.x, .int .i64 T.A.y, .int .i64 T.B.x, .int .i64 T.B.y, .int .i64 T.C.x, .int .i64 T.C.y] 25 := by rw [hW]; exact (Box.new rfl).old _
  have Br : Box W1 (w.heap.size + 1) [.int .i64 r.x0, .int .i64 r.y0, .int .i64 r.x1, .int .i64 r.y1] 27 := by rw [hW]; exact Box.new (by simp)
  have hw : Below w.heap.size w W1 := by rw [hW]; go_grown
  clear hW
  refine (c0 _).mono ?_
  rintro e w2 ⟨rfl, hb⟩
  replace Bt := Bt.ext hb rfl
  replace Br := Br.ext hb rfl
  replace hw := hw.trans (hb.mono hw.size)
  clear hb
  obtain ⟨xt, yt, zt, vt⟩ := Bt.facts
  obtain ⟨xr, yr, zr, vr⟩ := Br.facts
  go_wp2_with fail
  refine at_world fun W3 hW => ?_
  replace hw : Below w.heap.size w W3 := by rw [hW]; exact hw
  replace Bt : Box W3 (w.heap.size) [.int .i64 T.A.x, .int .i64 T.A.y, .int .i64 T.B.x, .int .i64 T.B.y, .int .i64 T.C.x, .int .i64 T.C.y] 25 := by rw [hW]; exact Bt
  replace Br : Box W3 (w.heap.size + 1) [.int .i64 r.x0, .int .i64 r.y0, .int .i64 r.x1, .int .i64 r.y1] 27 := by rw [hW]; exact Br
  clear hW
  clear xt yt zt vt xr yr zr vr
  have gt := Bt.cells
  have gr := Br.cells
  refine wp_region_tail 10 (by kernel_rfl) (by kernel_rfl) (C := fun w' => ∃ p : Regrown, w' = grow (redrawn W3 p.d) p.os) (fun w' h => regrown_of_below h) ?_
  simp only [List.take_succ_cons, List.take_zero, List.drop_succ_cons, List.drop_zero]
  repeat (first | (refine rWalk_skip (Eq.refl false) ?_; simp only [Act.put, List.setIfInBounds_toArray, List.set_cons_succ, List.set_cons_zero]) | (refine rWalk_step (fun K hK => ?_); go_simp; first | (refine hK _ ?_; clear hK K) | (apply Exists.intro; refine ⟨fun _ => ?_, hK _ ?_⟩; (first | with_reducible exact toExt cr _); clear hK K)))
  refine rWalk_nil ?_
  intro w4 hb
  clear gt gr
  replace Bt := Bt.ext hb rfl
  replace Br := Br.ext hb rfl
  replace hw := hw.trans (hb.mono hw.size)
  clear cr
  obtain ⟨xt, yt, zt, vt⟩ := Bt.facts
  obtain ⟨xr, yr, zr, vr⟩ := Br.facts
  go_wp2_with fail
  refine at_world fun W5 hW => ?_
  replace hw : Below w.heap.size w W5 := by rw [hW]; exact hw
  replace Bt : Box W5 (w.heap.size) [.int .i64 T.A.x, .int .i64 T.A.y, .int .i64 T.B.x, .int .i64 T.B.y, .int .i64 T.C.x, .int .i64 T.C.y] 25 := by rw [hW]; exact Bt
  replace Br : Box W5 (w.heap.size + 1) [.int .i64 r.x0, .int .i64 r.y0, .int .i64 r.x1, .int .i64 r.y1] 27 := by rw [hW]; exact Br
  clear hW
  clear xt yt zt vt xr yr zr vr
  obtain ⟨xt, yt, zt, vt⟩ := Bt.facts
  obtain ⟨xr, yr, zr, vr⟩ := Br.facts
  go_region
  all_goals skip
  · go_wp2_with fail
    refine at_world fun W6 hW => ?_
    have lt := Bt.lt
    have lr := Br.lt
    have hl := hw.size
    have Ct : Box W6 (w.heap.size) [.int .i64 T.A.x, .int .i64 T.A.y, .int .i64 T.B.x, .int .i64 T.B.y, .int .i64 T.C.x, .int .i64 T.C.y] 25 := by rw [hW]; exact (Box.drew ((Bt.old _).old _))
    have Cr : Box W6 (w.heap.size + 1) [.int .i64 r.x0, .int .i64 r.y0, .int .i64 r.x1, .int .i64 r.y1] 27 := by rw [hW]; exact (Box.drew ((Br.old _).old _))
    have Bl : Box W6 (W5.heap.size) [.int .i64 r.x0, .int .i64 r.y0, .int .i64 (M + 1), .int .i64 r.y1] 27 := by rw [hW]; exact (Box.drew ((Box.new rfl).old _))
    have Bo : Box W6 (W5.heap.size + 1) [.int .i64 M, .int .i64 r.y0, .int .i64 r.x1, .int .i64 r.y1] 27 := by rw [hW]; exact (Box.drew (Box.new (by simp)))
    replace hw : Below w.heap.size w W6 := by rw [hW]; go_grown
    clear xt yt zt vt xr yr zr vr
    clear hW hl lt Bt lr Br
    have Bt := Ct
    clear Ct
    have Br := Cr
    clear Cr
    as_aux_lemma =>
      have gt := Bt.cells
      have gr := Br.cells
      have gl := Bl.cells
      have go := Bo.cells
      refine wp_region_tail 15 (by kernel_rfl) (by kernel_rfl) (C := fun w' => ∃ p : Regrown, w' = grow (redrawn W6 p.d) p.os) (fun w' h => regrown_of_below h) ?_
      simp only [List.take_succ_cons, List.take_zero, List.drop_succ_cons, List.drop_zero]
      repeat (first | (refine rWalk_skip (Eq.refl false) ?_; simp only [Act.put, List.setIfInBounds_toArray, List.set_cons_succ, List.set_cons_zero]) | (refine rWalk_step (fun K hK => ?_); go_simp; first | (refine hK _ ?_; clear hK K) | (apply Exists.intro; refine ⟨fun _ => ?_, hK _ ?_⟩; (first | with_reducible exact toExt co _ | with_reducible exact toExt cl _ | with_reducible exact toExt cm _ | with_reducible exact toExt awake4_any _); clear hK K)))
      refine rWalk_nil ?_
      intro w7 hb
      clear gt gr gl go
      replace Bt := Bt.ext hb rfl
      replace Br := Br.ext hb rfl
      replace Bl := Bl.ext hb rfl
      replace Bo := Bo.ext hb rfl
      replace hw := hw.trans (hb.mono hw.size)
      go_wp2
      go_ret
      exact ⟨rfl, hw⟩
  · go_wp2_with fail
    refine at_world fun W6 hW => ?_
    have lt := Bt.lt
    have lr := Br.lt
    have hl := hw.size
    have Ct : Box W6 (w.heap.size) [.int .i64 T.A.x, .int .i64 T.A.y, .int .i64 T.B.x, .int .i64 T.B.y, .int .i64 T.C.x, .int .i64 T.C.y] 25 := by rw [hW]; exact (Box.drew ((Bt.old _).old _))
    have Cr : Box W6 (w.heap.size + 1) [.int .i64 r.x0, .int .i64 r.y0, .int .i64 r.x1, .int .i64 r.y1] 27 := by rw [hW]; exact (Box.drew ((Br.old _).old _))
    have Bo : Box W6 (W5.heap.size) [.int .i64 M, .int .i64 r.y0, .int .i64 r.x1, .int .i64 r.y1] 27 := by rw [hW]; exact (Box.drew ((Box.new rfl).old _))
    have Bl : Box W6 (W5.heap.size + 1) [.int .i64 r.x0, .int .i64 r.y0, .int .i64 (M + 1), .int .i64 r.y1] 27 := by rw [hW]; exact (Box.drew (Box.new (by simp)))
    replace hw : Below w.heap.size w W6 := by rw [hW]; go_grown
    clear xt yt zt vt xr yr zr vr
    clear hW hl lt Bt lr Br
    have Bt := Ct
    clear Ct
    have Br := Cr
    clear Cr
    as_aux_lemma =>
      have gt := Bt.cells
      have gr := Br.cells
      have go := Bo.cells
      have gl := Bl.cells
      refine wp_region_tail 15 (by kernel_rfl) (by kernel_rfl) (C := fun w' => ∃ p : Regrown, w' = grow (redrawn W6 p.d) p.os) (fun w' h => regrown_of_below h) ?_
      simp only [List.take_succ_cons, List.take_zero, List.drop_succ_cons, List.drop_zero]
      repeat (first | (refine rWalk_skip (Eq.refl false) ?_; simp only [Act.put, List.setIfInBounds_toArray, List.set_cons_succ, List.set_cons_zero]) | (refine rWalk_step (fun K hK => ?_); go_simp; first | (refine hK _ ?_; clear hK K) | (apply Exists.intro; refine ⟨fun _ => ?_, hK _ ?_⟩; (first | with_reducible exact toExt co _ | with_reducible exact toExt cl _ | with_reducible exact toExt cm _ | with_reducible exact toExt awake4_any _); clear hK K)))
      refine rWalk_nil ?_
      intro w7 hb
      clear gt gr go gl
      replace Bt := Bt.ext hb rfl
      replace Br := Br.ext hb rfl
      replace Bo := Bo.ext hb rfl
      replace Bl := Bl.ext hb rfl
      replace hw := hw.trans (hb.mono hw.size)
      go_wp2
      go_ret
      exact ⟨rfl, hw⟩

set_option maxRecDepth 100000 in
set_option maxHeartbeats 2000000 in
theorem rcuts_m1 (T : Tri3) (r : Rc) (at_ : Int) (h0 : win r = true) (h1 : (r.x1 == r.x0) = false) (hv : ovl T ⟨r.x0, r.y0, r.x0 + at_ % (r.x1 - r.x0) + 1, r.y1⟩ = true) (w : World) :
    Calls Try.prog 7 #[.agg #[.int .i64 T.A.x, .int .i64 T.A.y, .int .i64 T.B.x, .int .i64 T.B.y, .int .i64 T.C.x, .int .i64 T.C.y], .agg #[.int .i64 r.x0, .int .i64 r.y0, .int .i64 r.x1, .int .i64 r.y1], .int .i64 at_] w fun e w' => e = .returned (.bool true) ∧ Below w.heap.size w w' := by
  have c0 := rwin_any r
  rw [h0] at c0
  have hr := (win_iff r).1 h0
  have hne : r.x0 < r.x1 := by
    have : ¬ r.x1 = r.x0 := by simpa using h1
    omega
  have cr := round_gen (i := at_) (n := r.x1 - r.x0) (by omega) (by omega)
  have k0 : 0 ≤ at_ % (r.x1 - r.x0) := Int.emod_nonneg _ (by omega)
  have k1 : at_ % (r.x1 - r.x0) < r.x1 - r.x0 := Int.emod_lt_of_pos _ (by omega)
  generalize at_ % (r.x1 - r.x0) = K at *
  obtain ⟨M, hM⟩ : ∃ M, M = r.x0 + K := ⟨_, rfl⟩
  obtain ⟨wA, wA2⟩ := wrap_in (n := r.x1 - r.x0) (by omega)
  obtain ⟨wB, wB2⟩ : wrap64 (r.x0 + K) = M ∧ IntKind.i64.wrap (r.x0 + K) = M := by rw [hM]; exact wrap_in (by omega)
  obtain ⟨wC, wC2⟩ := wrap_in (n := M + 1) (by omega)
  rw [← hM] at hv
  have hc := cut_any (T := T) (m := M) h0 (by omega) (by omega)
  have co := ovl_any T r
  have cl := ovl_any T ⟨r.x0, r.y0, M + 1, r.y1⟩
  have cm := ovl_any T ⟨M, r.y0, r.x1, r.y1⟩
  simp only at cl cm
  rw [hc, hv, Bool.true_or] at co
  rw [hv] at cl
  clear hc hv hr h0 hM k0 k1 hne
  generalize ovl T ⟨M, r.y0, r.x1, r.y1⟩ = u at *
  go_enter Try.func7, Try.ntmps7
  go_wp2_with fail
  refine at_call fun W1 hW => ?_
  have Bt : Box W1 (w.heap.size) [.int .i64 T.A.x, .int .i64 T.A.y, .int .i64 T.B.x, .int .i64 T.B.y, .int .i64 T.C.x, .int .i64 T.C.y] 25 := by rw [hW]; exact (Box.new rfl).old _
  have Br : Box W1 (w.heap.size + 1) [.int .i64 r.x0, .int .i64 r.y0, .int .i64 r.x1, .int .i64 r.y1] 27 := by rw [hW]; exact Box.new (by simp)
  have hw : Below w.heap.size w W1 := by rw [hW]; go_grown
  clear hW
  refine (c0 _).mono ?_
  rintro e w2 ⟨rfl, hb⟩
  replace Bt := Bt.ext hb rfl
  replace Br := Br.ext hb rfl
  replace hw := hw.trans (hb.mono hw.size)
  clear hb
  obtain ⟨xt, yt, zt, vt⟩ := Bt.facts
  obtain ⟨xr, yr, zr, vr⟩ := Br.facts
  go_wp2_with fail
  refine at_world fun W3 hW => ?_
  replace hw : Below w.heap.size w W3 := by rw [hW]; exact hw
  replace Bt : Box W3 (w.heap.size) [.int .i64 T.A.x, .int .i64 T.A.y, .int .i64 T.B.x, .int .i64 T.B.y, .int .i64 T.C.x, .int .i64 T.C.y] 25 := by rw [hW]; exact Bt
  replace Br : Box W3 (w.heap.size + 1) [.int .i64 r.x0, .int .i64 r.y0, .int .i64 r.x1, .int .i64 r.y1] 27 := by rw [hW]; exact Br
  clear hW
  clear xt yt zt vt xr yr zr vr
  have gt := Bt.cells
  have gr := Br.cells
  refine wp_region_tail 10 (by kernel_rfl) (by kernel_rfl) (C := fun w' => ∃ p : Regrown, w' = grow (redrawn W3 p.d) p.os) (fun w' h => regrown_of_below h) ?_
  simp only [List.take_succ_cons, List.take_zero, List.drop_succ_cons, List.drop_zero]
  repeat (first | (refine rWalk_skip (Eq.refl false) ?_; simp only [Act.put, List.setIfInBounds_toArray, List.set_cons_succ, List.set_cons_zero]) | (refine rWalk_step (fun K hK => ?_); go_simp; first | (refine hK _ ?_; clear hK K) | (apply Exists.intro; refine ⟨fun _ => ?_, hK _ ?_⟩; (first | with_reducible exact toExt cr _); clear hK K)))
  refine rWalk_nil ?_
  intro w4 hb
  clear gt gr
  replace Bt := Bt.ext hb rfl
  replace Br := Br.ext hb rfl
  replace hw := hw.trans (hb.mono hw.size)
  clear cr
  obtain ⟨xt, yt, zt, vt⟩ := Bt.facts
  obtain ⟨xr, yr, zr, vr⟩ := Br.facts
  go_wp2_with fail
  refine at_world fun W5 hW => ?_
  replace hw : Below w.heap.size w W5 := by rw [hW]; exact hw
  replace Bt : Box W5 (w.heap.size) [.int .i64 T.A.x, .int .i64 T.A.y, .int .i64 T.B.x, .int .i64 T.B.y, .int .i64 T.C.x, .int .i64 T.C.y] 25 := by rw [hW]; exact Bt
  replace Br : Box W5 (w.heap.size + 1) [.int .i64 r.x0, .int .i64 r.y0, .int .i64 r.x1, .int .i64 r.y1] 27 := by rw [hW]; exact Br
  clear hW
  clear xt yt zt vt xr yr zr vr
  obtain ⟨xt, yt, zt, vt⟩ := Bt.facts
  obtain ⟨xr, yr, zr, vr⟩ := Br.facts
  go_region
  all_goals skip
  · go_wp2_with fail
    refine at_world fun W6 hW => ?_
    have lt := Bt.lt
    have lr := Br.lt
    have hl := hw.size
    have Ct : Box W6 (w.heap.size) [.int .i64 T.A.x, .int .i64 T.A.y, .int .i64 T.B.x, .int .i64 T.B.y, .int .i64 T.C.x, .int .i64 T.C.y] 25 := by rw [hW]; exact (Box.drew ((Bt.old _).old _))
    have Cr : Box W6 (w.heap.size + 1) [.int .i64 r.x0, .int .i64 r.y0, .int .i64 r.x1, .int .i64 r.y1] 27 := by rw [hW]; exact (Box.drew ((Br.old _).old _))
    have Bl : Box W6 (W5.heap.size) [.int .i64 r.x0, .int .i64 r.y0, .int .i64 (M + 1), .int .i64 r.y1] 27 := by rw [hW]; exact (Box.drew ((Box.new rfl).old _))
    have Bo : Box W6 (W5.heap.size + 1) [.int .i64 M, .int .i64 r.y0, .int .i64 r.x1, .int .i64 r.y1] 27 := by rw [hW]; exact (Box.drew (Box.new (by simp)))
    replace hw : Below w.heap.size w W6 := by rw [hW]; go_grown
    clear xt yt zt vt xr yr zr vr
    clear hW hl lt Bt lr Br
    have Bt := Ct
    clear Ct
    have Br := Cr
    clear Cr
    as_aux_lemma =>
      have gt := Bt.cells
      have gr := Br.cells
      have gl := Bl.cells
      have go := Bo.cells
      refine wp_region_tail 15 (by kernel_rfl) (by kernel_rfl) (C := fun w' => ∃ p : Regrown, w' = grow (redrawn W6 p.d) p.os) (fun w' h => regrown_of_below h) ?_
      simp only [List.take_succ_cons, List.take_zero, List.drop_succ_cons, List.drop_zero]
      repeat (first | (refine rWalk_skip (Eq.refl false) ?_; simp only [Act.put, List.setIfInBounds_toArray, List.set_cons_succ, List.set_cons_zero]) | (refine rWalk_step (fun K hK => ?_); go_simp; first | (refine hK _ ?_; clear hK K) | (apply Exists.intro; refine ⟨fun _ => ?_, hK _ ?_⟩; (first | with_reducible exact toExt co _ | with_reducible exact toExt cl _ | with_reducible exact toExt cm _ | with_reducible exact toExt awake4_any _); clear hK K)))
      refine rWalk_nil ?_
      intro w7 hb
      clear gt gr gl go
      replace Bt := Bt.ext hb rfl
      replace Br := Br.ext hb rfl
      replace Bl := Bl.ext hb rfl
      replace Bo := Bo.ext hb rfl
      replace hw := hw.trans (hb.mono hw.size)
      go_wp2
      go_ret
      exact ⟨rfl, hw⟩
  · go_wp2_with fail
    refine at_world fun W6 hW => ?_
    have lt := Bt.lt
    have lr := Br.lt
    have hl := hw.size
    have Ct : Box W6 (w.heap.size) [.int .i64 T.A.x, .int .i64 T.A.y, .int .i64 T.B.x, .int .i64 T.B.y, .int .i64 T.C.x, .int .i64 T.C.y] 25 := by rw [hW]; exact (Box.drew ((Bt.old _).old _))
    have Cr : Box W6 (w.heap.size + 1) [.int .i64 r.x0, .int .i64 r.y0, .int .i64 r.x1, .int .i64 r.y1] 27 := by rw [hW]; exact (Box.drew ((Br.old _).old _))
    have Bo : Box W6 (W5.heap.size) [.int .i64 M, .int .i64 r.y0, .int .i64 r.x1, .int .i64 r.y1] 27 := by rw [hW]; exact (Box.drew ((Box.new rfl).old _))
    have Bl : Box W6 (W5.heap.size + 1) [.int .i64 r.x0, .int .i64 r.y0, .int .i64 (M + 1), .int .i64 r.y1] 27 := by rw [hW]; exact (Box.drew (Box.new (by simp)))
    replace hw : Below w.heap.size w W6 := by rw [hW]; go_grown
    clear xt yt zt vt xr yr zr vr
    clear hW hl lt Bt lr Br
    have Bt := Ct
    clear Ct
    have Br := Cr
    clear Cr
    as_aux_lemma =>
      have gt := Bt.cells
      have gr := Br.cells
      have go := Bo.cells
      have gl := Bl.cells
      refine wp_region_tail 15 (by kernel_rfl) (by kernel_rfl) (C := fun w' => ∃ p : Regrown, w' = grow (redrawn W6 p.d) p.os) (fun w' h => regrown_of_below h) ?_
      simp only [List.take_succ_cons, List.take_zero, List.drop_succ_cons, List.drop_zero]
      repeat (first | (refine rWalk_skip (Eq.refl false) ?_; simp only [Act.put, List.setIfInBounds_toArray, List.set_cons_succ, List.set_cons_zero]) | (refine rWalk_step (fun K hK => ?_); go_simp; first | (refine hK _ ?_; clear hK K) | (apply Exists.intro; refine ⟨fun _ => ?_, hK _ ?_⟩; (first | with_reducible exact toExt co _ | with_reducible exact toExt cl _ | with_reducible exact toExt cm _ | with_reducible exact toExt awake4_any _); clear hK K)))
      refine rWalk_nil ?_
      intro w7 hb
      clear gt gr go gl
      replace Bt := Bt.ext hb rfl
      replace Br := Br.ext hb rfl
      replace Bo := Bo.ext hb rfl
      replace Bl := Bl.ext hb rfl
      replace hw := hw.trans (hb.mono hw.size)
      go_wp2
      go_ret
      exact ⟨rfl, hw⟩

theorem rcuts_law (T : Tri3) (r : Rc) (at_ : Int) (w : World) :
    Calls Try.prog 7 #[.agg #[.int .i64 T.A.x, .int .i64 T.A.y, .int .i64 T.B.x, .int .i64 T.B.y, .int .i64 T.C.x, .int .i64 T.C.y], .agg #[.int .i64 r.x0, .int .i64 r.y0, .int .i64 r.x1, .int .i64 r.y1], .int .i64 at_] w fun e w' => e = .returned (.bool true) ∧ Below w.heap.size w w' := by
  cases h0 : win r with
  | false => exact rcuts_0 T r at_ h0 w
  | true => cases h1 : (r.x1 == r.x0) with
    | true => exact rcuts_1 T r at_ h0 h1 w
    | false => cases hv : ovl T ⟨r.x0, r.y0, r.x0 + at_ % (r.x1 - r.x0) + 1, r.y1⟩ with
      | false => exact rcuts_m0 T r at_ h0 h1 hv w
      | true => exact rcuts_m1 T r at_ h0 h1 hv w
set_option maxRecDepth 100000 in
theorem reachCuts_lifted (os : Os) (started : os.Started) (H : Type) (enc : TypeId × Value → H) :
    ReturnsInHanded {} Try.checked os 7 .any (Rows.reachCutsSpec.pre6 enc Try.prog Try.f7 Rows.reachCutsRow.domain false) (Rows.reachCutsSpec.post enc Try.prog Try.f7 false true false false) := by
  refine returnsInHanded_of_change (C := Try.checked) Try.own started (by kernel_rfl) Try.func7
    (ChangeSpec.witness6 (enc := enc) (C := Try.checked) false ⟨#[], #[.agg #[.int .i64 0, .int .i64 0, .int .i64 0, .int .i64 0, .int .i64 0, .int .i64 0], .agg #[.int .i64 0, .int .i64 0, .int .i64 0, .int .i64 0], .int .i64 0], []⟩ 8 (by kernel_rfl) (by kernel_rfl) (by kernel_rfl) (by kernel_rfl)) ?_
  intro W base args ds gs before hval0 hW hcnd _
  have hval : ∀ (j : Nat) t v, Try.f7.params[j]? = some t → args[j]? = some v → Value.okWide Try.prog W .any base t v := hval0
  have hW' := hW
  obtain ⟨p, q, hA0, hV, rfl, hfz, hnd⟩ := hW
  have hA : DataW.TrodAll enc Try.prog W 0 (fun _ => true) true Try.f7.params.toList args.toList ds p := hA0
  rw [Try.params7] at hA hval
  obtain ⟨v0, v1, v2, d0, d1, d2, q0, q1, q2, rfl, rfl, rfl, p0, p1, p2⟩ := trodAll_three hA
  obtain ⟨rfl, rfl⟩ := trodVars_none hV
  obtain ⟨T, rfl, rfl, rfl, kT⟩ := open_tri (hval 0 25 v0 rfl rfl) p0
  obtain ⟨r, rfl, rfl, rfl, kr⟩ := open_rc (hval 1 27 v1 rfl rfl) p1
  obtain ⟨at_, rfl, rfl, rfl, wat_⟩ := open_int Try.underlying3 (hval 2 3 v2 rfl rfl) p2
  clear hA0 hval0
  simp only [List.append_nil] at hW'
  refine (rcuts_law T r at_ W).mono fun e W' ⟨he, hb⟩ => ?_
  subst he
  exact ⟨_, rfl, post_of_below (pa := []) (pv := []) hW' (fun _ _ _ => trodAll_mk1 (shut_bool Try.underlying4 true)) (fun sp _ => trodAll_mk3 (shut_tri kT) (shut_rc kr) (shut_int Try.underlying3 wat_)) (fun _ _ => rfl) rfl hb (ok_one (by kernel_rfl) rfl (okWide_bool_mk Try.underlying4 true))⟩
/-- The law ReachCuts holds of every input. -/
theorem reachCuts_holds : Rows.ReachCutsSaid :=
  OpenClaim.holds_of_wide 7 Try.f7 rfl rfl rfl rfl rfl rfl rfl ⟨rfl, rfl, rfl, rfl, rfl⟩ rfl rfl rfl rfl rfl (by kernel_rfl) Try.func7 (by kernel_rfl)
    (of_decide_eq_true (by kernel_rfl)) (by unfold Func.isWrapper; rw [if_neg (of_decide_eq_false (by kernel_rfl))]; exact ⟨rfl, rfl⟩)
    (fun os started H enc _ => reachCuts_lifted os started H enc)
end Go.Proofs.Ytomdlhdpbdkdhaa
