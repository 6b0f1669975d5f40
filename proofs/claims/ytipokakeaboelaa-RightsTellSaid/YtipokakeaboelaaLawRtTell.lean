/- Of any rights whether they may be, are among others, suffice, and are written, and of two capabilities which is narrower, is as the document says: the law RightsTell of package hectarelaw15 answers true at every input; no conditions. -/
import Derived.Test.YtipokakeaboelaaRows
import Derived.Test.YtipokakeaboelaaRtB
import Derived.Test.YtipokakeaboelaaRtD
import Derived.Test.YtipokakeaboelaaRtE
import Derived.Test.YtipokakeaboelaaPost
import Derived.WalkKit
import Derived.WalkSpells
import Derived.WalkLawsBesides
import Derived.Laws.Externs
import Derived.Deep.QuietTactic
import Derived.BigQuiet
import Derived.Lib.Hide
import Derived.Handy
import Derived.Carry
import Derived.ProofKit
import Derived.Lib.SmallJoins
import Derived.Lib.Strings
namespace Go.Proofs.Ytipokakeaboelaa
open Go.RowKit Go.Sort Go.ChangeShapes Go.WideShapes Go.ChangeAt
attribute [local go_sem] rOper rAt rUpon cell_set sg_i64 sg_u64 alloc_cell alloc_frozen
attribute [local irreducible] rWalk

theorem bt_shr {r : Int} (h0 : 0 ≤ r) (h1 : r ≤ 15) (k : Nat) (hk : k < 4) : (bits .and .i64 (r / 2 ^ k) 1 == 1) = bt r k := by
  rcases (by omega : r = 0 ∨ r = 1 ∨ r = 2 ∨ r = 3 ∨ r = 4 ∨ r = 5 ∨ r = 6 ∨ r = 7 ∨ r = 8 ∨ r = 9 ∨ r = 10 ∨ r = 11 ∨ r = 12 ∨ r = 13 ∨ r = 14 ∨ r = 15) with rfl | rfl | rfl | rfl | rfl | rfl | rfl | rfl | rfl | rfl | rfl | rfl | rfl | rfl | rfl | rfl <;>
    (rcases (by omega : k = 0 ∨ k = 1 ∨ k = 2 ∨ k = 3) with rfl | rfl | rfl | rfl <;> decide +kernel)
set_option maxRecDepth 100000 in
set_option maxHeartbeats 2000000 in
theorem te_neg (r of_ m : Int) (c p : Cp) (hr : rng r) (ho : rng of_) (_hm : rng m) (hc : rng c.r) (hp : rng p.r) (d0 : decide (r ≥ 0) = false) (w : World) :
    Calls Try.prog 3 #[.int .i64 r, .int .i64 of_, .int .i64 m, .agg #[.int .i64 c.p, .int .i64 c.i, .int .i64 c.n, .int .i64 c.h, .int .i64 c.l, .int .i64 c.r, .int .i64 c.u, .int .i64 c.fi, .int .i64 c.fn], .agg #[.int .i64 p.p, .int .i64 p.i, .int .i64 p.n, .int .i64 p.h, .int .i64 p.l, .int .i64 p.r, .int .i64 p.u, .int .i64 p.fi, .int .i64 p.fn]] w fun e w' => e = .returned (.bool true) ∧ Below w.heap.size w w' := by
  have ek : kn r = false := by unfold kn; simp at d0  ⊢; omega
  have ev : vR r = false := by unfold vR; simp at d0  ⊢; omega
  have k1 := valid_any hr
  rw [ev] at k1
  have k2 := rvalid_any r
  rw [ev] at k2
  have k4 := within_any hr ho
  rw [show wR r of_ = false by unfold wR; rw [ev]; rfl] at k4
  have k5 := can_any (m := m) hr
  rw [show caR r m = false by unfold caR; rw [ek]; rfl] at k5
  have k6 := text_any hr
  rw [show txt r = ⟨#[]⟩ by unfold txt; rw [ek]; rfl] at k6
  have k7 := nar_any c p hc hp
  have k8 := rnr_any c p
  generalize nar c p = NV at k7 k8
  clear ek ev hr ho _hm hc hp
  have z0 : (r == 0) = false := by simp at d0  ⊢; omega
  go_enter Try.func3, Try.ntmps3
  go_wp2_with fail
  refine at_world fun W1 hW => ?_
  have Bc : Box W1 (w.heap.size) [.int .i64 c.p, .int .i64 c.i, .int .i64 c.n, .int .i64 c.h, .int .i64 c.l, .int .i64 c.r, .int .i64 c.u, .int .i64 c.fi, .int .i64 c.fn] 23 := by rw [hW]; exact (Box.new rfl).old _
  have Bp : Box W1 (w.heap.size + 1) [.int .i64 p.p, .int .i64 p.i, .int .i64 p.n, .int .i64 p.h, .int .i64 p.l, .int .i64 p.r, .int .i64 p.u, .int .i64 p.fi, .int .i64 p.fn] 23 := by rw [hW]; exact Box.new (by simp)
  have hw : Below w.heap.size w W1 := by rw [hW]; go_grown
  clear hW
  obtain ⟨xc, yc, zc, vc⟩ := Bc.facts
  obtain ⟨xp, yp, zp, vp⟩ := Bp.facts
  go_loop [12, 13] (fun t i => t = .string ⟨#[]⟩ ∧ i = .int .i64 0) (fun _ _ => 0)
  case atStart => exact ⟨rfl, rfl⟩
  case round =>
    obtain ⟨rfl, rfl⟩ := hrel
    go_wp2_with fail
    refine (k2 _).mono ?_
    rintro e w2 ⟨rfl, hb⟩
    clear xc yc zc vc xp yp zp vp
    replace Bc := Bc.ext hb rfl
    replace Bp := Bp.ext hb rfl
    replace hw := hw.trans (hb.mono hw.size)
    clear hb
    obtain ⟨xc, yc, zc, vc⟩ := Bc.facts
    obtain ⟨xp, yp, zp, vp⟩ := Bp.facts
    go_wp2_with fail
    refine at_world fun W3 hW => ?_
    replace hw : Below w.heap.size w W3 := by rw [hW]; exact hw
    replace Bc : Box W3 (w.heap.size) [.int .i64 c.p, .int .i64 c.i, .int .i64 c.n, .int .i64 c.h, .int .i64 c.l, .int .i64 c.r, .int .i64 c.u, .int .i64 c.fi, .int .i64 c.fn] 23 := by rw [hW]; exact Bc
    replace Bp : Box W3 (w.heap.size + 1) [.int .i64 p.p, .int .i64 p.i, .int .i64 p.n, .int .i64 p.h, .int .i64 p.l, .int .i64 p.r, .int .i64 p.u, .int .i64 p.fi, .int .i64 p.fn] 23 := by rw [hW]; exact Bp
    clear hW
    clear xc yc zc vc xp yp zp vp
    have gc := Bc.cells
    have gp := Bp.cells
    refine wp_region_tail 43 (by kernel_rfl) (by kernel_rfl) (C := fun w' => ∃ p : Regrown, w' = grow (redrawn W3 p.d) p.os) (fun w' h => regrown_of_below h) ?_
    simp only [List.take_succ_cons, List.take_zero, List.drop_succ_cons, List.drop_zero]
    repeat (first | (refine rWalk_skip (Eq.refl false) ?_; simp only [Act.put, List.setIfInBounds_toArray, List.set_cons_succ, List.set_cons_zero]) | (refine rWalk_step (fun K hK => ?_); go_simp; first | (refine hK _ ?_; clear hK K) | (apply Exists.intro; refine ⟨fun _ => ?_, hK _ ?_⟩; (first | with_reducible exact toExt k1 _ | with_reducible exact toExt k2 _ | with_reducible exact toExt k4 _ | with_reducible exact toExt k5 _ | with_reducible exact toExt k6 _ | with_reducible exact toExt k7 _ | with_reducible exact toExt k8 _ | with_reducible exact toExt awake_any _); clear hK K)))
    refine rWalk_nil ?_
    intro w4 hb
    clear gc gp
    replace Bc := Bc.ext hb rfl
    replace Bp := Bp.ext hb rfl
    replace hw := hw.trans (hb.mono hw.size)
    go_wp2
    go_ret
    exact ⟨rfl, hw⟩
set_option maxRecDepth 100000 in
set_option maxHeartbeats 2000000 in
theorem te_big (r of_ m : Int) (c p : Cp) (hr : rng r) (ho : rng of_) (_hm : rng m) (hc : rng c.r) (hp : rng p.r) (d0 : decide (r ≥ 0) = true) (d1 : decide (r ≤ 15) = false) (w : World) :
    Calls Try.prog 3 #[.int .i64 r, .int .i64 of_, .int .i64 m, .agg #[.int .i64 c.p, .int .i64 c.i, .int .i64 c.n, .int .i64 c.h, .int .i64 c.l, .int .i64 c.r, .int .i64 c.u, .int .i64 c.fi, .int .i64 c.fn], .agg #[.int .i64 p.p, .int .i64 p.i, .int .i64 p.n, .int .i64 p.h, .int .i64 p.l, .int .i64 p.r, .int .i64 p.u, .int .i64 p.fi, .int .i64 p.fn]] w fun e w' => e = .returned (.bool true) ∧ Below w.heap.size w w' := by
  have ek : kn r = false := by unfold kn; simp at d0 d1 ⊢; omega
  have ev : vR r = false := by unfold vR; simp at d0 d1 ⊢; omega
  have k1 := valid_any hr
  rw [ev] at k1
  have k2 := rvalid_any r
  rw [ev] at k2
  have k4 := within_any hr ho
  rw [show wR r of_ = false by unfold wR; rw [ev]; rfl] at k4
  have k5 := can_any (m := m) hr
  rw [show caR r m = false by unfold caR; rw [ek]; rfl] at k5
  have k6 := text_any hr
  rw [show txt r = ⟨#[]⟩ by unfold txt; rw [ek]; rfl] at k6
  have k7 := nar_any c p hc hp
  have k8 := rnr_any c p
  generalize nar c p = NV at k7 k8
  clear ek ev hr ho _hm hc hp
  have z0 : (r == 0) = false := by simp at d0 d1 ⊢; omega
  go_enter Try.func3, Try.ntmps3
  go_wp2_with fail
  refine at_world fun W1 hW => ?_
  have Bc : Box W1 (w.heap.size) [.int .i64 c.p, .int .i64 c.i, .int .i64 c.n, .int .i64 c.h, .int .i64 c.l, .int .i64 c.r, .int .i64 c.u, .int .i64 c.fi, .int .i64 c.fn] 23 := by rw [hW]; exact (Box.new rfl).old _
  have Bp : Box W1 (w.heap.size + 1) [.int .i64 p.p, .int .i64 p.i, .int .i64 p.n, .int .i64 p.h, .int .i64 p.l, .int .i64 p.r, .int .i64 p.u, .int .i64 p.fi, .int .i64 p.fn] 23 := by rw [hW]; exact Box.new (by simp)
  have hw : Below w.heap.size w W1 := by rw [hW]; go_grown
  clear hW
  obtain ⟨xc, yc, zc, vc⟩ := Bc.facts
  obtain ⟨xp, yp, zp, vp⟩ := Bp.facts
  go_loop [12, 13] (fun t i => t = .string ⟨#[]⟩ ∧ i = .int .i64 0) (fun _ _ => 0)
  case atStart => exact ⟨rfl, rfl⟩
  case round =>
    obtain ⟨rfl, rfl⟩ := hrel
    go_wp2_with fail
    refine (k2 _).mono ?_
    rintro e w2 ⟨rfl, hb⟩
    clear xc yc zc vc xp yp zp vp
    replace Bc := Bc.ext hb rfl
    replace Bp := Bp.ext hb rfl
    replace hw := hw.trans (hb.mono hw.size)
    clear hb
    obtain ⟨xc, yc, zc, vc⟩ := Bc.facts
    obtain ⟨xp, yp, zp, vp⟩ := Bp.facts
    go_wp2_with fail
    refine at_world fun W3 hW => ?_
    replace hw : Below w.heap.size w W3 := by rw [hW]; exact hw
    replace Bc : Box W3 (w.heap.size) [.int .i64 c.p, .int .i64 c.i, .int .i64 c.n, .int .i64 c.h, .int .i64 c.l, .int .i64 c.r, .int .i64 c.u, .int .i64 c.fi, .int .i64 c.fn] 23 := by rw [hW]; exact Bc
    replace Bp : Box W3 (w.heap.size + 1) [.int .i64 p.p, .int .i64 p.i, .int .i64 p.n, .int .i64 p.h, .int .i64 p.l, .int .i64 p.r, .int .i64 p.u, .int .i64 p.fi, .int .i64 p.fn] 23 := by rw [hW]; exact Bp
    clear hW
    clear xc yc zc vc xp yp zp vp
    have gc := Bc.cells
    have gp := Bp.cells
    refine wp_region_tail 43 (by kernel_rfl) (by kernel_rfl) (C := fun w' => ∃ p : Regrown, w' = grow (redrawn W3 p.d) p.os) (fun w' h => regrown_of_below h) ?_
    simp only [List.take_succ_cons, List.take_zero, List.drop_succ_cons, List.drop_zero]
    repeat (first | (refine rWalk_skip (Eq.refl false) ?_; simp only [Act.put, List.setIfInBounds_toArray, List.set_cons_succ, List.set_cons_zero]) | (refine rWalk_step (fun K hK => ?_); go_simp; first | (refine hK _ ?_; clear hK K) | (apply Exists.intro; refine ⟨fun _ => ?_, hK _ ?_⟩; (first | with_reducible exact toExt k1 _ | with_reducible exact toExt k2 _ | with_reducible exact toExt k4 _ | with_reducible exact toExt k5 _ | with_reducible exact toExt k6 _ | with_reducible exact toExt k7 _ | with_reducible exact toExt k8 _ | with_reducible exact toExt awake_any _); clear hK K)))
    refine rWalk_nil ?_
    intro w4 hb
    clear gc gp
    replace Bc := Bc.ext hb rfl
    replace Bp := Bp.ext hb rfl
    replace hw := hw.trans (hb.mono hw.size)
    go_wp2
    go_ret
    exact ⟨rfl, hw⟩
set_option maxRecDepth 100000 in
set_option maxHeartbeats 2000000 in
theorem te_neg_z (r of_ m : Int) (c p : Cp) (hr : rng r) (ho : rng of_) (hm : rng m) (hc : rng c.r) (hp : rng p.r) (d0 : decide (r ≥ 0) = true) (d1 : decide (r ≤ 15) = true) (f0 : decide (m ≥ 0) = false) (z0 : (r == 0) = true) (w : World) :
    Calls Try.prog 3 #[.int .i64 r, .int .i64 of_, .int .i64 m, .agg #[.int .i64 c.p, .int .i64 c.i, .int .i64 c.n, .int .i64 c.h, .int .i64 c.l, .int .i64 c.r, .int .i64 c.u, .int .i64 c.fi, .int .i64 c.fn], .agg #[.int .i64 p.p, .int .i64 p.i, .int .i64 p.n, .int .i64 p.h, .int .i64 p.l, .int .i64 p.r, .int .i64 p.u, .int .i64 p.fi, .int .i64 p.fn]] w fun e w' => e = .returned (.bool true) ∧ Below w.heap.size w w' := by
  have D0 : 0 ≤ r := by simpa using d0
  have D1 : r ≤ 15 := by simpa using d1
  have ek : kn r = true := by unfold kn; rw [show decide (0 ≤ r) = true from d0, d1]; rfl
  have ev : vR r = false := by rw [show r = 0 by simpa using z0]; decide
  have k1 := valid_any hr
  rw [ev] at k1
  have k2 := rvalid_any r
  rw [ev] at k2
  have k4 := within_any hr ho
  rw [show wR r of_ = false by unfold wR; rw [ev]; rfl] at k4
  have k5 := can_any (m := m) hr
  rw [show caR r m = false by
    unfold caR
    rw [ek, Bool.true_and]
    cases hz : zR m r with
    | false => rfl
    | true =>
      have := kn_of hm.1 hm.2 hr.1 hr.2 ek hz
      unfold kn at this
      simp at this f0
      omega] at k5
  have k6 := text_any hr
  rw [show txt r = ⟨#[45]⟩ by unfold txt; rw [ek, if_pos rfl, if_pos (by simpa using z0)]] at k6
  have k7 := nar_any c p hc hp
  have k8 := rnr_any c p
  generalize nar c p = NV at k7 k8
  clear ek ev hr ho hm hc hp
  go_enter Try.func3, Try.ntmps3
  go_wp2_with fail
  refine at_world fun W1 hW => ?_
  have Bc : Box W1 (w.heap.size) [.int .i64 c.p, .int .i64 c.i, .int .i64 c.n, .int .i64 c.h, .int .i64 c.l, .int .i64 c.r, .int .i64 c.u, .int .i64 c.fi, .int .i64 c.fn] 23 := by rw [hW]; exact (Box.new rfl).old _
  have Bp : Box W1 (w.heap.size + 1) [.int .i64 p.p, .int .i64 p.i, .int .i64 p.n, .int .i64 p.h, .int .i64 p.l, .int .i64 p.r, .int .i64 p.u, .int .i64 p.fi, .int .i64 p.fn] 23 := by rw [hW]; exact Box.new (by simp)
  have hw : Below w.heap.size w W1 := by rw [hW]; go_grown
  clear hW
  obtain ⟨xc, yc, zc, vc⟩ := Bc.facts
  obtain ⟨xp, yp, zp, vp⟩ := Bp.facts
  go_loop [12, 13] (fun t i => ∃ k : Nat, k ≤ 4 ∧ i = .int .i64 k ∧ t = .string (tx r k)) (fun _ i => 4 - (intOf i).toNat)
  case atStart => exact ⟨0, by omega, rfl, rfl⟩
  case round =>
    obtain ⟨k, hk, rfl, rfl⟩ := hrel
    have hs : ((tx r k).size : Int) ≤ 4 := by have := tx_size r k; omega
    rcases (by omega : k = 0 ∨ k = 1 ∨ k = 2 ∨ k = 3 ∨ k = 4) with rfl | rfl | rfl | rfl | rfl
    · have hb := bt_shr D0 D1 0 (by omega)
      simp only [Int.pow_zero, Int.ediv_one] at hb
      cases hb2 : bt r 0 with
      | false =>
        rw [hb2] at hb
        go_wp2
        all_goals go_round
        all_goals first | exact ⟨1, by omega, rfl, by rw [tx_no (k := 0) hb2]⟩ | simp [intOf]
      | true =>
        rw [hb2] at hb
        go_wp2
        all_goals go_round
        all_goals first | exact ⟨1, by omega, rfl, by rw [tx_yes (k := 0) hb2]; rfl⟩ | simp [intOf]
    · have hb : (bits .and .i64 (r / 2) 1 == 1) = bt r 1 := by rw [← bt_shr D0 D1 1 (by omega)]; rfl
      cases hb2 : bt r 1 with
      | false =>
        rw [hb2] at hb
        go_wp2
        all_goals go_round
        all_goals first | exact ⟨2, by omega, rfl, by rw [tx_no (k := 1) hb2]⟩ | simp [intOf]
      | true =>
        rw [hb2] at hb
        go_wp2
        all_goals go_round
        all_goals first | exact ⟨2, by omega, rfl, by rw [tx_yes (k := 1) hb2]; rfl⟩ | simp [intOf]
    · have hb : (bits .and .i64 (r / 4) 1 == 1) = bt r 2 := by rw [← bt_shr D0 D1 2 (by omega)]; rfl
      cases hb2 : bt r 2 with
      | false =>
        rw [hb2] at hb
        go_wp2
        all_goals go_round
        all_goals first | exact ⟨3, by omega, rfl, by rw [tx_no (k := 2) hb2]⟩ | simp [intOf]
      | true =>
        rw [hb2] at hb
        go_wp2
        all_goals go_round
        all_goals first | exact ⟨3, by omega, rfl, by rw [tx_yes (k := 2) hb2]; rfl⟩ | simp [intOf]
    · have hb : (bits .and .i64 (r / 8) 1 == 1) = bt r 3 := by rw [← bt_shr D0 D1 3 (by omega)]; rfl
      cases hb2 : bt r 3 with
      | false =>
        rw [hb2] at hb
        go_wp2
        all_goals go_round
        all_goals first | exact ⟨4, by omega, rfl, by rw [tx_no (k := 3) hb2]⟩ | simp [intOf]
      | true =>
        rw [hb2] at hb
        go_wp2
        all_goals go_round
        all_goals first | exact ⟨4, by omega, rfl, by rw [tx_yes (k := 3) hb2]; rfl⟩ | simp [intOf]
    · go_wp2_with fail
      refine (k2 _).mono ?_
      rintro e w2 ⟨rfl, hb⟩
      clear xc yc zc vc xp yp zp vp
      replace Bc := Bc.ext hb rfl
      replace Bp := Bp.ext hb rfl
      replace hw := hw.trans (hb.mono hw.size)
      clear hb
      obtain ⟨xc, yc, zc, vc⟩ := Bc.facts
      obtain ⟨xp, yp, zp, vp⟩ := Bp.facts
      go_wp2_with fail
      refine at_world fun W3 hW => ?_
      replace hw : Below w.heap.size w W3 := by rw [hW]; exact hw
      replace Bc : Box W3 (w.heap.size) [.int .i64 c.p, .int .i64 c.i, .int .i64 c.n, .int .i64 c.h, .int .i64 c.l, .int .i64 c.r, .int .i64 c.u, .int .i64 c.fi, .int .i64 c.fn] 23 := by rw [hW]; exact Bc
      replace Bp : Box W3 (w.heap.size + 1) [.int .i64 p.p, .int .i64 p.i, .int .i64 p.n, .int .i64 p.h, .int .i64 p.l, .int .i64 p.r, .int .i64 p.u, .int .i64 p.fi, .int .i64 p.fn] 23 := by rw [hW]; exact Bp
      clear hW
      clear xc yc zc vc xp yp zp vp
      have gc := Bc.cells
      have gp := Bp.cells
      refine wp_region_tail 43 (by kernel_rfl) (by kernel_rfl) (C := fun w' => ∃ p : Regrown, w' = grow (redrawn W3 p.d) p.os) (fun w' h => regrown_of_below h) ?_
      simp only [List.take_succ_cons, List.take_zero, List.drop_succ_cons, List.drop_zero]
      repeat (first | (refine rWalk_skip (Eq.refl false) ?_; simp only [Act.put, List.setIfInBounds_toArray, List.set_cons_succ, List.set_cons_zero]) | (refine rWalk_step (fun K hK => ?_); go_simp; first | (refine hK _ ?_; clear hK K) | (apply Exists.intro; refine ⟨fun _ => ?_, hK _ ?_⟩; (first | with_reducible exact toExt k1 _ | with_reducible exact toExt k2 _ | with_reducible exact toExt k4 _ | with_reducible exact toExt k5 _ | with_reducible exact toExt k6 _ | with_reducible exact toExt k7 _ | with_reducible exact toExt k8 _ | with_reducible exact toExt awake_any _); clear hK K)))
      refine rWalk_nil ?_
      intro w4 hb
      clear gc gp
      replace Bc := Bc.ext hb rfl
      replace Bp := Bp.ext hb rfl
      replace hw := hw.trans (hb.mono hw.size)
      go_wp2
      go_ret
      exact ⟨rfl, hw⟩
set_option maxRecDepth 100000 in
set_option maxHeartbeats 2000000 in
theorem te_neg_f (r of_ m : Int) (c p : Cp) (hr : rng r) (ho : rng of_) (hm : rng m) (hc : rng c.r) (hp : rng p.r) (d0 : decide (r ≥ 0) = true) (d1 : decide (r ≤ 15) = true) (f0 : decide (m ≥ 0) = false) (z0 : (r == 0) = false) (v0 : vR of_ = false) (w : World) :
    Calls Try.prog 3 #[.int .i64 r, .int .i64 of_, .int .i64 m, .agg #[.int .i64 c.p, .int .i64 c.i, .int .i64 c.n, .int .i64 c.h, .int .i64 c.l, .int .i64 c.r, .int .i64 c.u, .int .i64 c.fi, .int .i64 c.fn], .agg #[.int .i64 p.p, .int .i64 p.i, .int .i64 p.n, .int .i64 p.h, .int .i64 p.l, .int .i64 p.r, .int .i64 p.u, .int .i64 p.fi, .int .i64 p.fn]] w fun e w' => e = .returned (.bool true) ∧ Below w.heap.size w w' := by
  have D0 : 0 ≤ r := by simpa using d0
  have D1 : r ≤ 15 := by simpa using d1
  have ek : kn r = true := by unfold kn; rw [show decide (0 ≤ r) = true from d0, d1]; rfl
  have ev : vR r = true := by rw [vR_kn (by simpa using z0)]; exact ek
  have k1 := valid_any hr
  rw [ev] at k1
  have k2 := rvalid_any r
  rw [ev] at k2
  have k3 := rvalid_any of_
  rw [v0] at k3
  have k4 := within_any hr ho
  rw [show wR r of_ = false by unfold wR; rw [ev, v0]; rfl] at k4
  have k5 := can_any (m := m) hr
  rw [show caR r m = false by
    unfold caR
    rw [ek, Bool.true_and]
    cases hz : zR m r with
    | false => rfl
    | true =>
      have := kn_of hm.1 hm.2 hr.1 hr.2 ek hz
      unfold kn at this
      simp at this f0
      omega] at k5
  have k6 := text_any hr
  rw [show txt r = tx r 4 by unfold txt; rw [ek, if_pos rfl, if_neg (by simpa using z0)]] at k6
  have k7 := nar_any c p hc hp
  have k8 := rnr_any c p
  generalize nar c p = NV at k7 k8
  clear ek ev hr ho hm hc hp
  go_enter Try.func3, Try.ntmps3
  go_wp2_with fail
  refine at_world fun W1 hW => ?_
  have Bc : Box W1 (w.heap.size) [.int .i64 c.p, .int .i64 c.i, .int .i64 c.n, .int .i64 c.h, .int .i64 c.l, .int .i64 c.r, .int .i64 c.u, .int .i64 c.fi, .int .i64 c.fn] 23 := by rw [hW]; exact (Box.new rfl).old _
  have Bp : Box W1 (w.heap.size + 1) [.int .i64 p.p, .int .i64 p.i, .int .i64 p.n, .int .i64 p.h, .int .i64 p.l, .int .i64 p.r, .int .i64 p.u, .int .i64 p.fi, .int .i64 p.fn] 23 := by rw [hW]; exact Box.new (by simp)
  have hw : Below w.heap.size w W1 := by rw [hW]; go_grown
  clear hW
  obtain ⟨xc, yc, zc, vc⟩ := Bc.facts
  obtain ⟨xp, yp, zp, vp⟩ := Bp.facts
  go_loop [12, 13] (fun t i => ∃ k : Nat, k ≤ 4 ∧ i = .int .i64 k ∧ t = .string (tx r k)) (fun _ i => 4 - (intOf i).toNat)
  case atStart => exact ⟨0, by omega, rfl, rfl⟩
  case round =>
    obtain ⟨k, hk, rfl, rfl⟩ := hrel
    have hs : ((tx r k).size : Int) ≤ 4 := by have := tx_size r k; omega
    rcases (by omega : k = 0 ∨ k = 1 ∨ k = 2 ∨ k = 3 ∨ k = 4) with rfl | rfl | rfl | rfl | rfl
    · have hb := bt_shr D0 D1 0 (by omega)
      simp only [Int.pow_zero, Int.ediv_one] at hb
      cases hb2 : bt r 0 with
      | false =>
        rw [hb2] at hb
        go_wp2
        all_goals go_round
        all_goals first | exact ⟨1, by omega, rfl, by rw [tx_no (k := 0) hb2]⟩ | simp [intOf]
      | true =>
        rw [hb2] at hb
        go_wp2
        all_goals go_round
        all_goals first | exact ⟨1, by omega, rfl, by rw [tx_yes (k := 0) hb2]; rfl⟩ | simp [intOf]
    · have hb : (bits .and .i64 (r / 2) 1 == 1) = bt r 1 := by rw [← bt_shr D0 D1 1 (by omega)]; rfl
      cases hb2 : bt r 1 with
      | false =>
        rw [hb2] at hb
        go_wp2
        all_goals go_round
        all_goals first | exact ⟨2, by omega, rfl, by rw [tx_no (k := 1) hb2]⟩ | simp [intOf]
      | true =>
        rw [hb2] at hb
        go_wp2
        all_goals go_round
        all_goals first | exact ⟨2, by omega, rfl, by rw [tx_yes (k := 1) hb2]; rfl⟩ | simp [intOf]
    · have hb : (bits .and .i64 (r / 4) 1 == 1) = bt r 2 := by rw [← bt_shr D0 D1 2 (by omega)]; rfl
      cases hb2 : bt r 2 with
      | false =>
        rw [hb2] at hb
        go_wp2
        all_goals go_round
        all_goals first | exact ⟨3, by omega, rfl, by rw [tx_no (k := 2) hb2]⟩ | simp [intOf]
      | true =>
        rw [hb2] at hb
        go_wp2
        all_goals go_round
        all_goals first | exact ⟨3, by omega, rfl, by rw [tx_yes (k := 2) hb2]; rfl⟩ | simp [intOf]
    · have hb : (bits .and .i64 (r / 8) 1 == 1) = bt r 3 := by rw [← bt_shr D0 D1 3 (by omega)]; rfl
      cases hb2 : bt r 3 with
      | false =>
        rw [hb2] at hb
        go_wp2
        all_goals go_round
        all_goals first | exact ⟨4, by omega, rfl, by rw [tx_no (k := 3) hb2]⟩ | simp [intOf]
      | true =>
        rw [hb2] at hb
        go_wp2
        all_goals go_round
        all_goals first | exact ⟨4, by omega, rfl, by rw [tx_yes (k := 3) hb2]; rfl⟩ | simp [intOf]
    · go_wp2_with fail
      refine (k2 _).mono ?_
      rintro e w2 ⟨rfl, hb⟩
      clear xc yc zc vc xp yp zp vp
      replace Bc := Bc.ext hb rfl
      replace Bp := Bp.ext hb rfl
      replace hw := hw.trans (hb.mono hw.size)
      clear hb
      obtain ⟨xc, yc, zc, vc⟩ := Bc.facts
      obtain ⟨xp, yp, zp, vp⟩ := Bp.facts
      go_wp2_with fail
      refine (k3 _).mono ?_
      rintro e w3 ⟨rfl, hb⟩
      clear xc yc zc vc xp yp zp vp
      replace Bc := Bc.ext hb rfl
      replace Bp := Bp.ext hb rfl
      replace hw := hw.trans (hb.mono hw.size)
      clear hb
      obtain ⟨xc, yc, zc, vc⟩ := Bc.facts
      obtain ⟨xp, yp, zp, vp⟩ := Bp.facts
      go_wp2_with fail
      refine at_world fun W4 hW => ?_
      replace hw : Below w.heap.size w W4 := by rw [hW]; exact hw
      replace Bc : Box W4 (w.heap.size) [.int .i64 c.p, .int .i64 c.i, .int .i64 c.n, .int .i64 c.h, .int .i64 c.l, .int .i64 c.r, .int .i64 c.u, .int .i64 c.fi, .int .i64 c.fn] 23 := by rw [hW]; exact Bc
      replace Bp : Box W4 (w.heap.size + 1) [.int .i64 p.p, .int .i64 p.i, .int .i64 p.n, .int .i64 p.h, .int .i64 p.l, .int .i64 p.r, .int .i64 p.u, .int .i64 p.fi, .int .i64 p.fn] 23 := by rw [hW]; exact Bp
      clear hW
      clear xc yc zc vc xp yp zp vp
      have gc := Bc.cells
      have gp := Bp.cells
      refine wp_region_tail 43 (by kernel_rfl) (by kernel_rfl) (C := fun w' => ∃ p : Regrown, w' = grow (redrawn W4 p.d) p.os) (fun w' h => regrown_of_below h) ?_
      simp only [List.take_succ_cons, List.take_zero, List.drop_succ_cons, List.drop_zero]
      repeat (first | (refine rWalk_skip (Eq.refl false) ?_; simp only [Act.put, List.setIfInBounds_toArray, List.set_cons_succ, List.set_cons_zero]) | (refine rWalk_step (fun K hK => ?_); go_simp; first | (refine hK _ ?_; clear hK K) | (apply Exists.intro; refine ⟨fun _ => ?_, hK _ ?_⟩; (first | with_reducible exact toExt k1 _ | with_reducible exact toExt k2 _ | with_reducible exact toExt k4 _ | with_reducible exact toExt k5 _ | with_reducible exact toExt k6 _ | with_reducible exact toExt k7 _ | with_reducible exact toExt k8 _ | with_reducible exact toExt awake_any _); clear hK K)))
      refine rWalk_nil ?_
      intro w5 hb
      clear gc gp
      replace Bc := Bc.ext hb rfl
      replace Bp := Bp.ext hb rfl
      replace hw := hw.trans (hb.mono hw.size)
      go_wp2
      go_ret
      exact ⟨rfl, hw⟩
set_option maxRecDepth 100000 in
set_option maxHeartbeats 2000000 in
theorem te_neg_t (r of_ m : Int) (c p : Cp) (hr : rng r) (ho : rng of_) (hm : rng m) (hc : rng c.r) (hp : rng p.r) (d0 : decide (r ≥ 0) = true) (d1 : decide (r ≤ 15) = true) (f0 : decide (m ≥ 0) = false) (z0 : (r == 0) = false) (v0 : vR of_ = true) (w : World) :
    Calls Try.prog 3 #[.int .i64 r, .int .i64 of_, .int .i64 m, .agg #[.int .i64 c.p, .int .i64 c.i, .int .i64 c.n, .int .i64 c.h, .int .i64 c.l, .int .i64 c.r, .int .i64 c.u, .int .i64 c.fi, .int .i64 c.fn], .agg #[.int .i64 p.p, .int .i64 p.i, .int .i64 p.n, .int .i64 p.h, .int .i64 p.l, .int .i64 p.r, .int .i64 p.u, .int .i64 p.fi, .int .i64 p.fn]] w fun e w' => e = .returned (.bool true) ∧ Below w.heap.size w w' := by
  have D0 : 0 ≤ r := by simpa using d0
  have D1 : r ≤ 15 := by simpa using d1
  have ek : kn r = true := by unfold kn; rw [show decide (0 ≤ r) = true from d0, d1]; rfl
  have ev : vR r = true := by rw [vR_kn (by simpa using z0)]; exact ek
  have k1 := valid_any hr
  rw [ev] at k1
  have k2 := rvalid_any r
  rw [ev] at k2
  have k3 := rvalid_any of_
  rw [v0] at k3
  have k4 := within_any hr ho
  rw [show wR r of_ = (bits .andNot .i64 r of_ == 0) by unfold wR zR; rw [ev, v0]; rfl] at k4
  have k5 := can_any (m := m) hr
  rw [show caR r m = false by
    unfold caR
    rw [ek, Bool.true_and]
    cases hz : zR m r with
    | false => rfl
    | true =>
      have := kn_of hm.1 hm.2 hr.1 hr.2 ek hz
      unfold kn at this
      simp at this f0
      omega] at k5
  have k6 := text_any hr
  rw [show txt r = tx r 4 by unfold txt; rw [ek, if_pos rfl, if_neg (by simpa using z0)]] at k6
  have k7 := nar_any c p hc hp
  have k8 := rnr_any c p
  generalize nar c p = NV at k7 k8
  clear ek ev hr ho hm hc hp
  go_enter Try.func3, Try.ntmps3
  go_wp2_with fail
  refine at_world fun W1 hW => ?_
  have Bc : Box W1 (w.heap.size) [.int .i64 c.p, .int .i64 c.i, .int .i64 c.n, .int .i64 c.h, .int .i64 c.l, .int .i64 c.r, .int .i64 c.u, .int .i64 c.fi, .int .i64 c.fn] 23 := by rw [hW]; exact (Box.new rfl).old _
  have Bp : Box W1 (w.heap.size + 1) [.int .i64 p.p, .int .i64 p.i, .int .i64 p.n, .int .i64 p.h, .int .i64 p.l, .int .i64 p.r, .int .i64 p.u, .int .i64 p.fi, .int .i64 p.fn] 23 := by rw [hW]; exact Box.new (by simp)
  have hw : Below w.heap.size w W1 := by rw [hW]; go_grown
  clear hW
  obtain ⟨xc, yc, zc, vc⟩ := Bc.facts
  obtain ⟨xp, yp, zp, vp⟩ := Bp.facts
  go_loop [12, 13] (fun t i => ∃ k : Nat, k ≤ 4 ∧ i = .int .i64 k ∧ t = .string (tx r k)) (fun _ i => 4 - (intOf i).toNat)
  case atStart => exact ⟨0, by omega, rfl, rfl⟩
  case round =>
    obtain ⟨k, hk, rfl, rfl⟩ := hrel
    have hs : ((tx r k).size : Int) ≤ 4 := by have := tx_size r k; omega
    rcases (by omega : k = 0 ∨ k = 1 ∨ k = 2 ∨ k = 3 ∨ k = 4) with rfl | rfl | rfl | rfl | rfl
    · have hb := bt_shr D0 D1 0 (by omega)
      simp only [Int.pow_zero, Int.ediv_one] at hb
      cases hb2 : bt r 0 with
      | false =>
        rw [hb2] at hb
        go_wp2
        all_goals go_round
        all_goals first | exact ⟨1, by omega, rfl, by rw [tx_no (k := 0) hb2]⟩ | simp [intOf]
      | true =>
        rw [hb2] at hb
        go_wp2
        all_goals go_round
        all_goals first | exact ⟨1, by omega, rfl, by rw [tx_yes (k := 0) hb2]; rfl⟩ | simp [intOf]
    · have hb : (bits .and .i64 (r / 2) 1 == 1) = bt r 1 := by rw [← bt_shr D0 D1 1 (by omega)]; rfl
      cases hb2 : bt r 1 with
      | false =>
        rw [hb2] at hb
        go_wp2
        all_goals go_round
        all_goals first | exact ⟨2, by omega, rfl, by rw [tx_no (k := 1) hb2]⟩ | simp [intOf]
      | true =>
        rw [hb2] at hb
        go_wp2
        all_goals go_round
        all_goals first | exact ⟨2, by omega, rfl, by rw [tx_yes (k := 1) hb2]; rfl⟩ | simp [intOf]
    · have hb : (bits .and .i64 (r / 4) 1 == 1) = bt r 2 := by rw [← bt_shr D0 D1 2 (by omega)]; rfl
      cases hb2 : bt r 2 with
      | false =>
        rw [hb2] at hb
        go_wp2
        all_goals go_round
        all_goals first | exact ⟨3, by omega, rfl, by rw [tx_no (k := 2) hb2]⟩ | simp [intOf]
      | true =>
        rw [hb2] at hb
        go_wp2
        all_goals go_round
        all_goals first | exact ⟨3, by omega, rfl, by rw [tx_yes (k := 2) hb2]; rfl⟩ | simp [intOf]
    · have hb : (bits .and .i64 (r / 8) 1 == 1) = bt r 3 := by rw [← bt_shr D0 D1 3 (by omega)]; rfl
      cases hb2 : bt r 3 with
      | false =>
        rw [hb2] at hb
        go_wp2
        all_goals go_round
        all_goals first | exact ⟨4, by omega, rfl, by rw [tx_no (k := 3) hb2]⟩ | simp [intOf]
      | true =>
        rw [hb2] at hb
        go_wp2
        all_goals go_round
        all_goals first | exact ⟨4, by omega, rfl, by rw [tx_yes (k := 3) hb2]; rfl⟩ | simp [intOf]
    · go_wp2_with fail
      refine (k2 _).mono ?_
      rintro e w2 ⟨rfl, hb⟩
      clear xc yc zc vc xp yp zp vp
      replace Bc := Bc.ext hb rfl
      replace Bp := Bp.ext hb rfl
      replace hw := hw.trans (hb.mono hw.size)
      clear hb
      obtain ⟨xc, yc, zc, vc⟩ := Bc.facts
      obtain ⟨xp, yp, zp, vp⟩ := Bp.facts
      go_wp2_with fail
      refine (k3 _).mono ?_
      rintro e w3 ⟨rfl, hb⟩
      clear xc yc zc vc xp yp zp vp
      replace Bc := Bc.ext hb rfl
      replace Bp := Bp.ext hb rfl
      replace hw := hw.trans (hb.mono hw.size)
      clear hb
      obtain ⟨xc, yc, zc, vc⟩ := Bc.facts
      obtain ⟨xp, yp, zp, vp⟩ := Bp.facts
      go_wp2_with fail
      refine at_world fun W4 hW => ?_
      replace hw : Below w.heap.size w W4 := by rw [hW]; exact hw
      replace Bc : Box W4 (w.heap.size) [.int .i64 c.p, .int .i64 c.i, .int .i64 c.n, .int .i64 c.h, .int .i64 c.l, .int .i64 c.r, .int .i64 c.u, .int .i64 c.fi, .int .i64 c.fn] 23 := by rw [hW]; exact Bc
      replace Bp : Box W4 (w.heap.size + 1) [.int .i64 p.p, .int .i64 p.i, .int .i64 p.n, .int .i64 p.h, .int .i64 p.l, .int .i64 p.r, .int .i64 p.u, .int .i64 p.fi, .int .i64 p.fn] 23 := by rw [hW]; exact Bp
      clear hW
      clear xc yc zc vc xp yp zp vp
      have gc := Bc.cells
      have gp := Bp.cells
      refine wp_region_tail 43 (by kernel_rfl) (by kernel_rfl) (C := fun w' => ∃ p : Regrown, w' = grow (redrawn W4 p.d) p.os) (fun w' h => regrown_of_below h) ?_
      simp only [List.take_succ_cons, List.take_zero, List.drop_succ_cons, List.drop_zero]
      repeat (first | (refine rWalk_skip (Eq.refl false) ?_; simp only [Act.put, List.setIfInBounds_toArray, List.set_cons_succ, List.set_cons_zero]) | (refine rWalk_step (fun K hK => ?_); go_simp; first | (refine hK _ ?_; clear hK K) | (apply Exists.intro; refine ⟨fun _ => ?_, hK _ ?_⟩; (first | with_reducible exact toExt k1 _ | with_reducible exact toExt k2 _ | with_reducible exact toExt k4 _ | with_reducible exact toExt k5 _ | with_reducible exact toExt k6 _ | with_reducible exact toExt k7 _ | with_reducible exact toExt k8 _ | with_reducible exact toExt awake_any _); clear hK K)))
      refine rWalk_nil ?_
      intro w5 hb
      clear gc gp
      replace Bc := Bc.ext hb rfl
      replace Bp := Bp.ext hb rfl
      replace hw := hw.trans (hb.mono hw.size)
      go_wp2
      go_ret
      exact ⟨rfl, hw⟩
set_option maxRecDepth 100000 in
set_option maxHeartbeats 2000000 in
theorem te_big_z (r of_ m : Int) (c p : Cp) (hr : rng r) (ho : rng of_) (hm : rng m) (hc : rng c.r) (hp : rng p.r) (d0 : decide (r ≥ 0) = true) (d1 : decide (r ≤ 15) = true) (f0 : decide (m ≥ 0) = true) (f1 : decide (m ≤ 15) = false) (z0 : (r == 0) = true) (w : World) :
    Calls Try.prog 3 #[.int .i64 r, .int .i64 of_, .int .i64 m, .agg #[.int .i64 c.p, .int .i64 c.i, .int .i64 c.n, .int .i64 c.h, .int .i64 c.l, .int .i64 c.r, .int .i64 c.u, .int .i64 c.fi, .int .i64 c.fn], .agg #[.int .i64 p.p, .int .i64 p.i, .int .i64 p.n, .int .i64 p.h, .int .i64 p.l, .int .i64 p.r, .int .i64 p.u, .int .i64 p.fi, .int .i64 p.fn]] w fun e w' => e = .returned (.bool true) ∧ Below w.heap.size w w' := by
  have D0 : 0 ≤ r := by simpa using d0
  have D1 : r ≤ 15 := by simpa using d1
  have ek : kn r = true := by unfold kn; rw [show decide (0 ≤ r) = true from d0, d1]; rfl
  have ev : vR r = false := by rw [show r = 0 by simpa using z0]; decide
  have k1 := valid_any hr
  rw [ev] at k1
  have k2 := rvalid_any r
  rw [ev] at k2
  have k4 := within_any hr ho
  rw [show wR r of_ = false by unfold wR; rw [ev]; rfl] at k4
  have k5 := can_any (m := m) hr
  rw [show caR r m = false by
    unfold caR
    rw [ek, Bool.true_and]
    cases hz : zR m r with
    | false => rfl
    | true =>
      have := kn_of hm.1 hm.2 hr.1 hr.2 ek hz
      unfold kn at this
      simp at this f0 f1
      omega] at k5
  have k6 := text_any hr
  rw [show txt r = ⟨#[45]⟩ by unfold txt; rw [ek, if_pos rfl, if_pos (by simpa using z0)]] at k6
  have k7 := nar_any c p hc hp
  have k8 := rnr_any c p
  generalize nar c p = NV at k7 k8
  clear ek ev hr ho hm hc hp
  go_enter Try.func3, Try.ntmps3
  go_wp2_with fail
  refine at_world fun W1 hW => ?_
  have Bc : Box W1 (w.heap.size) [.int .i64 c.p, .int .i64 c.i, .int .i64 c.n, .int .i64 c.h, .int .i64 c.l, .int .i64 c.r, .int .i64 c.u, .int .i64 c.fi, .int .i64 c.fn] 23 := by rw [hW]; exact (Box.new rfl).old _
  have Bp : Box W1 (w.heap.size + 1) [.int .i64 p.p, .int .i64 p.i, .int .i64 p.n, .int .i64 p.h, .int .i64 p.l, .int .i64 p.r, .int .i64 p.u, .int .i64 p.fi, .int .i64 p.fn] 23 := by rw [hW]; exact Box.new (by simp)
  have hw : Below w.heap.size w W1 := by rw [hW]; go_grown
  clear hW
  obtain ⟨xc, yc, zc, vc⟩ := Bc.facts
  obtain ⟨xp, yp, zp, vp⟩ := Bp.facts
  go_loop [12, 13] (fun t i => ∃ k : Nat, k ≤ 4 ∧ i = .int .i64 k ∧ t = .string (tx r k)) (fun _ i => 4 - (intOf i).toNat)
  case atStart => exact ⟨0, by omega, rfl, rfl⟩
  case round =>
    obtain ⟨k, hk, rfl, rfl⟩ := hrel
    have hs : ((tx r k).size : Int) ≤ 4 := by have := tx_size r k; omega
    rcases (by omega : k = 0 ∨ k = 1 ∨ k = 2 ∨ k = 3 ∨ k = 4) with rfl | rfl | rfl | rfl | rfl
    · have hb := bt_shr D0 D1 0 (by omega)
      simp only [Int.pow_zero, Int.ediv_one] at hb
      cases hb2 : bt r 0 with
      | false =>
        rw [hb2] at hb
        go_wp2
        all_goals go_round
        all_goals first | exact ⟨1, by omega, rfl, by rw [tx_no (k := 0) hb2]⟩ | simp [intOf]
      | true =>
        rw [hb2] at hb
        go_wp2
        all_goals go_round
        all_goals first | exact ⟨1, by omega, rfl, by rw [tx_yes (k := 0) hb2]; rfl⟩ | simp [intOf]
    · have hb : (bits .and .i64 (r / 2) 1 == 1) = bt r 1 := by rw [← bt_shr D0 D1 1 (by omega)]; rfl
      cases hb2 : bt r 1 with
      | false =>
        rw [hb2] at hb
        go_wp2
        all_goals go_round
        all_goals first | exact ⟨2, by omega, rfl, by rw [tx_no (k := 1) hb2]⟩ | simp [intOf]
      | true =>
        rw [hb2] at hb
        go_wp2
        all_goals go_round
        all_goals first | exact ⟨2, by omega, rfl, by rw [tx_yes (k := 1) hb2]; rfl⟩ | simp [intOf]
    · have hb : (bits .and .i64 (r / 4) 1 == 1) = bt r 2 := by rw [← bt_shr D0 D1 2 (by omega)]; rfl
      cases hb2 : bt r 2 with
      | false =>
        rw [hb2] at hb
        go_wp2
        all_goals go_round
        all_goals first | exact ⟨3, by omega, rfl, by rw [tx_no (k := 2) hb2]⟩ | simp [intOf]
      | true =>
        rw [hb2] at hb
        go_wp2
        all_goals go_round
        all_goals first | exact ⟨3, by omega, rfl, by rw [tx_yes (k := 2) hb2]; rfl⟩ | simp [intOf]
    · have hb : (bits .and .i64 (r / 8) 1 == 1) = bt r 3 := by rw [← bt_shr D0 D1 3 (by omega)]; rfl
      cases hb2 : bt r 3 with
      | false =>
        rw [hb2] at hb
        go_wp2
        all_goals go_round
        all_goals first | exact ⟨4, by omega, rfl, by rw [tx_no (k := 3) hb2]⟩ | simp [intOf]
      | true =>
        rw [hb2] at hb
        go_wp2
        all_goals go_round
        all_goals first | exact ⟨4, by omega, rfl, by rw [tx_yes (k := 3) hb2]; rfl⟩ | simp [intOf]
    · go_wp2_with fail
      refine (k2 _).mono ?_
      rintro e w2 ⟨rfl, hb⟩
      clear xc yc zc vc xp yp zp vp
      replace Bc := Bc.ext hb rfl
      replace Bp := Bp.ext hb rfl
      replace hw := hw.trans (hb.mono hw.size)
      clear hb
      obtain ⟨xc, yc, zc, vc⟩ := Bc.facts
      obtain ⟨xp, yp, zp, vp⟩ := Bp.facts
      go_wp2_with fail
      refine at_world fun W3 hW => ?_
      replace hw : Below w.heap.size w W3 := by rw [hW]; exact hw
      replace Bc : Box W3 (w.heap.size) [.int .i64 c.p, .int .i64 c.i, .int .i64 c.n, .int .i64 c.h, .int .i64 c.l, .int .i64 c.r, .int .i64 c.u, .int .i64 c.fi, .int .i64 c.fn] 23 := by rw [hW]; exact Bc
      replace Bp : Box W3 (w.heap.size + 1) [.int .i64 p.p, .int .i64 p.i, .int .i64 p.n, .int .i64 p.h, .int .i64 p.l, .int .i64 p.r, .int .i64 p.u, .int .i64 p.fi, .int .i64 p.fn] 23 := by rw [hW]; exact Bp
      clear hW
      clear xc yc zc vc xp yp zp vp
      have gc := Bc.cells
      have gp := Bp.cells
      refine wp_region_tail 43 (by kernel_rfl) (by kernel_rfl) (C := fun w' => ∃ p : Regrown, w' = grow (redrawn W3 p.d) p.os) (fun w' h => regrown_of_below h) ?_
      simp only [List.take_succ_cons, List.take_zero, List.drop_succ_cons, List.drop_zero]
      repeat (first | (refine rWalk_skip (Eq.refl false) ?_; simp only [Act.put, List.setIfInBounds_toArray, List.set_cons_succ, List.set_cons_zero]) | (refine rWalk_step (fun K hK => ?_); go_simp; first | (refine hK _ ?_; clear hK K) | (apply Exists.intro; refine ⟨fun _ => ?_, hK _ ?_⟩; (first | with_reducible exact toExt k1 _ | with_reducible exact toExt k2 _ | with_reducible exact toExt k4 _ | with_reducible exact toExt k5 _ | with_reducible exact toExt k6 _ | with_reducible exact toExt k7 _ | with_reducible exact toExt k8 _ | with_reducible exact toExt awake_any _); clear hK K)))
      refine rWalk_nil ?_
      intro w4 hb
      clear gc gp
      replace Bc := Bc.ext hb rfl
      replace Bp := Bp.ext hb rfl
      replace hw := hw.trans (hb.mono hw.size)
      go_wp2
      go_ret
      exact ⟨rfl, hw⟩
set_option maxRecDepth 100000 in
set_option maxHeartbeats 2000000 in
theorem te_big_f (r of_ m : Int) (c p : Cp) (hr : rng r) (ho : rng of_) (hm : rng m) (hc : rng c.r) (hp : rng p.r) (d0 : decide (r ≥ 0) = true) (d1 : decide (r ≤ 15) = true) (f0 : decide (m ≥ 0) = true) (f1 : decide (m ≤ 15) = false) (z0 : (r == 0) = false) (v0 : vR of_ = false) (w : World) :
    Calls Try.prog 3 #[.int .i64 r, .int .i64 of_, .int .i64 m, .agg #[.int .i64 c.p, .int .i64 c.i, .int .i64 c.n, .int .i64 c.h, .int .i64 c.l, .int .i64 c.r, .int .i64 c.u, .int .i64 c.fi, .int .i64 c.fn], .agg #[.int .i64 p.p, .int .i64 p.i, .int .i64 p.n, .int .i64 p.h, .int .i64 p.l, .int .i64 p.r, .int .i64 p.u, .int .i64 p.fi, .int .i64 p.fn]] w fun e w' => e = .returned (.bool true) ∧ Below w.heap.size w w' := by
  have D0 : 0 ≤ r := by simpa using d0
  have D1 : r ≤ 15 := by simpa using d1
  have ek : kn r = true := by unfold kn; rw [show decide (0 ≤ r) = true from d0, d1]; rfl
  have ev : vR r = true := by rw [vR_kn (by simpa using z0)]; exact ek
  have k1 := valid_any hr
  rw [ev] at k1
  have k2 := rvalid_any r
  rw [ev] at k2
  have k3 := rvalid_any of_
  rw [v0] at k3
  have k4 := within_any hr ho
  rw [show wR r of_ = false by unfold wR; rw [ev, v0]; rfl] at k4
  have k5 := can_any (m := m) hr
  rw [show caR r m = false by
    unfold caR
    rw [ek, Bool.true_and]
    cases hz : zR m r with
    | false => rfl
    | true =>
      have := kn_of hm.1 hm.2 hr.1 hr.2 ek hz
      unfold kn at this
      simp at this f0 f1
      omega] at k5
  have k6 := text_any hr
  rw [show txt r = tx r 4 by unfold txt; rw [ek, if_pos rfl, if_neg (by simpa using z0)]] at k6
  have k7 := nar_any c p hc hp
  have k8 := rnr_any c p
  generalize nar c p = NV at k7 k8
  clear ek ev hr ho hm hc hp
  go_enter Try.func3, Try.ntmps3
  go_wp2_with fail
  refine at_world fun W1 hW => ?_
  have Bc : Box W1 (w.heap.size) [.int .i64 c.p, .int .i64 c.i, .int .i64 c.n, .int .i64 c.h, .int .i64 c.l, .int .i64 c.r, .int .i64 c.u, .int .i64 c.fi, .int .i64 c.fn] 23 := by rw [hW]; exact (Box.new rfl).old _
  have Bp : Box W1 (w.heap.size + 1) [.int .i64 p.p, .int .i64 p.i, .int .i64 p.n, .int .i64 p.h, .int .i64 p.l, .int .i64 p.r, .int .i64 p.u, .int .i64 p.fi, .int .i64 p.fn] 23 := by rw [hW]; exact Box.new (by simp)
  have hw : Below w.heap.size w W1 := by rw [hW]; go_grown
  clear hW
  obtain ⟨xc, yc, zc, vc⟩ := Bc.facts
  obtain ⟨xp, yp, zp, vp⟩ := Bp.facts
  go_loop [12, 13] (fun t i => ∃ k : Nat, k ≤ 4 ∧ i = .int .i64 k ∧ t = .string (tx r k)) (fun _ i => 4 - (intOf i).toNat)
  case atStart => exact ⟨0, by omega, rfl, rfl⟩
  case round =>
    obtain ⟨k, hk, rfl, rfl⟩ := hrel
    have hs : ((tx r k).size : Int) ≤ 4 := by have := tx_size r k; omega
    rcases (by omega : k = 0 ∨ k = 1 ∨ k = 2 ∨ k = 3 ∨ k = 4) with rfl | rfl | rfl | rfl | rfl
    · have hb := bt_shr D0 D1 0 (by omega)
      simp only [Int.pow_zero, Int.ediv_one] at hb
      cases hb2 : bt r 0 with
      | false =>
        rw [hb2] at hb
        go_wp2
        all_goals go_round
        all_goals first | exact ⟨1, by omega, rfl, by rw [tx_no (k := 0) hb2]⟩ | simp [intOf]
      | true =>
        rw [hb2] at hb
        go_wp2
        all_goals go_round
        all_goals first | exact ⟨1, by omega, rfl, by rw [tx_yes (k := 0) hb2]; rfl⟩ | simp [intOf]
    · have hb : (bits .and .i64 (r / 2) 1 == 1) = bt r 1 := by rw [← bt_shr D0 D1 1 (by omega)]; rfl
      cases hb2 : bt r 1 with
      | false =>
        rw [hb2] at hb
        go_wp2
        all_goals go_round
        all_goals first | exact ⟨2, by omega, rfl, by rw [tx_no (k := 1) hb2]⟩ | simp [intOf]
      | true =>
        rw [hb2] at hb
        go_wp2
        all_goals go_round
        all_goals first | exact ⟨2, by omega, rfl, by rw [tx_yes (k := 1) hb2]; rfl⟩ | simp [intOf]
    · have hb : (bits .and .i64 (r / 4) 1 == 1) = bt r 2 := by rw [← bt_shr D0 D1 2 (by omega)]; rfl
      cases hb2 : bt r 2 with
      | false =>
        rw [hb2] at hb
        go_wp2
        all_goals go_round
        all_goals first | exact ⟨3, by omega, rfl, by rw [tx_no (k := 2) hb2]⟩ | simp [intOf]
      | true =>
        rw [hb2] at hb
        go_wp2
        all_goals go_round
        all_goals first | exact ⟨3, by omega, rfl, by rw [tx_yes (k := 2) hb2]; rfl⟩ | simp [intOf]
    · have hb : (bits .and .i64 (r / 8) 1 == 1) = bt r 3 := by rw [← bt_shr D0 D1 3 (by omega)]; rfl
      cases hb2 : bt r 3 with
      | false =>
        rw [hb2] at hb
        go_wp2
        all_goals go_round
        all_goals first | exact ⟨4, by omega, rfl, by rw [tx_no (k := 3) hb2]⟩ | simp [intOf]
      | true =>
        rw [hb2] at hb
        go_wp2
        all_goals go_round
        all_goals first | exact ⟨4, by omega, rfl, by rw [tx_yes (k := 3) hb2]; rfl⟩ | simp [intOf]
    · go_wp2_with fail
      refine (k2 _).mono ?_
      rintro e w2 ⟨rfl, hb⟩
      clear xc yc zc vc xp yp zp vp
      replace Bc := Bc.ext hb rfl
      replace Bp := Bp.ext hb rfl
      replace hw := hw.trans (hb.mono hw.size)
      clear hb
      obtain ⟨xc, yc, zc, vc⟩ := Bc.facts
      obtain ⟨xp, yp, zp, vp⟩ := Bp.facts
      go_wp2_with fail
      refine (k3 _).mono ?_
      rintro e w3 ⟨rfl, hb⟩
      clear xc yc zc vc xp yp zp vp
      replace Bc := Bc.ext hb rfl
      replace Bp := Bp.ext hb rfl
      replace hw := hw.trans (hb.mono hw.size)
      clear hb
      obtain ⟨xc, yc, zc, vc⟩ := Bc.facts
      obtain ⟨xp, yp, zp, vp⟩ := Bp.facts
      go_wp2_with fail
      refine at_world fun W4 hW => ?_
      replace hw : Below w.heap.size w W4 := by rw [hW]; exact hw
      replace Bc : Box W4 (w.heap.size) [.int .i64 c.p, .int .i64 c.i, .int .i64 c.n, .int .i64 c.h, .int .i64 c.l, .int .i64 c.r, .int .i64 c.u, .int .i64 c.fi, .int .i64 c.fn] 23 := by rw [hW]; exact Bc
      replace Bp : Box W4 (w.heap.size + 1) [.int .i64 p.p, .int .i64 p.i, .int .i64 p.n, .int .i64 p.h, .int .i64 p.l, .int .i64 p.r, .int .i64 p.u, .int .i64 p.fi, .int .i64 p.fn] 23 := by rw [hW]; exact Bp
      clear hW
      clear xc yc zc vc xp yp zp vp
      have gc := Bc.cells
      have gp := Bp.cells
      refine wp_region_tail 43 (by kernel_rfl) (by kernel_rfl) (C := fun w' => ∃ p : Regrown, w' = grow (redrawn W4 p.d) p.os) (fun w' h => regrown_of_below h) ?_
      simp only [List.take_succ_cons, List.take_zero, List.drop_succ_cons, List.drop_zero]
      repeat (first | (refine rWalk_skip (Eq.refl false) ?_; simp only [Act.put, List.setIfInBounds_toArray, List.set_cons_succ, List.set_cons_zero]) | (refine rWalk_step (fun K hK => ?_); go_simp; first | (refine hK _ ?_; clear hK K) | (apply Exists.intro; refine ⟨fun _ => ?_, hK _ ?_⟩; (first | with_reducible exact toExt k1 _ | with_reducible exact toExt k2 _ | with_reducible exact toExt k4 _ | with_reducible exact toExt k5 _ | with_reducible exact toExt k6 _ | with_reducible exact toExt k7 _ | with_reducible exact toExt k8 _ | with_reducible exact toExt awake_any _); clear hK K)))
      refine rWalk_nil ?_
      intro w5 hb
      clear gc gp
      replace Bc := Bc.ext hb rfl
      replace Bp := Bp.ext hb rfl
      replace hw := hw.trans (hb.mono hw.size)
      go_wp2
      go_ret
      exact ⟨rfl, hw⟩
set_option maxRecDepth 100000 in
set_option maxHeartbeats 2000000 in
theorem te_big_t (r of_ m : Int) (c p : Cp) (hr : rng r) (ho : rng of_) (hm : rng m) (hc : rng c.r) (hp : rng p.r) (d0 : decide (r ≥ 0) = true) (d1 : decide (r ≤ 15) = true) (f0 : decide (m ≥ 0) = true) (f1 : decide (m ≤ 15) = false) (z0 : (r == 0) = false) (v0 : vR of_ = true) (w : World) :
    Calls Try.prog 3 #[.int .i64 r, .int .i64 of_, .int .i64 m, .agg #[.int .i64 c.p, .int .i64 c.i, .int .i64 c.n, .int .i64 c.h, .int .i64 c.l, .int .i64 c.r, .int .i64 c.u, .int .i64 c.fi, .int .i64 c.fn], .agg #[.int .i64 p.p, .int .i64 p.i, .int .i64 p.n, .int .i64 p.h, .int .i64 p.l, .int .i64 p.r, .int .i64 p.u, .int .i64 p.fi, .int .i64 p.fn]] w fun e w' => e = .returned (.bool true) ∧ Below w.heap.size w w' := by
  have D0 : 0 ≤ r := by simpa using d0
  have D1 : r ≤ 15 := by simpa using d1
  have ek : kn r = true := by unfold kn; rw [show decide (0 ≤ r) = true from d0, d1]; rfl
  have ev : vR r = true := by rw [vR_kn (by simpa using z0)]; exact ek
  have k1 := valid_any hr
  rw [ev] at k1
  have k2 := rvalid_any r
  rw [ev] at k2
  have k3 := rvalid_any of_
  rw [v0] at k3
  have k4 := within_any hr ho
  rw [show wR r of_ = (bits .andNot .i64 r of_ == 0) by unfold wR zR; rw [ev, v0]; rfl] at k4
  have k5 := can_any (m := m) hr
  rw [show caR r m = false by
    unfold caR
    rw [ek, Bool.true_and]
    cases hz : zR m r with
    | false => rfl
    | true =>
      have := kn_of hm.1 hm.2 hr.1 hr.2 ek hz
      unfold kn at this
      simp at this f0 f1
      omega] at k5
  have k6 := text_any hr
  rw [show txt r = tx r 4 by unfold txt; rw [ek, if_pos rfl, if_neg (by simpa using z0)]] at k6
  have k7 := nar_any c p hc hp
  have k8 := rnr_any c p
  generalize nar c p = NV at k7 k8
  clear ek ev hr ho hm hc hp
  go_enter Try.func3, Try.ntmps3
  go_wp2_with fail
  refine at_world fun W1 hW => ?_
  have Bc : Box W1 (w.heap.size) [.int .i64 c.p, .int .i64 c.i, .int .i64 c.n, .int .i64 c.h, .int .i64 c.l, .int .i64 c.r, .int .i64 c.u, .int .i64 c.fi, .int .i64 c.fn] 23 := by rw [hW]; exact (Box.new rfl).old _
  have Bp : Box W1 (w.heap.size + 1) [.int .i64 p.p, .int .i64 p.i, .int .i64 p.n, .int .i64 p.h, .int .i64 p.l, .int .i64 p.r, .int .i64 p.u, .int .i64 p.fi, .int .i64 p.fn] 23 := by rw [hW]; exact Box.new (by simp)
  have hw : Below w.heap.size w W1 := by rw [hW]; go_grown
  clear hW
  obtain ⟨xc, yc, zc, vc⟩ := Bc.facts
  obtain ⟨xp, yp, zp, vp⟩ := Bp.facts
  go_loop [12, 13] (fun t i => ∃ k : Nat, k ≤ 4 ∧ i = .int .i64 k ∧ t = .string (tx r k)) (fun _ i => 4 - (intOf i).toNat)
  case atStart => exact ⟨0, by omega, rfl, rfl⟩
  case round =>
    obtain ⟨k, hk, rfl, rfl⟩ := hrel
    have hs : ((tx r k).size : Int) ≤ 4 := by have := tx_size r k; omega
    rcases (by omega : k = 0 ∨ k = 1 ∨ k = 2 ∨ k = 3 ∨ k = 4) with rfl | rfl | rfl | rfl | rfl
    · have hb := bt_shr D0 D1 0 (by omega)
      simp only [Int.pow_zero, Int.ediv_one] at hb
      cases hb2 : bt r 0 with
      | false =>
        rw [hb2] at hb
        go_wp2
        all_goals go_round
        all_goals first | exact ⟨1, by omega, rfl, by rw [tx_no (k := 0) hb2]⟩ | simp [intOf]
      | true =>
        rw [hb2] at hb
        go_wp2
        all_goals go_round
        all_goals first | exact ⟨1, by omega, rfl, by rw [tx_yes (k := 0) hb2]; rfl⟩ | simp [intOf]
    · have hb : (bits .and .i64 (r / 2) 1 == 1) = bt r 1 := by rw [← bt_shr D0 D1 1 (by omega)]; rfl
      cases hb2 : bt r 1 with
      | false =>
        rw [hb2] at hb
        go_wp2
        all_goals go_round
        all_goals first | exact ⟨2, by omega, rfl, by rw [tx_no (k := 1) hb2]⟩ | simp [intOf]
      | true =>
        rw [hb2] at hb
        go_wp2
        all_goals go_round
        all_goals first | exact ⟨2, by omega, rfl, by rw [tx_yes (k := 1) hb2]; rfl⟩ | simp [intOf]
    · have hb : (bits .and .i64 (r / 4) 1 == 1) = bt r 2 := by rw [← bt_shr D0 D1 2 (by omega)]; rfl
      cases hb2 : bt r 2 with
      | false =>
        rw [hb2] at hb
        go_wp2
        all_goals go_round
        all_goals first | exact ⟨3, by omega, rfl, by rw [tx_no (k := 2) hb2]⟩ | simp [intOf]
      | true =>
        rw [hb2] at hb
        go_wp2
        all_goals go_round
        all_goals first | exact ⟨3, by omega, rfl, by rw [tx_yes (k := 2) hb2]; rfl⟩ | simp [intOf]
    · have hb : (bits .and .i64 (r / 8) 1 == 1) = bt r 3 := by rw [← bt_shr D0 D1 3 (by omega)]; rfl
      cases hb2 : bt r 3 with
      | false =>
        rw [hb2] at hb
        go_wp2
        all_goals go_round
        all_goals first | exact ⟨4, by omega, rfl, by rw [tx_no (k := 3) hb2]⟩ | simp [intOf]
      | true =>
        rw [hb2] at hb
        go_wp2
        all_goals go_round
        all_goals first | exact ⟨4, by omega, rfl, by rw [tx_yes (k := 3) hb2]; rfl⟩ | simp [intOf]
    · go_wp2_with fail
      refine (k2 _).mono ?_
      rintro e w2 ⟨rfl, hb⟩
      clear xc yc zc vc xp yp zp vp
      replace Bc := Bc.ext hb rfl
      replace Bp := Bp.ext hb rfl
      replace hw := hw.trans (hb.mono hw.size)
      clear hb
      obtain ⟨xc, yc, zc, vc⟩ := Bc.facts
      obtain ⟨xp, yp, zp, vp⟩ := Bp.facts
      go_wp2_with fail
      refine (k3 _).mono ?_
      rintro e w3 ⟨rfl, hb⟩
      clear xc yc zc vc xp yp zp vp
      replace Bc := Bc.ext hb rfl
      replace Bp := Bp.ext hb rfl
      replace hw := hw.trans (hb.mono hw.size)
      clear hb
      obtain ⟨xc, yc, zc, vc⟩ := Bc.facts
      obtain ⟨xp, yp, zp, vp⟩ := Bp.facts
      go_wp2_with fail
      refine at_world fun W4 hW => ?_
      replace hw : Below w.heap.size w W4 := by rw [hW]; exact hw
      replace Bc : Box W4 (w.heap.size) [.int .i64 c.p, .int .i64 c.i, .int .i64 c.n, .int .i64 c.h, .int .i64 c.l, .int .i64 c.r, .int .i64 c.u, .int .i64 c.fi, .int .i64 c.fn] 23 := by rw [hW]; exact Bc
      replace Bp : Box W4 (w.heap.size + 1) [.int .i64 p.p, .int .i64 p.i, .int .i64 p.n, .int .i64 p.h, .int .i64 p.l, .int .i64 p.r, .int .i64 p.u, .int .i64 p.fi, .int .i64 p.fn] 23 := by rw [hW]; exact Bp
      clear hW
      clear xc yc zc vc xp yp zp vp
      have gc := Bc.cells
      have gp := Bp.cells
      refine wp_region_tail 43 (by kernel_rfl) (by kernel_rfl) (C := fun w' => ∃ p : Regrown, w' = grow (redrawn W4 p.d) p.os) (fun w' h => regrown_of_below h) ?_
      simp only [List.take_succ_cons, List.take_zero, List.drop_succ_cons, List.drop_zero]
      repeat (first | (refine rWalk_skip (Eq.refl false) ?_; simp only [Act.put, List.setIfInBounds_toArray, List.set_cons_succ, List.set_cons_zero]) | (refine rWalk_step (fun K hK => ?_); go_simp; first | (refine hK _ ?_; clear hK K) | (apply Exists.intro; refine ⟨fun _ => ?_, hK _ ?_⟩; (first | with_reducible exact toExt k1 _ | with_reducible exact toExt k2 _ | with_reducible exact toExt k4 _ | with_reducible exact toExt k5 _ | with_reducible exact toExt k6 _ | with_reducible exact toExt k7 _ | with_reducible exact toExt k8 _ | with_reducible exact toExt awake_any _); clear hK K)))
      refine rWalk_nil ?_
      intro w5 hb
      clear gc gp
      replace Bc := Bc.ext hb rfl
      replace Bp := Bp.ext hb rfl
      replace hw := hw.trans (hb.mono hw.size)
      go_wp2
      go_ret
      exact ⟨rfl, hw⟩
set_option maxRecDepth 100000 in
set_option maxHeartbeats 2000000 in
theorem te_ok_z (r of_ m : Int) (c p : Cp) (hr : rng r) (ho : rng of_) (_hm : rng m) (hc : rng c.r) (hp : rng p.r) (d0 : decide (r ≥ 0) = true) (d1 : decide (r ≤ 15) = true) (f0 : decide (m ≥ 0) = true) (f1 : decide (m ≤ 15) = true) (z0 : (r == 0) = true) (w : World) :
    Calls Try.prog 3 #[.int .i64 r, .int .i64 of_, .int .i64 m, .agg #[.int .i64 c.p, .int .i64 c.i, .int .i64 c.n, .int .i64 c.h, .int .i64 c.l, .int .i64 c.r, .int .i64 c.u, .int .i64 c.fi, .int .i64 c.fn], .agg #[.int .i64 p.p, .int .i64 p.i, .int .i64 p.n, .int .i64 p.h, .int .i64 p.l, .int .i64 p.r, .int .i64 p.u, .int .i64 p.fi, .int .i64 p.fn]] w fun e w' => e = .returned (.bool true) ∧ Below w.heap.size w w' := by
  have D0 : 0 ≤ r := by simpa using d0
  have D1 : r ≤ 15 := by simpa using d1
  have ek : kn r = true := by unfold kn; rw [show decide (0 ≤ r) = true from d0, d1]; rfl
  have ev : vR r = false := by rw [show r = 0 by simpa using z0]; decide
  have k1 := valid_any hr
  rw [ev] at k1
  have k2 := rvalid_any r
  rw [ev] at k2
  have k4 := within_any hr ho
  rw [show wR r of_ = false by unfold wR; rw [ev]; rfl] at k4
  have k5 := can_any (m := m) hr
  rw [show caR r m = (bits .andNot .i64 m r == 0) by unfold caR zR; rw [ek]; rfl] at k5
  have k6 := text_any hr
  rw [show txt r = ⟨#[45]⟩ by unfold txt; rw [ek, if_pos rfl, if_pos (by simpa using z0)]] at k6
  have k7 := nar_any c p hc hp
  have k8 := rnr_any c p
  generalize nar c p = NV at k7 k8
  clear ek ev hr ho _hm hc hp
  go_enter Try.func3, Try.ntmps3
  go_wp2_with fail
  refine at_world fun W1 hW => ?_
  have Bc : Box W1 (w.heap.size) [.int .i64 c.p, .int .i64 c.i, .int .i64 c.n, .int .i64 c.h, .int .i64 c.l, .int .i64 c.r, .int .i64 c.u, .int .i64 c.fi, .int .i64 c.fn] 23 := by rw [hW]; exact (Box.new rfl).old _
  have Bp : Box W1 (w.heap.size + 1) [.int .i64 p.p, .int .i64 p.i, .int .i64 p.n, .int .i64 p.h, .int .i64 p.l, .int .i64 p.r, .int .i64 p.u, .int .i64 p.fi, .int .i64 p.fn] 23 := by rw [hW]; exact Box.new (by simp)
  have hw : Below w.heap.size w W1 := by rw [hW]; go_grown
  clear hW
  obtain ⟨xc, yc, zc, vc⟩ := Bc.facts
  obtain ⟨xp, yp, zp, vp⟩ := Bp.facts
  go_loop [12, 13] (fun t i => ∃ k : Nat, k ≤ 4 ∧ i = .int .i64 k ∧ t = .string (tx r k)) (fun _ i => 4 - (intOf i).toNat)
  case atStart => exact ⟨0, by omega, rfl, rfl⟩
  case round =>
    obtain ⟨k, hk, rfl, rfl⟩ := hrel
    have hs : ((tx r k).size : Int) ≤ 4 := by have := tx_size r k; omega
    rcases (by omega : k = 0 ∨ k = 1 ∨ k = 2 ∨ k = 3 ∨ k = 4) with rfl | rfl | rfl | rfl | rfl
    · have hb := bt_shr D0 D1 0 (by omega)
      simp only [Int.pow_zero, Int.ediv_one] at hb
      cases hb2 : bt r 0 with
      | false =>
        rw [hb2] at hb
        go_wp2
        all_goals go_round
        all_goals first | exact ⟨1, by omega, rfl, by rw [tx_no (k := 0) hb2]⟩ | simp [intOf]
      | true =>
        rw [hb2] at hb
        go_wp2
        all_goals go_round
        all_goals first | exact ⟨1, by omega, rfl, by rw [tx_yes (k := 0) hb2]; rfl⟩ | simp [intOf]
    · have hb : (bits .and .i64 (r / 2) 1 == 1) = bt r 1 := by rw [← bt_shr D0 D1 1 (by omega)]; rfl
      cases hb2 : bt r 1 with
      | false =>
        rw [hb2] at hb
        go_wp2
        all_goals go_round
        all_goals first | exact ⟨2, by omega, rfl, by rw [tx_no (k := 1) hb2]⟩ | simp [intOf]
      | true =>
        rw [hb2] at hb
        go_wp2
        all_goals go_round
        all_goals first | exact ⟨2, by omega, rfl, by rw [tx_yes (k := 1) hb2]; rfl⟩ | simp [intOf]
    · have hb : (bits .and .i64 (r / 4) 1 == 1) = bt r 2 := by rw [← bt_shr D0 D1 2 (by omega)]; rfl
      cases hb2 : bt r 2 with
      | false =>
        rw [hb2] at hb
        go_wp2
        all_goals go_round
        all_goals first | exact ⟨3, by omega, rfl, by rw [tx_no (k := 2) hb2]⟩ | simp [intOf]
      | true =>
        rw [hb2] at hb
        go_wp2
        all_goals go_round
        all_goals first | exact ⟨3, by omega, rfl, by rw [tx_yes (k := 2) hb2]; rfl⟩ | simp [intOf]
    · have hb : (bits .and .i64 (r / 8) 1 == 1) = bt r 3 := by rw [← bt_shr D0 D1 3 (by omega)]; rfl
      cases hb2 : bt r 3 with
      | false =>
        rw [hb2] at hb
        go_wp2
        all_goals go_round
        all_goals first | exact ⟨4, by omega, rfl, by rw [tx_no (k := 3) hb2]⟩ | simp [intOf]
      | true =>
        rw [hb2] at hb
        go_wp2
        all_goals go_round
        all_goals first | exact ⟨4, by omega, rfl, by rw [tx_yes (k := 3) hb2]; rfl⟩ | simp [intOf]
    · go_wp2_with fail
      refine (k2 _).mono ?_
      rintro e w2 ⟨rfl, hb⟩
      clear xc yc zc vc xp yp zp vp
      replace Bc := Bc.ext hb rfl
      replace Bp := Bp.ext hb rfl
      replace hw := hw.trans (hb.mono hw.size)
      clear hb
      obtain ⟨xc, yc, zc, vc⟩ := Bc.facts
      obtain ⟨xp, yp, zp, vp⟩ := Bp.facts
      go_wp2_with fail
      refine at_world fun W3 hW => ?_
      replace hw : Below w.heap.size w W3 := by rw [hW]; exact hw
      replace Bc : Box W3 (w.heap.size) [.int .i64 c.p, .int .i64 c.i, .int .i64 c.n, .int .i64 c.h, .int .i64 c.l, .int .i64 c.r, .int .i64 c.u, .int .i64 c.fi, .int .i64 c.fn] 23 := by rw [hW]; exact Bc
      replace Bp : Box W3 (w.heap.size + 1) [.int .i64 p.p, .int .i64 p.i, .int .i64 p.n, .int .i64 p.h, .int .i64 p.l, .int .i64 p.r, .int .i64 p.u, .int .i64 p.fi, .int .i64 p.fn] 23 := by rw [hW]; exact Bp
      clear hW
      clear xc yc zc vc xp yp zp vp
      have gc := Bc.cells
      have gp := Bp.cells
      refine wp_region_tail 43 (by kernel_rfl) (by kernel_rfl) (C := fun w' => ∃ p : Regrown, w' = grow (redrawn W3 p.d) p.os) (fun w' h => regrown_of_below h) ?_
      simp only [List.take_succ_cons, List.take_zero, List.drop_succ_cons, List.drop_zero]
      repeat (first | (refine rWalk_skip (Eq.refl false) ?_; simp only [Act.put, List.setIfInBounds_toArray, List.set_cons_succ, List.set_cons_zero]) | (refine rWalk_step (fun K hK => ?_); go_simp; first | (refine hK _ ?_; clear hK K) | (apply Exists.intro; refine ⟨fun _ => ?_, hK _ ?_⟩; (first | with_reducible exact toExt k1 _ | with_reducible exact toExt k2 _ | with_reducible exact toExt k4 _ | with_reducible exact toExt k5 _ | with_reducible exact toExt k6 _ | with_reducible exact toExt k7 _ | with_reducible exact toExt k8 _ | with_reducible exact toExt awake_any _); clear hK K)))
      refine rWalk_nil ?_
      intro w4 hb
      clear gc gp
      replace Bc := Bc.ext hb rfl
      replace Bp := Bp.ext hb rfl
      replace hw := hw.trans (hb.mono hw.size)
      go_wp2
      go_ret
      exact ⟨rfl, hw⟩
set_option maxRecDepth 100000 in
set_option maxHeartbeats 2000000 in
theorem te_ok_f (r of_ m : Int) (c p : Cp) (hr : rng r) (ho : rng of_) (_hm : rng m) (hc : rng c.r) (hp : rng p.r) (d0 : decide (r ≥ 0) = true) (d1 : decide (r ≤ 15) = true) (f0 : decide (m ≥ 0) = true) (f1 : decide (m ≤ 15) = true) (z0 : (r == 0) = false) (v0 : vR of_ = false) (w : World) :
    Calls Try.prog 3 #[.int .i64 r, .int .i64 of_, .int .i64 m, .agg #[.int .i64 c.p, .int .i64 c.i, .int .i64 c.n, .int .i64 c.h, .int .i64 c.l, .int .i64 c.r, .int .i64 c.u, .int .i64 c.fi, .int .i64 c.fn], .agg #[.int .i64 p.p, .int .i64 p.i, .int .i64 p.n, .int .i64 p.h, .int .i64 p.l, .int .i64 p.r, .int .i64 p.u, .int .i64 p.fi, .int .i64 p.fn]] w fun e w' => e = .returned (.bool true) ∧ Below w.heap.size w w' := by
  have D0 : 0 ≤ r := by simpa using d0
  have D1 : r ≤ 15 := by simpa using d1
  have ek : kn r = true := by unfold kn; rw [show decide (0 ≤ r) = true from d0, d1]; rfl
  have ev : vR r = true := by rw [vR_kn (by simpa using z0)]; exact ek
  have k1 := valid_any hr
  rw [ev] at k1
  have k2 := rvalid_any r
  rw [ev] at k2
  have k3 := rvalid_any of_
  rw [v0] at k3
  have k4 := within_any hr ho
  rw [show wR r of_ = false by unfold wR; rw [ev, v0]; rfl] at k4
  have k5 := can_any (m := m) hr
  rw [show caR r m = (bits .andNot .i64 m r == 0) by unfold caR zR; rw [ek]; rfl] at k5
  have k6 := text_any hr
  rw [show txt r = tx r 4 by unfold txt; rw [ek, if_pos rfl, if_neg (by simpa using z0)]] at k6
  have k7 := nar_any c p hc hp
  have k8 := rnr_any c p
  generalize nar c p = NV at k7 k8
  clear ek ev hr ho _hm hc hp
  go_enter Try.func3, Try.ntmps3
  go_wp2_with fail
  refine at_world fun W1 hW => ?_
  have Bc : Box W1 (w.heap.size) [.int .i64 c.p, .int .i64 c.i, .int .i64 c.n, .int .i64 c.h, .int .i64 c.l, .int .i64 c.r, .int .i64 c.u, .int .i64 c.fi, .int .i64 c.fn] 23 := by rw [hW]; exact (Box.new rfl).old _
  have Bp : Box W1 (w.heap.size + 1) [.int .i64 p.p, .int .i64 p.i, .int .i64 p.n, .int .i64 p.h, .int .i64 p.l, .int .i64 p.r, .int .i64 p.u, .int .i64 p.fi, .int .i64 p.fn] 23 := by rw [hW]; exact Box.new (by simp)
  have hw : Below w.heap.size w W1 := by rw [hW]; go_grown
  clear hW
  obtain ⟨xc, yc, zc, vc⟩ := Bc.facts
  obtain ⟨xp, yp, zp, vp⟩ := Bp.facts
  go_loop [12, 13] (fun t i => ∃ k : Nat, k ≤ 4 ∧ i = .int .i64 k ∧ t = .string (tx r k)) (fun _ i => 4 - (intOf i).toNat)
  case atStart => exact ⟨0, by omega, rfl, rfl⟩
  case round =>
    obtain ⟨k, hk, rfl, rfl⟩ := hrel
    have hs : ((tx r k).size : Int) ≤ 4 := by have := tx_size r k; omega
    rcases (by omega : k = 0 ∨ k = 1 ∨ k = 2 ∨ k = 3 ∨ k = 4) with rfl | rfl | rfl | rfl | rfl
    · have hb := bt_shr D0 D1 0 (by omega)
      simp only [Int.pow_zero, Int.ediv_one] at hb
      cases hb2 : bt r 0 with
      | false =>
        rw [hb2] at hb
        go_wp2
        all_goals go_round
        all_goals first | exact ⟨1, by omega, rfl, by rw [tx_no (k := 0) hb2]⟩ | simp [intOf]
      | true =>
        rw [hb2] at hb
        go_wp2
        all_goals go_round
        all_goals first | exact ⟨1, by omega, rfl, by rw [tx_yes (k := 0) hb2]; rfl⟩ | simp [intOf]
    · have hb : (bits .and .i64 (r / 2) 1 == 1) = bt r 1 := by rw [← bt_shr D0 D1 1 (by omega)]; rfl
      cases hb2 : bt r 1 with
      | false =>
        rw [hb2] at hb
        go_wp2
        all_goals go_round
        all_goals first | exact ⟨2, by omega, rfl, by rw [tx_no (k := 1) hb2]⟩ | simp [intOf]
      | true =>
        rw [hb2] at hb
        go_wp2
        all_goals go_round
        all_goals first | exact ⟨2, by omega, rfl, by rw [tx_yes (k := 1) hb2]; rfl⟩ | simp [intOf]
    · have hb : (bits .and .i64 (r / 4) 1 == 1) = bt r 2 := by rw [← bt_shr D0 D1 2 (by omega)]; rfl
      cases hb2 : bt r 2 with
      | false =>
        rw [hb2] at hb
        go_wp2
        all_goals go_round
        all_goals first | exact ⟨3, by omega, rfl, by rw [tx_no (k := 2) hb2]⟩ | simp [intOf]
      | true =>
        rw [hb2] at hb
        go_wp2
        all_goals go_round
        all_goals first | exact ⟨3, by omega, rfl, by rw [tx_yes (k := 2) hb2]; rfl⟩ | simp [intOf]
    · have hb : (bits .and .i64 (r / 8) 1 == 1) = bt r 3 := by rw [← bt_shr D0 D1 3 (by omega)]; rfl
      cases hb2 : bt r 3 with
      | false =>
        rw [hb2] at hb
        go_wp2
        all_goals go_round
        all_goals first | exact ⟨4, by omega, rfl, by rw [tx_no (k := 3) hb2]⟩ | simp [intOf]
      | true =>
        rw [hb2] at hb
        go_wp2
        all_goals go_round
        all_goals first | exact ⟨4, by omega, rfl, by rw [tx_yes (k := 3) hb2]; rfl⟩ | simp [intOf]
    · go_wp2_with fail
      refine (k2 _).mono ?_
      rintro e w2 ⟨rfl, hb⟩
      clear xc yc zc vc xp yp zp vp
      replace Bc := Bc.ext hb rfl
      replace Bp := Bp.ext hb rfl
      replace hw := hw.trans (hb.mono hw.size)
      clear hb
      obtain ⟨xc, yc, zc, vc⟩ := Bc.facts
      obtain ⟨xp, yp, zp, vp⟩ := Bp.facts
      go_wp2_with fail
      refine (k3 _).mono ?_
      rintro e w3 ⟨rfl, hb⟩
      clear xc yc zc vc xp yp zp vp
      replace Bc := Bc.ext hb rfl
      replace Bp := Bp.ext hb rfl
      replace hw := hw.trans (hb.mono hw.size)
      clear hb
      obtain ⟨xc, yc, zc, vc⟩ := Bc.facts
      obtain ⟨xp, yp, zp, vp⟩ := Bp.facts
      go_wp2_with fail
      refine at_world fun W4 hW => ?_
      replace hw : Below w.heap.size w W4 := by rw [hW]; exact hw
      replace Bc : Box W4 (w.heap.size) [.int .i64 c.p, .int .i64 c.i, .int .i64 c.n, .int .i64 c.h, .int .i64 c.l, .int .i64 c.r, .int .i64 c.u, .int .i64 c.fi, .int .i64 c.fn] 23 := by rw [hW]; exact Bc
      replace Bp : Box W4 (w.heap.size + 1) [.int .i64 p.p, .int .i64 p.i, .int .i64 p.n, .int .i64 p.h, .int .i64 p.l, .int .i64 p.r, .int .i64 p.u, .int .i64 p.fi, .int .i64 p.fn] 23 := by rw [hW]; exact Bp
      clear hW
      clear xc yc zc vc xp yp zp vp
      have gc := Bc.cells
      have gp := Bp.cells
      refine wp_region_tail 43 (by kernel_rfl) (by kernel_rfl) (C := fun w' => ∃ p : Regrown, w' = grow (redrawn W4 p.d) p.os) (fun w' h => regrown_of_below h) ?_
      simp only [List.take_succ_cons, List.take_zero, List.drop_succ_cons, List.drop_zero]
      repeat (first | (refine rWalk_skip (Eq.refl false) ?_; simp only [Act.put, List.setIfInBounds_toArray, List.set_cons_succ, List.set_cons_zero]) | (refine rWalk_step (fun K hK => ?_); go_simp; first | (refine hK _ ?_; clear hK K) | (apply Exists.intro; refine ⟨fun _ => ?_, hK _ ?_⟩; (first | with_reducible exact toExt k1 _ | with_reducible exact toExt k2 _ | with_reducible exact toExt k4 _ | with_reducible exact toExt k5 _ | with_reducible exact toExt k6 _ | with_reducible exact toExt k7 _ | with_reducible exact toExt k8 _ | with_reducible exact toExt awake_any _); clear hK K)))
      refine rWalk_nil ?_
      intro w5 hb
      clear gc gp
      replace Bc := Bc.ext hb rfl
      replace Bp := Bp.ext hb rfl
      replace hw := hw.trans (hb.mono hw.size)
      go_wp2
      go_ret
      exact ⟨rfl, hw⟩
set_option maxRecDepth 100000 in
set_option maxHeartbeats 2000000 in
theorem te_ok_t (r of_ m : Int) (c p : Cp) (hr : rng r) (ho : rng of_) (_hm : rng m) (hc : rng c.r) (hp : rng p.r) (d0 : decide (r ≥ 0) = true) (d1 : decide (r ≤ 15) = true) (f0 : decide (m ≥ 0) = true) (f1 : decide (m ≤ 15) = true) (z0 : (r == 0) = false) (v0 : vR of_ = true) (w : World) :
    Calls Try.prog 3 #[.int .i64 r, .int .i64 of_, .int .i64 m, .agg #[.int .i64 c.p, .int .i64 c.i, .int .i64 c.n, .int .i64 c.h, .int .i64 c.l, .int .i64 c.r, .int .i64 c.u, .int .i64 c.fi, .int .i64 c.fn], .agg #[.int .i64 p.p, .int .i64 p.i, .int .i64 p.n, .int .i64 p.h, .int .i64 p.l, .int .i64 p.r, .int .i64 p.u, .int .i64 p.fi, .int .i64 p.fn]] w fun e w' => e = .returned (.bool true) ∧ Below w.heap.size w w' := by
  have D0 : 0 ≤ r := by simpa using d0
  have D1 : r ≤ 15 := by simpa using d1
  have ek : kn r = true := by unfold kn; rw [show decide (0 ≤ r) = true from d0, d1]; rfl
  have ev : vR r = true := by rw [vR_kn (by simpa using z0)]; exact ek
  have k1 := valid_any hr
  rw [ev] at k1
  have k2 := rvalid_any r
  rw [ev] at k2
  have k3 := rvalid_any of_
  rw [v0] at k3
  have k4 := within_any hr ho
  rw [show wR r of_ = (bits .andNot .i64 r of_ == 0) by unfold wR zR; rw [ev, v0]; rfl] at k4
  have k5 := can_any (m := m) hr
  rw [show caR r m = (bits .andNot .i64 m r == 0) by unfold caR zR; rw [ek]; rfl] at k5
  have k6 := text_any hr
  rw [show txt r = tx r 4 by unfold txt; rw [ek, if_pos rfl, if_neg (by simpa using z0)]] at k6
  have k7 := nar_any c p hc hp
  have k8 := rnr_any c p
  generalize nar c p = NV at k7 k8
  clear ek ev hr ho _hm hc hp
  go_enter Try.func3, Try.ntmps3
  go_wp2_with fail
  refine at_world fun W1 hW => ?_
  have Bc : Box W1 (w.heap.size) [.int .i64 c.p, .int .i64 c.i, .int .i64 c.n, .int .i64 c.h, .int .i64 c.l, .int .i64 c.r, .int .i64 c.u, .int .i64 c.fi, .int .i64 c.fn] 23 := by rw [hW]; exact (Box.new rfl).old _
  have Bp : Box W1 (w.heap.size + 1) [.int .i64 p.p, .int .i64 p.i, .int .i64 p.n, .int .i64 p.h, .int .i64 p.l, .int .i64 p.r, .int .i64 p.u, .int .i64 p.fi, .int .i64 p.fn] 23 := by rw [hW]; exact Box.new (by simp)
  have hw : Below w.heap.size w W1 := by rw [hW]; go_grown
  clear hW
  obtain ⟨xc, yc, zc, vc⟩ := Bc.facts
  obtain ⟨xp, yp, zp, vp⟩ := Bp.facts
  go_loop [12, 13] (fun t i => ∃ k : Nat, k ≤ 4 ∧ i = .int .i64 k ∧ t = .string (tx r k)) (fun _ i => 4 - (intOf i).toNat)
  case atStart => exact ⟨0, by omega, rfl, rfl⟩
  case round =>
    obtain ⟨k, hk, rfl, rfl⟩ := hrel
    have hs : ((tx r k).size : Int) ≤ 4 := by have := tx_size r k; omega
    rcases (by omega : k = 0 ∨ k = 1 ∨ k = 2 ∨ k = 3 ∨ k = 4) with rfl | rfl | rfl | rfl | rfl
    · have hb := bt_shr D0 D1 0 (by omega)
      simp only [Int.pow_zero, Int.ediv_one] at hb
      cases hb2 : bt r 0 with
      | false =>
        rw [hb2] at hb
        go_wp2
        all_goals go_round
        all_goals first | exact ⟨1, by omega, rfl, by rw [tx_no (k := 0) hb2]⟩ | simp [intOf]
      | true =>
        rw [hb2] at hb
        go_wp2
        all_goals go_round
        all_goals first | exact ⟨1, by omega, rfl, by rw [tx_yes (k := 0) hb2]; rfl⟩ | simp [intOf]
    · have hb : (bits .and .i64 (r / 2) 1 == 1) = bt r 1 := by rw [← bt_shr D0 D1 1 (by omega)]; rfl
      cases hb2 : bt r 1 with
      | false =>
        rw [hb2] at hb
        go_wp2
        all_goals go_round
        all_goals first | exact ⟨2, by omega, rfl, by rw [tx_no (k := 1) hb2]⟩ | simp [intOf]
      | true =>
        rw [hb2] at hb
        go_wp2
        all_goals go_round
        all_goals first | exact ⟨2, by omega, rfl, by rw [tx_yes (k := 1) hb2]; rfl⟩ | simp [intOf]
    · have hb : (bits .and .i64 (r / 4) 1 == 1) = bt r 2 := by rw [← bt_shr D0 D1 2 (by omega)]; rfl
      cases hb2 : bt r 2 with
      | false =>
        rw [hb2] at hb
        go_wp2
        all_goals go_round
        all_goals first | exact ⟨3, by omega, rfl, by rw [tx_no (k := 2) hb2]⟩ | simp [intOf]
      | true =>
        rw [hb2] at hb
        go_wp2
        all_goals go_round
        all_goals first | exact ⟨3, by omega, rfl, by rw [tx_yes (k := 2) hb2]; rfl⟩ | simp [intOf]
    · have hb : (bits .and .i64 (r / 8) 1 == 1) = bt r 3 := by rw [← bt_shr D0 D1 3 (by omega)]; rfl
      cases hb2 : bt r 3 with
      | false =>
        rw [hb2] at hb
        go_wp2
        all_goals go_round
        all_goals first | exact ⟨4, by omega, rfl, by rw [tx_no (k := 3) hb2]⟩ | simp [intOf]
      | true =>
        rw [hb2] at hb
        go_wp2
        all_goals go_round
        all_goals first | exact ⟨4, by omega, rfl, by rw [tx_yes (k := 3) hb2]; rfl⟩ | simp [intOf]
    · go_wp2_with fail
      refine (k2 _).mono ?_
      rintro e w2 ⟨rfl, hb⟩
      clear xc yc zc vc xp yp zp vp
      replace Bc := Bc.ext hb rfl
      replace Bp := Bp.ext hb rfl
      replace hw := hw.trans (hb.mono hw.size)
      clear hb
      obtain ⟨xc, yc, zc, vc⟩ := Bc.facts
      obtain ⟨xp, yp, zp, vp⟩ := Bp.facts
      go_wp2_with fail
      refine (k3 _).mono ?_
      rintro e w3 ⟨rfl, hb⟩
      clear xc yc zc vc xp yp zp vp
      replace Bc := Bc.ext hb rfl
      replace Bp := Bp.ext hb rfl
      replace hw := hw.trans (hb.mono hw.size)
      clear hb
      obtain ⟨xc, yc, zc, vc⟩ := Bc.facts
      obtain ⟨xp, yp, zp, vp⟩ := Bp.facts
      go_wp2_with fail
      refine at_world fun W4 hW => ?_
      replace hw : Below w.heap.size w W4 := by rw [hW]; exact hw
      replace Bc : Box W4 (w.heap.size) [.int .i64 c.p, .int .i64 c.i, .int .i64 c.n, .int .i64 c.h, .int .i64 c.l, .int .i64 c.r, .int .i64 c.u, .int .i64 c.fi, .int .i64 c.fn] 23 := by rw [hW]; exact Bc
      replace Bp : Box W4 (w.heap.size + 1) [.int .i64 p.p, .int .i64 p.i, .int .i64 p.n, .int .i64 p.h, .int .i64 p.l, .int .i64 p.r, .int .i64 p.u, .int .i64 p.fi, .int .i64 p.fn] 23 := by rw [hW]; exact Bp
      clear hW
      clear xc yc zc vc xp yp zp vp
      have gc := Bc.cells
      have gp := Bp.cells
      refine wp_region_tail 43 (by kernel_rfl) (by kernel_rfl) (C := fun w' => ∃ p : Regrown, w' = grow (redrawn W4 p.d) p.os) (fun w' h => regrown_of_below h) ?_
      simp only [List.take_succ_cons, List.take_zero, List.drop_succ_cons, List.drop_zero]
      repeat (first | (refine rWalk_skip (Eq.refl false) ?_; simp only [Act.put, List.setIfInBounds_toArray, List.set_cons_succ, List.set_cons_zero]) | (refine rWalk_step (fun K hK => ?_); go_simp; first | (refine hK _ ?_; clear hK K) | (apply Exists.intro; refine ⟨fun _ => ?_, hK _ ?_⟩; (first | with_reducible exact toExt k1 _ | with_reducible exact toExt k2 _ | with_reducible exact toExt k4 _ | with_reducible exact toExt k5 _ | with_reducible exact toExt k6 _ | with_reducible exact toExt k7 _ | with_reducible exact toExt k8 _ | with_reducible exact toExt awake_any _); clear hK K)))
      refine rWalk_nil ?_
      intro w5 hb
      clear gc gp
      replace Bc := Bc.ext hb rfl
      replace Bp := Bp.ext hb rfl
      replace hw := hw.trans (hb.mono hw.size)
      go_wp2
      go_ret
      exact ⟨rfl, hw⟩
theorem tell_law (r of_ m : Int) (c p : Cp) (hr : rng r) (ho : rng of_) (hm : rng m) (kc : WFC c) (kp : WFC p) (w : World) :
    Calls Try.prog 3 #[.int .i64 r, .int .i64 of_, .int .i64 m, .agg #[.int .i64 c.p, .int .i64 c.i, .int .i64 c.n, .int .i64 c.h, .int .i64 c.l, .int .i64 c.r, .int .i64 c.u, .int .i64 c.fi, .int .i64 c.fn], .agg #[.int .i64 p.p, .int .i64 p.i, .int .i64 p.n, .int .i64 p.h, .int .i64 p.l, .int .i64 p.r, .int .i64 p.u, .int .i64 p.fi, .int .i64 p.fn]] w fun e w' => e = .returned (.bool true) ∧ Below w.heap.size w w' := by
  have hc := kc.rng
  have hp := kp.rng
  cases d0 : decide (r ≥ 0) with
  | false => exact te_neg r of_ m c p hr ho hm hc hp d0 w
  | true => cases d1 : decide (r ≤ 15) with
    | false => exact te_big r of_ m c p hr ho hm hc hp d0 d1 w
    | true => cases z0 : (r == 0) with
      | true => cases f0 : decide (m ≥ 0) with
        | false => exact te_neg_z r of_ m c p hr ho hm hc hp d0 d1 f0 z0 w
        | true => cases f1 : decide (m ≤ 15) with
          | false => exact te_big_z r of_ m c p hr ho hm hc hp d0 d1 f0 f1 z0 w
          | true => exact te_ok_z r of_ m c p hr ho hm hc hp d0 d1 f0 f1 z0 w
      | false => cases f0 : decide (m ≥ 0) with
        | false => cases v0 : vR of_ with
            | false => exact te_neg_f r of_ m c p hr ho hm hc hp d0 d1 f0 z0 v0 w
            | true => exact te_neg_t r of_ m c p hr ho hm hc hp d0 d1 f0 z0 v0 w
        | true => cases f1 : decide (m ≤ 15) with
          | false => cases v0 : vR of_ with
            | false => exact te_big_f r of_ m c p hr ho hm hc hp d0 d1 f0 f1 z0 v0 w
            | true => exact te_big_t r of_ m c p hr ho hm hc hp d0 d1 f0 f1 z0 v0 w
          | true => cases v0 : vR of_ with
            | false => exact te_ok_f r of_ m c p hr ho hm hc hp d0 d1 f0 f1 z0 v0 w
            | true => exact te_ok_t r of_ m c p hr ho hm hc hp d0 d1 f0 f1 z0 v0 w
set_option maxRecDepth 100000 in
theorem rightsTell_lifted (os : Os) (started : os.Started) (H : Type) (enc : TypeId × Value → H) :
    ReturnsInHanded {} Try.checked os 3 .any (Rows.rightsTellSpec.pre6 enc Try.prog Try.f3 Rows.rightsTellRow.domain false) (Rows.rightsTellSpec.post enc Try.prog Try.f3 false true false false) := by
  refine returnsInHanded_of_change (C := Try.checked) Try.own started (by kernel_rfl) Try.func3
    (ChangeSpec.witness6 (enc := enc) (C := Try.checked) false ⟨#[], #[.int .i64 0, .int .i64 0, .int .i64 0, .agg #[.int .i64 0, .int .i64 0, .int .i64 0, .int .i64 0, .int .i64 0, .int .i64 0, .int .i64 0, .int .i64 0, .int .i64 0], .agg #[.int .i64 0, .int .i64 0, .int .i64 0, .int .i64 0, .int .i64 0, .int .i64 0, .int .i64 0, .int .i64 0, .int .i64 0]], []⟩ 8 (by kernel_rfl) (by kernel_rfl) (by kernel_rfl) (by kernel_rfl)) ?_
  intro W base args ds gs before hval0 hW hcnd _
  have hval : ∀ (j : Nat) t v, Try.f3.params[j]? = some t → args[j]? = some v → Value.okWide Try.prog W .any base t v := hval0
  have hW' := hW
  obtain ⟨p, q, hA0, hV, rfl, hfz, hnd⟩ := hW
  have hA : DataW.TrodAll enc Try.prog W 0 (fun _ => true) true Try.f3.params.toList args.toList ds p := hA0
  rw [Try.params3] at hA hval
  obtain ⟨v0, v1, v2, v3, v4, d0, d1, d2, d3, d4, q0, q1, q2, q3, q4, rfl, rfl, rfl, p0, p1, p2, p3, p4⟩ := trodAll_five hA
  obtain ⟨rfl, rfl⟩ := trodVars_none hV
  obtain ⟨r, rfl, rfl, rfl, wr⟩ := open_int Try.underlying3 (hval 0 3 v0 rfl rfl) p0
  obtain ⟨of_, rfl, rfl, rfl, wof_⟩ := open_int Try.underlying3 (hval 1 3 v1 rfl rfl) p1
  obtain ⟨m, rfl, rfl, rfl, wm⟩ := open_int Try.underlying3 (hval 2 3 v2 rfl rfl) p2
  obtain ⟨c, rfl, rfl, rfl, kc⟩ := open_cap (hval 3 23 v3 rfl rfl) p3
  obtain ⟨p, rfl, rfl, rfl, kp⟩ := open_cap (hval 4 23 v4 rfl rfl) p4
  clear hA0 hval0
  simp only [List.append_nil] at hW'
  refine (tell_law r of_ m c p (int_wf wr) (int_wf wof_) (int_wf wm) kc kp W).mono fun e W' ⟨he, hb⟩ => ?_
  subst he
  exact ⟨_, rfl, post_of_below (pa := []) (pv := []) hW' (fun _ _ _ => trodAll_mk1 (shut_bool Try.underlying4 true)) (fun sp _ => trodAll_mk5 (shut_int Try.underlying3 wr) (shut_int Try.underlying3 wof_) (shut_int Try.underlying3 wm) (shut_cap kc) (shut_cap kp)) (fun _ _ => rfl) rfl hb (ok_one (by kernel_rfl) rfl (okWide_bool_mk Try.underlying4 true))⟩
/-- The law RightsTell holds of every input. -/
theorem rightsTell_holds : Rows.RightsTellSaid :=
  OpenClaim.holds_of_wide 3 Try.f3 rfl rfl rfl rfl rfl rfl rfl ⟨rfl, rfl, rfl, rfl, rfl⟩ rfl rfl rfl rfl rfl (by kernel_rfl) Try.func3 (by kernel_rfl)
    (of_decide_eq_true (by kernel_rfl)) (by unfold Func.isWrapper; rw [if_neg (of_decide_eq_false (by kernel_rfl))]; exact ⟨rfl, rfl⟩)
    (fun os started H enc _ => rightsTell_lifted os started H enc)
end Go.Proofs.Ytipokakeaboelaa
