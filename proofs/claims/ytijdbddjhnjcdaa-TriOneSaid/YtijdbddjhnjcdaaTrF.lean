/- What the document fixes of triangles, over the program. -/
import Derived.Test.YtijdbddjhnjcdaaRows
import Derived.Test.YtijdbddjhnjcdaaTrE
import Derived.Test.YtijdbddjhnjcdaaPost
import Derived.WalkKit
import Derived.WalkSpells
import Derived.WalkLawsBesides
import Derived.Laws.Externs
import Derived.Deep.QuietTactic
import Derived.BigQuiet
import Derived.Lib.Hide
import Derived.Handy
namespace Go.Proofs.Ytijdbddjhnjcdaa
open Go.RowKit Go.Sort
attribute [local go_sem] rOper rAt rUpon cell_set sg_i64 sg_u64 alloc_cell alloc_frozen
attribute [local go_sem 10000] pt_eql pt_neq
attribute [local irreducible] rWalk

theorem aw_0 (w : World) : Calls Try.prog 4 #[.agg #[.int .i64 1, .int .i64 0], .agg #[.int .i64 0, .int .i64 0], .agg #[.int .i64 0, .int .i64 1]] w fun e w' => e = .returned (.tuple #[.agg #[.int .i64 0, .int .i64 0, .int .i64 1, .int .i64 0, .int .i64 0, .int .i64 1], .bool true]) ∧ Below w.heap.size w w' := by
  have c := tmake_any ⟨1, 0⟩ ⟨0, 0⟩ ⟨0, 1⟩ w
  rw [show mk ⟨1, 0⟩ ⟨0, 0⟩ ⟨0, 1⟩ = ⟨⟨0, 0⟩, ⟨1, 0⟩, ⟨0, 1⟩⟩ from by rw [Tri3.eq_iff, Pt.eq_iff, Pt.eq_iff, Pt.eq_iff]; decide +kernel] at c
  rw [show (!decide (ori ⟨1, 0⟩ ⟨0, 0⟩ ⟨0, 1⟩ = 0)) = true from by decide +kernel] at c
  exact c
theorem aw_1 (w : World) : Calls Try.prog 4 #[.agg #[.int .i64 0, .int .i64 0], .agg #[.int .i64 1, .int .i64 0], .agg #[.int .i64 2, .int .i64 0]] w fun e w' => e = .returned (.tuple #[.agg #[.int .i64 0, .int .i64 0, .int .i64 0, .int .i64 0, .int .i64 0, .int .i64 0], .bool false]) ∧ Below w.heap.size w w' := by
  have c := tmake_any ⟨0, 0⟩ ⟨1, 0⟩ ⟨2, 0⟩ w
  rw [show mk ⟨0, 0⟩ ⟨1, 0⟩ ⟨2, 0⟩ = ⟨⟨0, 0⟩, ⟨0, 0⟩, ⟨0, 0⟩⟩ from by rw [Tri3.eq_iff, Pt.eq_iff, Pt.eq_iff, Pt.eq_iff]; decide +kernel] at c
  rw [show (!decide (ori ⟨0, 0⟩ ⟨1, 0⟩ ⟨2, 0⟩ = 0)) = false from by decide +kernel] at c
  exact c
theorem aw_2 (w : World) : Calls Try.prog 9 #[.agg #[.int .i64 0, .int .i64 0, .int .i64 1, .int .i64 0, .int .i64 0, .int .i64 1], .int .i64 4] w fun e w' => e = .returned (.tuple #[.agg #[.int .i64 1, .int .i64 0], .agg #[.int .i64 0, .int .i64 1]]) ∧ Below w.heap.size w w' := by
  have c := edge_any ⟨⟨0, 0⟩, ⟨1, 0⟩, ⟨0, 1⟩⟩ 4 w
  rw [show crn ⟨⟨0, 0⟩, ⟨1, 0⟩, ⟨0, 1⟩⟩ 4 = ⟨1, 0⟩ from by rw [Pt.eq_iff]; decide +kernel] at c
  rw [show crn ⟨⟨0, 0⟩, ⟨1, 0⟩, ⟨0, 1⟩⟩ (4 + 1) = ⟨0, 1⟩ from by rw [Pt.eq_iff]; decide +kernel] at c
  exact c
theorem aw_3 (w : World) : Calls Try.prog 13 #[.agg #[.int .i64 0, .int .i64 0, .int .i64 1, .int .i64 0, .int .i64 0, .int .i64 1]] w fun e w' => e = .returned (.bool true) ∧ Below w.heap.size w w' := by
  have c := tvalid_any ⟨⟨0, 0⟩, ⟨1, 0⟩, ⟨0, 1⟩⟩ w
  rw [show valT ⟨⟨0, 0⟩, ⟨1, 0⟩, ⟨0, 1⟩⟩ = true from by decide +kernel] at c
  exact c
theorem aw_4 (w : World) : Calls Try.prog 10 #[.agg #[.int .i64 0, .int .i64 0, .int .i64 1, .int .i64 0, .int .i64 0, .int .i64 1], .int .i64 (-1)] w fun e w' => e = .returned (.agg #[.int .i64 0, .int .i64 1]) ∧ Below w.heap.size w w' := by
  have c := corner_any ⟨⟨0, 0⟩, ⟨1, 0⟩, ⟨0, 1⟩⟩ (-1) w
  rw [show crn ⟨⟨0, 0⟩, ⟨1, 0⟩, ⟨0, 1⟩⟩ (-1) = ⟨0, 1⟩ from by rw [Pt.eq_iff]; decide +kernel] at c
  exact c
theorem aw_5 (w : World) : Calls Try.prog 11 #[.agg #[.int .i64 0, .int .i64 0, .int .i64 1, .int .i64 0, .int .i64 0, .int .i64 1], .agg #[.int .i64 0, .int .i64 0]] w fun e w' => e = .returned (.bool true) ∧ Below w.heap.size w w' := by
  have c := has_any ⟨⟨0, 0⟩, ⟨1, 0⟩, ⟨0, 1⟩⟩ ⟨0, 0⟩ w
  rw [show hasS ⟨⟨0, 0⟩, ⟨1, 0⟩, ⟨0, 1⟩⟩ ⟨0, 0⟩ = true from by decide +kernel] at c
  exact c
theorem aw_6 (w : World) : Calls Try.prog 12 #[.agg #[.int .i64 0, .int .i64 0, .int .i64 1, .int .i64 0, .int .i64 0, .int .i64 1], .agg #[.int .i64 0, .int .i64 0]] w fun e w' => e = .returned (.bool false) ∧ Below w.heap.size w w' := by
  have c := ins_any ⟨⟨0, 0⟩, ⟨1, 0⟩, ⟨0, 1⟩⟩ ⟨0, 0⟩ w
  rw [show insS ⟨⟨0, 0⟩, ⟨1, 0⟩, ⟨0, 1⟩⟩ ⟨0, 0⟩ = false from by decide +kernel] at c
  exact c
theorem aw_7 (w : World) : Calls Try.prog 14 #[.agg #[.int .i64 0, .int .i64 0, .int .i64 1, .int .i64 0, .int .i64 0, .int .i64 1]] w fun e w' => e = .returned (.int .i64 1) ∧ Below w.heap.size w w' := by
  have c := twi_any ⟨⟨0, 0⟩, ⟨1, 0⟩, ⟨0, 1⟩⟩ w
  rw [show twi ⟨⟨0, 0⟩, ⟨1, 0⟩, ⟨0, 1⟩⟩ = 1 from by decide +kernel] at c
  exact c
theorem aw_8 (w : World) : Calls Try.prog 21 #[.agg #[.int .i64 0, .int .i64 0, .int .i64 1, .int .i64 0, .int .i64 0, .int .i64 1], .agg #[.int .i64 0, .int .i64 0, .int .i64 1, .int .i64 0, .int .i64 0, .int .i64 1]] w fun e w' => e = .returned (.int .i64 0) ∧ Below w.heap.size w w' := by
  have c := cmpT_any ⟨⟨0, 0⟩, ⟨1, 0⟩, ⟨0, 1⟩⟩ ⟨⟨0, 0⟩, ⟨1, 0⟩, ⟨0, 1⟩⟩ w
  rw [show cmpT ⟨⟨0, 0⟩, ⟨1, 0⟩, ⟨0, 1⟩⟩ ⟨⟨0, 0⟩, ⟨1, 0⟩, ⟨0, 1⟩⟩ = 0 from by decide +kernel] at c
  exact c
set_option maxRecDepth 100000 in
set_option maxHeartbeats 2000000 in
theorem awake_any (w : World) : Calls Try.prog 6 #[] w fun e w' => e = .returned (.bool true) ∧ Below w.heap.size w w' := by
  go_enter Try.func6, Try.ntmps6
  go_wp2_with fail
  refine at_call fun W0 hW => ?_
  have hw : Below w.heap.size w W0 := by rw [hW]; go_grown
  clear hW
  refine (aw_0 _).mono ?_
  rintro e w1 ⟨rfl, hb⟩
  replace hw := hw.trans (hb.mono hw.size)
  clear hb
  go_wp2_with fail
  refine at_call fun W2 hW => ?_
  obtain ⟨bkt, hbt⟩ : ∃ b, w1.heap.size = b := ⟨_, rfl⟩
  rw [hbt]
  have ft := hw.size
  rw [hbt] at ft
  have Bt : Box W2 bkt [.int .i64 0, .int .i64 0, .int .i64 1, .int .i64 0, .int .i64 0, .int .i64 1] 25 := by rw [hW]; exact Box.new hbt.symm
  replace hw : Below w.heap.size w W2 := by have hl := hw.size; rw [hW]; go_grown
  clear hW hbt
  refine (aw_1 _).mono ?_
  rintro e w3 ⟨rfl, hb⟩
  replace Bt := Bt.ext hb rfl
  replace hw := hw.trans (hb.mono hw.size)
  clear hb
  obtain ⟨xt, yt, zt, vt⟩ := Bt.facts
  go_wp2_with fail
  refine at_call fun W4 hW => ?_
  obtain ⟨bku, hbu⟩ : ∃ b, w3.heap.size = b := ⟨_, rfl⟩
  rw [hbu]
  have ltu := Bt.lt
  rw [hbu] at ltu
  have fu := hw.size
  rw [hbu] at fu
  have Bu : Box W4 bku [.int .i64 0, .int .i64 0, .int .i64 0, .int .i64 0, .int .i64 0, .int .i64 0] 25 := by rw [hW]; exact Box.new hbu.symm
  replace Bt : Box W4 (bkt) [.int .i64 0, .int .i64 0, .int .i64 1, .int .i64 0, .int .i64 0, .int .i64 1] 25 := by rw [hW]; exact Bt.old _
  replace hw : Below w.heap.size w W4 := by have hl := hw.size; rw [hW]; go_grown
  clear hW hbu
  refine (aw_2 _).mono ?_
  rintro e w5 ⟨rfl, hb⟩
  clear xt yt zt vt
  replace Bt := Bt.ext hb rfl
  replace Bu := Bu.ext hb rfl
  replace hw := hw.trans (hb.mono hw.size)
  clear hb
  obtain ⟨xt, yt, zt, vt⟩ := Bt.facts
  obtain ⟨xu, yu, zu, vu⟩ := Bu.facts
  go_wp2_with fail
  refine at_world fun W6 hW => ?_
  obtain ⟨bkp, hbp⟩ : ∃ b, w5.heap.size = b := ⟨_, rfl⟩
  rw [hbp]
  have ltp := Bt.lt
  rw [hbp] at ltp
  have lup := Bu.lt
  rw [hbp] at lup
  have fp := hw.size
  rw [hbp] at fp
  have Bp : Box W6 (bkp) [.int .i64 1, .int .i64 0] 23 := by rw [hW, ← hbp]; exact (Box.new rfl).old _
  have Bq : Box W6 (bkp + 1) [.int .i64 0, .int .i64 1] 23 := by rw [hW, ← hbp]; exact Box.new (by simp)
  replace Bt : Box W6 (bkt) [.int .i64 0, .int .i64 0, .int .i64 1, .int .i64 0, .int .i64 0, .int .i64 1] 25 := by rw [hW]; exact ((Bt).old _).old _
  replace Bu : Box W6 (bku) [.int .i64 0, .int .i64 0, .int .i64 0, .int .i64 0, .int .i64 0, .int .i64 0] 25 := by rw [hW]; exact ((Bu).old _).old _
  replace hw : Below w.heap.size w W6 := by have hl := hw.size; rw [hW]; go_grown
  clear hW hbp
  have gt := Bt.cells
  have gu := Bu.cells
  have gp := Bp.cells
  have gq := Bq.cells
  try simp only [List.append]
  refine wp_region_tail 59 (by kernel_rfl) (by kernel_rfl) (C := fun w' => ∃ p : Regrown, w' = grow (redrawn W6 p.d) p.os) (fun w' h => regrown_of_below h) ?_
  simp only [List.take_succ_cons, List.take_zero, List.drop_succ_cons, List.drop_zero]
  repeat (first | (refine rWalk_skip (Eq.refl false) ?_; simp only [Act.put, List.setIfInBounds_toArray, List.set_cons_succ, List.set_cons_zero]) | (refine rWalk_step (fun K hK => ?_); go_simp; first | (refine hK _ ?_; clear hK K) | (apply Exists.intro; refine ⟨fun _ => ?_, hK _ ?_⟩; (first | with_reducible exact toExt aw_3 _ | with_reducible exact toExt aw_4 _ | with_reducible exact toExt aw_5 _ | with_reducible exact toExt aw_6 _ | with_reducible exact toExt aw_7 _ | with_reducible exact toExt aw_8 _); clear hK K)))
  refine rWalk_nil ?_
  intro w7 hb
  clear gt gu gp gq
  clear xt yt zt vt xu yu zu vu
  replace Bt := Bt.ext hb rfl
  replace Bu := Bu.ext hb rfl
  replace Bp := Bp.ext hb rfl
  replace Bq := Bq.ext hb rfl
  replace hw := hw.trans (hb.mono hw.size)
  go_wp2
  go_ret
  exact ⟨rfl, hw⟩
end Go.Proofs.Ytijdbddjhnjcdaa
