/- What the document fixes of windows and ways, over the program. -/
import Derived.Test.YtomdlhdpbdkdhaaRows
import Derived.Test.YtomdlhdpbdkdhaaReC
import Derived.Test.YtomdlhdpbdkdhaaPost
import Derived.WalkKit
import Derived.WalkSpells
import Derived.WalkLawsBesides
import Derived.Laws.Externs
import Derived.Deep.QuietTactic
import Derived.BigQuiet
import Derived.Lib.Hide
import Derived.Handy
namespace Go.Proofs.Ytomdlhdpbdkdhaa
open Go.RowKit Go.Sort
attribute [local go_sem] rOper rAt rUpon cell_set sg_i64 sg_u64 alloc_cell alloc_frozen
attribute [local go_sem 10000] pt_eql pt_neq tri_eql
attribute [local irreducible] rWalk

theorem aw_0 (w : World) : Calls Try.prog 9 #[.agg #[.int .i64 0, .int .i64 0, .int .i64 1, .int .i64 0]] w fun e w' => e = .returned (.bool true) ∧ Below w.heap.size w w' := by
  have c := win_any ⟨0, 0, 1, 0⟩ w
  rw [show win ⟨0, 0, 1, 0⟩ = true by decide +kernel] at c
  exact c
theorem aw_1 (w : World) : Calls Try.prog 9 #[.agg #[.int .i64 2, .int .i64 0, .int .i64 1, .int .i64 0]] w fun e w' => e = .returned (.bool false) ∧ Below w.heap.size w w' := by
  have c := win_any ⟨2, 0, 1, 0⟩ w
  rw [show win ⟨2, 0, 1, 0⟩ = false by decide +kernel] at c
  exact c
theorem aw_2 (w : World) : Calls Try.prog 11 #[.agg #[.int .i64 0, .int .i64 0, .int .i64 4, .int .i64 0, .int .i64 0, .int .i64 4], .agg #[.int .i64 2, .int .i64 2, .int .i64 3, .int .i64 3]] w fun e w' => e = .returned (.bool true) ∧ Below w.heap.size w w' := by
  have c := ovl_any ⟨⟨0, 0⟩, ⟨4, 0⟩, ⟨0, 4⟩⟩ ⟨2, 2, 3, 3⟩ w
  rw [show ovl ⟨⟨0, 0⟩, ⟨4, 0⟩, ⟨0, 4⟩⟩ ⟨2, 2, 3, 3⟩ = true by decide +kernel] at c
  exact c
theorem aw_3 (w : World) : Calls Try.prog 11 #[.agg #[.int .i64 0, .int .i64 0, .int .i64 4, .int .i64 0, .int .i64 0, .int .i64 4], .agg #[.int .i64 3, .int .i64 2, .int .i64 3, .int .i64 3]] w fun e w' => e = .returned (.bool false) ∧ Below w.heap.size w w' := by
  have c := ovl_any ⟨⟨0, 0⟩, ⟨4, 0⟩, ⟨0, 4⟩⟩ ⟨3, 2, 3, 3⟩ w
  rw [show ovl ⟨⟨0, 0⟩, ⟨4, 0⟩, ⟨0, 4⟩⟩ ⟨3, 2, 3, 3⟩ = false by decide +kernel] at c
  exact c
theorem aw_4 (w : World) : Calls Try.prog 13 #[.agg #[.int .i64 0, .int .i64 0, .int .i64 4, .int .i64 0, .int .i64 0, .int .i64 4], .agg #[.int .i64 0, .int .i64 0], .agg #[.int .i64 4, .int .i64 0]] w fun e w' => e = .returned (.bool true) ∧ Below w.heap.size w w' := by
  have c := alg_any ⟨⟨0, 0⟩, ⟨4, 0⟩, ⟨0, 4⟩⟩ ⟨0, 0⟩ ⟨4, 0⟩ w
  rw [show alg ⟨⟨0, 0⟩, ⟨4, 0⟩, ⟨0, 4⟩⟩ ⟨0, 0⟩ ⟨4, 0⟩ = true by decide +kernel] at c
  exact c
theorem aw_5 (w : World) : Calls Try.prog 13 #[.agg #[.int .i64 0, .int .i64 0, .int .i64 4, .int .i64 0, .int .i64 0, .int .i64 4], .agg #[.int .i64 4, .int .i64 4], .agg #[.int .i64 4, .int .i64 0]] w fun e w' => e = .returned (.bool false) ∧ Below w.heap.size w w' := by
  have c := alg_any ⟨⟨0, 0⟩, ⟨4, 0⟩, ⟨0, 4⟩⟩ ⟨4, 4⟩ ⟨4, 0⟩ w
  rw [show alg ⟨⟨0, 0⟩, ⟨4, 0⟩, ⟨0, 4⟩⟩ ⟨4, 4⟩ ⟨4, 0⟩ = false by decide +kernel] at c
  exact c
theorem aw_6 (w : World) : Calls Try.prog 13 #[.agg #[.int .i64 0, .int .i64 0, .int .i64 4, .int .i64 0, .int .i64 0, .int .i64 4], .agg #[.int .i64 0, .int .i64 0], .agg #[.int .i64 0, .int .i64 0]] w fun e w' => e = .returned (.bool false) ∧ Below w.heap.size w w' := by
  have c := alg_any ⟨⟨0, 0⟩, ⟨4, 0⟩, ⟨0, 4⟩⟩ ⟨0, 0⟩ ⟨0, 0⟩ w
  rw [show alg ⟨⟨0, 0⟩, ⟨4, 0⟩, ⟨0, 4⟩⟩ ⟨0, 0⟩ ⟨0, 0⟩ = false by decide +kernel] at c
  exact c
theorem aw_7 (w : World) : Calls Try.prog 13 #[.agg #[.int .i64 0, .int .i64 0, .int .i64 4, .int .i64 0, .int .i64 0, .int .i64 4], .agg #[.int .i64 4, .int .i64 1], .agg #[.int .i64 0, .int .i64 1]] w fun e w' => e = .returned (.bool true) ∧ Below w.heap.size w w' := by
  have c := alg_any ⟨⟨0, 0⟩, ⟨4, 0⟩, ⟨0, 4⟩⟩ ⟨4, 1⟩ ⟨0, 1⟩ w
  rw [show alg ⟨⟨0, 0⟩, ⟨4, 0⟩, ⟨0, 4⟩⟩ ⟨4, 1⟩ ⟨0, 1⟩ = true by decide +kernel] at c
  exact c
set_option maxRecDepth 100000 in
set_option maxHeartbeats 2000000 in
theorem awake4_any (w : World) : Calls Try.prog 15 #[] w fun e w' => e = .returned (.bool true) ∧ Below w.heap.size w w' := by
  go_enter Try.func15, Try.ntmps15
  go_wp2_with fail
  refine at_call fun W1 hW => ?_
  have Bt : Box W1 (w.heap.size) [.int .i64 0, .int .i64 0, .int .i64 4, .int .i64 0, .int .i64 0, .int .i64 4] 25 := by rw [hW]; exact Box.new rfl
  have hw : Below w.heap.size w W1 := by rw [hW]; go_grown
  clear hW
  refine (aw_0 _).mono ?_
  rintro e w2 ⟨rfl, hb⟩
  replace Bt := Bt.ext hb rfl
  replace hw := hw.trans (hb.mono hw.size)
  clear hb
  obtain ⟨xt, yt, zt, vt⟩ := Bt.facts
  go_wp2_with fail
  refine (aw_1 _).mono ?_
  rintro e w3 ⟨rfl, hb⟩
  clear xt yt zt vt
  replace Bt := Bt.ext hb rfl
  replace hw := hw.trans (hb.mono hw.size)
  clear hb
  obtain ⟨xt, yt, zt, vt⟩ := Bt.facts
  go_wp2_with fail
  refine (aw_2 _).mono ?_
  rintro e w4 ⟨rfl, hb⟩
  clear xt yt zt vt
  replace Bt := Bt.ext hb rfl
  replace hw := hw.trans (hb.mono hw.size)
  clear hb
  obtain ⟨xt, yt, zt, vt⟩ := Bt.facts
  go_wp2_with fail
  refine (aw_3 _).mono ?_
  rintro e w5 ⟨rfl, hb⟩
  clear xt yt zt vt
  replace Bt := Bt.ext hb rfl
  replace hw := hw.trans (hb.mono hw.size)
  clear hb
  obtain ⟨xt, yt, zt, vt⟩ := Bt.facts
  go_wp2_with fail
  refine (aw_4 _).mono ?_
  rintro e w6 ⟨rfl, hb⟩
  clear xt yt zt vt
  replace Bt := Bt.ext hb rfl
  replace hw := hw.trans (hb.mono hw.size)
  clear hb
  obtain ⟨xt, yt, zt, vt⟩ := Bt.facts
  go_wp2_with fail
  refine (aw_5 _).mono ?_
  rintro e w7 ⟨rfl, hb⟩
  clear xt yt zt vt
  replace Bt := Bt.ext hb rfl
  replace hw := hw.trans (hb.mono hw.size)
  clear hb
  obtain ⟨xt, yt, zt, vt⟩ := Bt.facts
  go_wp2_with fail
  refine (aw_6 _).mono ?_
  rintro e w8 ⟨rfl, hb⟩
  clear xt yt zt vt
  replace Bt := Bt.ext hb rfl
  replace hw := hw.trans (hb.mono hw.size)
  clear hb
  obtain ⟨xt, yt, zt, vt⟩ := Bt.facts
  go_wp2_with fail
  refine (aw_7 _).mono ?_
  rintro e w9 ⟨rfl, hb⟩
  clear xt yt zt vt
  replace Bt := Bt.ext hb rfl
  replace hw := hw.trans (hb.mono hw.size)
  clear hb
  obtain ⟨xt, yt, zt, vt⟩ := Bt.facts
  go_wp2
  go_ret
  exact ⟨rfl, hw⟩
end Go.Proofs.Ytomdlhdpbdkdhaa
