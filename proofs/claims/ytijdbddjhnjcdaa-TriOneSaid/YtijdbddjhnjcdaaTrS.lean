/- The document's own SortPoints over three points, each another one. -/
import Derived.Test.YtijdbddjhnjcdaaRows
import Derived.Test.YtijdbddjhnjcdaaTrR
import Derived.Test.YtijdbddjhnjcdaaPost
import Derived.WalkKit
import Derived.WalkSpells
import Derived.WalkLawsBesides
import Derived.Laws.Externs
import Derived.Deep.QuietTactic
import Derived.BigQuiet
import Derived.Lib.Hide
import Derived.Handy
import Derived.LoopN
import Derived.OwnWalk
import Derived.Laws.AppendOwn
namespace Go.Proofs.Ytijdbddjhnjcdaa
open Go.RowKit Go.Sort
attribute [local go_sem] rOper rAt rUpon cell_set sg_i64 sg_u64 alloc_cell alloc_frozen
attribute [local go_sem 10000] pt_eql pt_neq
attribute [local irreducible] rWalk

set_option maxRecDepth 100000 in
set_option maxHeartbeats 2000000 in
theorem sort_00 (x y z : Pt) (h1 : cmpP x y = (-1)) (e1 : peqI x.x x.y y.x y.y = false) (h2 : cmpP y z = (-1)) (e2 : peqI y.x y.y z.x z.y = false) (w : World) (bk : Nat) (hB : Box w bk [.int .i64 x.x, .int .i64 x.y, .int .i64 y.x, .int .i64 y.y, .int .i64 z.x, .int .i64 z.y] 23) :
    Calls Try.prog 7 #[.slice (some ⟨bk, 0, none⟩) 3 3] w fun e w' => ∃ g cap tl, e = .returned (.slice (some ⟨g, 0, none⟩) 3 cap) ∧ w.heap.size ≤ g ∧ Box w' g ((.int .i64 x.x :: .int .i64 x.y :: .int .i64 y.x :: .int .i64 y.y :: .int .i64 z.x :: .int .i64 z.y :: tl)) 23 ∧ Below w.heap.size w w' := by
  have kh1 := rcmp_pt x y
  rw [h1] at kh1
  clear h1
  have kh2 := rcmp_pt y z
  rw [h2] at kh2
  clear h2
  have wq0 : IntKind.i64.wrap 0 = 0 := by decide
  have wq1 : IntKind.i64.wrap 1 = 1 := by decide
  have lbk := hB.lt
  have hw := Below.refl w.heap.size w
  have Bs := hB
  clear hB
  go_enter Try.func7, Try.ntmps7
  obtain ⟨xs, ys, zs, vs⟩ := Bs.facts
  go_wp2_with fail
  refine wp_loop_rounds 4 ?_
  try rw [rounds_succ (n := 3)]
  obtain ⟨xs, ys, zs, vs⟩ := Bs.facts
  go_wp2_with fail
  refine wp_loop_rounds 20 ?_
  try rw [rounds_succ (n := 19)]
  obtain ⟨xs, ys, zs, vs⟩ := Bs.facts
  go_wp2_with fail
  refine at_world fun W1 hW => ?_
  replace hw : Below w.heap.size w W1 := by rw [hW]; exact hw
  replace Bs : Box W1 (bk) [.int .i64 x.x, .int .i64 x.y, .int .i64 y.x, .int .i64 y.y, .int .i64 z.x, .int .i64 z.y] 23 := by rw [hW]; exact Bs
  clear hW
  clear xs ys zs vs
  have gs := Bs.cells
  refine wp_region_tail 14 (by kernel_rfl) (by kernel_rfl) (C := fun w' => ∃ p : Regrown, w' = grow (redrawn W1 p.d) p.os) (fun w' h => regrown_of_below h) ?_
  simp only [List.take_succ_cons, List.take_zero, List.drop_succ_cons, List.drop_zero]
  repeat (first | (refine rWalk_skip (Eq.refl false) ?_; simp only [Act.put, List.setIfInBounds_toArray, List.set_cons_succ, List.set_cons_zero]) | (refine rWalk_step (fun K hK => ?_); go_simp; first | (refine hK _ ?_; clear hK K) | (apply Exists.intro; refine ⟨fun _ => ?_, hK _ ?_⟩; (first | fail); clear hK K)))
  refine rWalk_nil ?_
  intro w2 hb
  clear gs
  replace Bs := Bs.ext hb rfl
  replace hw := hw.trans (hb.mono hw.size)
  obtain ⟨xs, ys, zs, vs⟩ := Bs.facts
  go_wp2_with fail
  refine at_world fun W3 hW => ?_
  replace hw : Below w.heap.size w W3 := by rw [hW]; exact hw
  replace Bs : Box W3 (bk) [.int .i64 x.x, .int .i64 x.y, .int .i64 y.x, .int .i64 y.y, .int .i64 z.x, .int .i64 z.y] 23 := by rw [hW]; exact Bs
  clear hW
  clear xs ys zs vs
  have gs := Bs.cells
  refine wp_region_tail 13 (by kernel_rfl) (by kernel_rfl) (C := fun w' => ∃ p : Regrown, w' = grow (redrawn W3 p.d) p.os) (fun w' h => regrown_of_below h) ?_
  simp only [List.take_succ_cons, List.take_zero, List.drop_succ_cons, List.drop_zero]
  repeat (first | (refine rWalk_skip (Eq.refl false) ?_; simp only [Act.put, List.setIfInBounds_toArray, List.set_cons_succ, List.set_cons_zero]) | (refine rWalk_step (fun K hK => ?_); go_simp; first | (refine hK _ ?_; clear hK K) | (apply Exists.intro; refine ⟨fun _ => ?_, hK _ ?_⟩; (first | fail); clear hK K)))
  refine rWalk_nil ?_
  intro w4 hb
  clear gs
  replace Bs := Bs.ext hb rfl
  replace hw := hw.trans (hb.mono hw.size)
  obtain ⟨xs, ys, zs, vs⟩ := Bs.facts
  go_wp2_with (at_builtin; refine append_pt rfl _ _ rfl w.heap.size 0 (.slice none 0 0) [] rfl (World.ownsRow_nil _ _ _ _) w4.heap.size x rfl (Box.new rfl) (by omega) (by have hl := hw.size; simp; omega) ?_; intro w5 g0 cap0 tl0 hg0 Bq hc0 hm0 ht0 hgr)
  have hz : w4.heap.size ≤ w5.heap.size := by have hl := hgr.size; simp at hl; omega
  replace hw : Below w.heap.size w w5 := Below.grown (hw.alloc hw.size _) hgr (by have hl := hw.size; simp; omega) (by intro k hk; simp [Value.ownBlock] at hk)
  clear xs ys zs vs
  replace Bs : Box w5 (bk) [.int .i64 x.x, .int .i64 x.y, .int .i64 y.x, .int .i64 y.y, .int .i64 z.x, .int .i64 z.y] 23 := (Bs.old _).grownBy hgr (by simp [Value.ownBlock])
  have Bo : Box w5 (g0) (.int .i64 x.x :: .int .i64 x.y :: tl0) 23 := Bq
  clear Bq hgr
  refine wp_loop_rounds 20 ?_
  try rw [rounds_succ (n := 19)]
  obtain ⟨xs, ys, zs, vs⟩ := Bs.facts
  obtain ⟨xo, yo, zo, vo⟩ := Bo.facts
  go_wp2_with fail
  refine at_world fun W6 hW => ?_
  have Cs : Box W6 (bk) [.int .i64 x.x, .int .i64 x.y, .int .i64 y.x, .int .i64 y.y, .int .i64 z.x, .int .i64 z.y] 23 := by rw [hW]; exact ((Bs.set_ne ⟨g0, 0, none⟩ ((.int .i64 x.x)) (by show (g0 : Nat) ≠ _; omega)).set_ne ⟨g0, 1, none⟩ ((.int .i64 x.y)) (by show (g0 : Nat) ≠ _; omega))
  have Co : Box W6 (g0) (.int .i64 x.x :: .int .i64 x.y :: tl0) 23 := by rw [hW]; exact ((Bo.set 0 ((.int .i64 x.x))).set 1 ((.int .i64 x.y)))
  replace hw : Below w.heap.size w W6 := by rw [hW]; exact Below.setCell (Below.setCell (hw) (by show w.heap.size ≤ (g0 : Nat); omega) _) (by show w.heap.size ≤ (g0 : Nat); omega) _
  clear xs ys zs vs xo yo zo vo
  clear hW Bs Bo
  have Bs := Cs
  have Bo := Co
  clear Cs Co
  try rw [rounds_succ (n := 2)]
  obtain ⟨xs, ys, zs, vs⟩ := Bs.facts
  obtain ⟨xo, yo, zo, vo⟩ := Bo.facts
  go_wp2_with fail
  refine wp_loop_rounds 20 ?_
  try rw [rounds_succ (n := 19)]
  obtain ⟨xs, ys, zs, vs⟩ := Bs.facts
  obtain ⟨xo, yo, zo, vo⟩ := Bo.facts
  go_wp2_with fail
  refine at_world fun W7 hW => ?_
  replace hw : Below w.heap.size w W7 := by rw [hW]; exact hw
  replace Bs : Box W7 (bk) [.int .i64 x.x, .int .i64 x.y, .int .i64 y.x, .int .i64 y.y, .int .i64 z.x, .int .i64 z.y] 23 := by rw [hW]; exact Bs
  replace Bo : Box W7 (g0) (.int .i64 x.x :: .int .i64 x.y :: tl0) 23 := by rw [hW]; exact Bo
  clear hW
  clear xs ys zs vs xo yo zo vo
  have gs := Bs.cells
  have go := Bo.cells
  refine wp_region_tail 14 (by kernel_rfl) (by kernel_rfl) (C := fun w' => ∃ p : Regrown, w' = grow (redrawn W7 p.d) p.os) (fun w' h => regrown_of_below h) ?_
  simp only [List.take_succ_cons, List.take_zero, List.drop_succ_cons, List.drop_zero]
  repeat (first | (refine rWalk_skip (Eq.refl false) ?_; simp only [Act.put, List.setIfInBounds_toArray, List.set_cons_succ, List.set_cons_zero]) | (refine rWalk_step (fun K hK => ?_); go_simp; first | (refine hK _ ?_; clear hK K) | (apply Exists.intro; refine ⟨fun _ => ?_, hK _ ?_⟩; (first | with_reducible exact toExt kh1 _); clear hK K)))
  refine rWalk_nil ?_
  intro w8 hb
  clear gs go
  replace Bs := Bs.ext hb rfl
  replace Bo := Bo.ext hb rfl
  replace hw := hw.trans (hb.mono hw.size)
  obtain ⟨xs, ys, zs, vs⟩ := Bs.facts
  obtain ⟨xo, yo, zo, vo⟩ := Bo.facts
  go_wp2_with fail
  refine at_world fun W9 hW => ?_
  replace hw : Below w.heap.size w W9 := by rw [hW]; exact hw
  replace Bs : Box W9 (bk) [.int .i64 x.x, .int .i64 x.y, .int .i64 y.x, .int .i64 y.y, .int .i64 z.x, .int .i64 z.y] 23 := by rw [hW]; exact Bs
  replace Bo : Box W9 (g0) (.int .i64 x.x :: .int .i64 x.y :: tl0) 23 := by rw [hW]; exact Bo
  clear hW
  clear xs ys zs vs xo yo zo vo
  have gs := Bs.cells
  have go := Bo.cells
  refine wp_region_tail 13 (by kernel_rfl) (by kernel_rfl) (C := fun w' => ∃ p : Regrown, w' = grow (redrawn W9 p.d) p.os) (fun w' h => regrown_of_below h) ?_
  simp only [List.take_succ_cons, List.take_zero, List.drop_succ_cons, List.drop_zero]
  repeat (first | (refine rWalk_skip (Eq.refl false) ?_; simp only [Act.put, List.setIfInBounds_toArray, List.set_cons_succ, List.set_cons_zero]) | (refine rWalk_step (fun K hK => ?_); go_simp; first | (refine hK _ ?_; clear hK K) | (apply Exists.intro; refine ⟨fun _ => ?_, hK _ ?_⟩; (first | fail); clear hK K)))
  refine rWalk_nil ?_
  intro w10 hb
  clear gs go
  replace Bs := Bs.ext hb rfl
  replace Bo := Bo.ext hb rfl
  replace hw := hw.trans (hb.mono hw.size)
  obtain ⟨xs, ys, zs, vs⟩ := Bs.facts
  obtain ⟨xo, yo, zo, vo⟩ := Bo.facts
  go_wp2_with (at_builtin; refine append_pt rfl _ _ rfl w.heap.size 1 (.slice (some ⟨g0, 0, none⟩) 1 cap0) [.int .i64 x.x, .int .i64 x.y] rfl ((owns_of_box (xs := [.int .i64 x.x, .int .i64 x.y]) (T := 23) Bo (by omega) rfl hc0 hm0 ht0).alloc _) w10.heap.size y rfl (Box.new rfl) (by omega) (by have hl := hw.size; simp; omega) ?_; intro w11 g1 cap1 tl1 hg1 Bq hc1 hm1 ht1 hgr)
  have hz : w10.heap.size ≤ w11.heap.size := by have hl := hgr.size; simp at hl; omega
  replace hw : Below w.heap.size w w11 := Below.grown (hw.alloc hw.size _) hgr (by have hl := hw.size; simp; omega) (by intro k hk; simp [Value.ownBlock] at hk; omega)
  clear xs ys zs vs xo yo zo vo
  replace Bs : Box w11 (bk) [.int .i64 x.x, .int .i64 x.y, .int .i64 y.x, .int .i64 y.y, .int .i64 z.x, .int .i64 z.y] 23 := (Bs.old _).grownBy hgr (by simp [Value.ownBlock]; omega)
  clear Bo
  have Bo : Box w11 (g1) (.int .i64 x.x :: .int .i64 x.y :: .int .i64 y.x :: .int .i64 y.y :: tl1) 23 := Bq
  clear Bq hgr
  refine wp_loop_rounds 20 ?_
  try rw [rounds_succ (n := 19)]
  obtain ⟨xs, ys, zs, vs⟩ := Bs.facts
  obtain ⟨xo, yo, zo, vo⟩ := Bo.facts
  go_wp2_with fail
  refine at_world fun W12 hW => ?_
  have Cs : Box W12 (bk) [.int .i64 x.x, .int .i64 x.y, .int .i64 y.x, .int .i64 y.y, .int .i64 z.x, .int .i64 z.y] 23 := by rw [hW]; exact ((Bs.set_ne ⟨g1, 2, none⟩ ((.int .i64 y.x)) (by show (g1 : Nat) ≠ _; omega)).set_ne ⟨g1, 3, none⟩ ((.int .i64 y.y)) (by show (g1 : Nat) ≠ _; omega))
  have Co : Box W12 (g1) (.int .i64 x.x :: .int .i64 x.y :: .int .i64 y.x :: .int .i64 y.y :: tl1) 23 := by rw [hW]; exact ((Bo.set 2 ((.int .i64 y.x))).set 3 ((.int .i64 y.y)))
  replace hw : Below w.heap.size w W12 := by rw [hW]; exact Below.setCell (Below.setCell (hw) (by show w.heap.size ≤ (g1 : Nat); omega) _) (by show w.heap.size ≤ (g1 : Nat); omega) _
  clear xs ys zs vs xo yo zo vo
  clear hW Bs Bo
  have Bs := Cs
  have Bo := Co
  clear Cs Co
  try rw [rounds_succ (n := 1)]
  obtain ⟨xs, ys, zs, vs⟩ := Bs.facts
  obtain ⟨xo, yo, zo, vo⟩ := Bo.facts
  go_wp2_with fail
  refine wp_loop_rounds 20 ?_
  try rw [rounds_succ (n := 19)]
  obtain ⟨xs, ys, zs, vs⟩ := Bs.facts
  obtain ⟨xo, yo, zo, vo⟩ := Bo.facts
  go_wp2_with fail
  refine at_world fun W13 hW => ?_
  replace hw : Below w.heap.size w W13 := by rw [hW]; exact hw
  replace Bs : Box W13 (bk) [.int .i64 x.x, .int .i64 x.y, .int .i64 y.x, .int .i64 y.y, .int .i64 z.x, .int .i64 z.y] 23 := by rw [hW]; exact Bs
  replace Bo : Box W13 (g1) (.int .i64 x.x :: .int .i64 x.y :: .int .i64 y.x :: .int .i64 y.y :: tl1) 23 := by rw [hW]; exact Bo
  clear hW
  clear xs ys zs vs xo yo zo vo
  have gs := Bs.cells
  have go := Bo.cells
  refine wp_region_tail 14 (by kernel_rfl) (by kernel_rfl) (C := fun w' => ∃ p : Regrown, w' = grow (redrawn W13 p.d) p.os) (fun w' h => regrown_of_below h) ?_
  simp only [List.take_succ_cons, List.take_zero, List.drop_succ_cons, List.drop_zero]
  repeat (first | (refine rWalk_skip (Eq.refl false) ?_; simp only [Act.put, List.setIfInBounds_toArray, List.set_cons_succ, List.set_cons_zero]) | (refine rWalk_step (fun K hK => ?_); go_simp; first | (refine hK _ ?_; clear hK K) | (apply Exists.intro; refine ⟨fun _ => ?_, hK _ ?_⟩; (first | with_reducible exact toExt kh2 _); clear hK K)))
  refine rWalk_nil ?_
  intro w14 hb
  clear gs go
  replace Bs := Bs.ext hb rfl
  replace Bo := Bo.ext hb rfl
  replace hw := hw.trans (hb.mono hw.size)
  obtain ⟨xs, ys, zs, vs⟩ := Bs.facts
  obtain ⟨xo, yo, zo, vo⟩ := Bo.facts
  go_wp2_with fail
  refine at_world fun W15 hW => ?_
  replace hw : Below w.heap.size w W15 := by rw [hW]; exact hw
  replace Bs : Box W15 (bk) [.int .i64 x.x, .int .i64 x.y, .int .i64 y.x, .int .i64 y.y, .int .i64 z.x, .int .i64 z.y] 23 := by rw [hW]; exact Bs
  replace Bo : Box W15 (g1) (.int .i64 x.x :: .int .i64 x.y :: .int .i64 y.x :: .int .i64 y.y :: tl1) 23 := by rw [hW]; exact Bo
  clear hW
  clear xs ys zs vs xo yo zo vo
  have gs := Bs.cells
  have go := Bo.cells
  refine wp_region_tail 13 (by kernel_rfl) (by kernel_rfl) (C := fun w' => ∃ p : Regrown, w' = grow (redrawn W15 p.d) p.os) (fun w' h => regrown_of_below h) ?_
  simp only [List.take_succ_cons, List.take_zero, List.drop_succ_cons, List.drop_zero]
  repeat (first | (refine rWalk_skip (Eq.refl false) ?_; simp only [Act.put, List.setIfInBounds_toArray, List.set_cons_succ, List.set_cons_zero]) | (refine rWalk_step (fun K hK => ?_); go_simp; first | (refine hK _ ?_; clear hK K) | (apply Exists.intro; refine ⟨fun _ => ?_, hK _ ?_⟩; (first | fail); clear hK K)))
  refine rWalk_nil ?_
  intro w16 hb
  clear gs go
  replace Bs := Bs.ext hb rfl
  replace Bo := Bo.ext hb rfl
  replace hw := hw.trans (hb.mono hw.size)
  obtain ⟨xs, ys, zs, vs⟩ := Bs.facts
  obtain ⟨xo, yo, zo, vo⟩ := Bo.facts
  go_wp2_with (at_builtin; refine append_pt rfl _ _ rfl w.heap.size 2 (.slice (some ⟨g1, 0, none⟩) 2 cap1) [.int .i64 x.x, .int .i64 x.y, .int .i64 y.x, .int .i64 y.y] rfl ((owns_of_box (xs := [.int .i64 x.x, .int .i64 x.y, .int .i64 y.x, .int .i64 y.y]) (T := 23) Bo (by omega) rfl hc1 hm1 ht1).alloc _) w16.heap.size z rfl (Box.new rfl) (by omega) (by have hl := hw.size; simp; omega) ?_; intro w17 g2 cap2 tl2 hg2 Bq hc2 hm2 ht2 hgr)
  have hz : w16.heap.size ≤ w17.heap.size := by have hl := hgr.size; simp at hl; omega
  replace hw : Below w.heap.size w w17 := Below.grown (hw.alloc hw.size _) hgr (by have hl := hw.size; simp; omega) (by intro k hk; simp [Value.ownBlock] at hk; omega)
  clear xs ys zs vs xo yo zo vo
  replace Bs : Box w17 (bk) [.int .i64 x.x, .int .i64 x.y, .int .i64 y.x, .int .i64 y.y, .int .i64 z.x, .int .i64 z.y] 23 := (Bs.old _).grownBy hgr (by simp [Value.ownBlock]; omega)
  clear Bo
  have Bo : Box w17 (g2) (.int .i64 x.x :: .int .i64 x.y :: .int .i64 y.x :: .int .i64 y.y :: .int .i64 z.x :: .int .i64 z.y :: tl2) 23 := Bq
  clear Bq hgr
  refine wp_loop_rounds 20 ?_
  try rw [rounds_succ (n := 19)]
  obtain ⟨xs, ys, zs, vs⟩ := Bs.facts
  obtain ⟨xo, yo, zo, vo⟩ := Bo.facts
  go_wp2_with fail
  refine at_world fun W18 hW => ?_
  have Cs : Box W18 (bk) [.int .i64 x.x, .int .i64 x.y, .int .i64 y.x, .int .i64 y.y, .int .i64 z.x, .int .i64 z.y] 23 := by rw [hW]; exact ((Bs.set_ne ⟨g2, 4, none⟩ ((.int .i64 z.x)) (by show (g2 : Nat) ≠ _; omega)).set_ne ⟨g2, 5, none⟩ ((.int .i64 z.y)) (by show (g2 : Nat) ≠ _; omega))
  have Co : Box W18 (g2) (.int .i64 x.x :: .int .i64 x.y :: .int .i64 y.x :: .int .i64 y.y :: .int .i64 z.x :: .int .i64 z.y :: tl2) 23 := by rw [hW]; exact ((Bo.set 4 ((.int .i64 z.x))).set 5 ((.int .i64 z.y)))
  replace hw : Below w.heap.size w W18 := by rw [hW]; exact Below.setCell (Below.setCell (hw) (by show w.heap.size ≤ (g2 : Nat); omega) _) (by show w.heap.size ≤ (g2 : Nat); omega) _
  clear xs ys zs vs xo yo zo vo
  clear hW Bs Bo
  have Bs := Cs
  have Bo := Co
  clear Cs Co
  try rw [rounds_succ (n := 0)]
  obtain ⟨xs, ys, zs, vs⟩ := Bs.facts
  obtain ⟨xo, yo, zo, vo⟩ := Bo.facts
  go_wp2_with fail
  refine bodyPost_ret (v := .slice (some ⟨g2, 0, none⟩) 3 cap2) (by simp [results, Try.results7, go_sem]) rfl ⟨g2, ⟨cap2, rfl⟩, hg2, ⟨tl2, Bo⟩, hw⟩

set_option maxRecDepth 100000 in
set_option maxHeartbeats 2000000 in
theorem sort_01 (x y z : Pt) (h1 : cmpP x y = (-1)) (e1 : peqI x.x x.y y.x y.y = false) (h2 : cmpP y z = 1) (h3 : cmpP x z = (-1)) (e2 : peqI x.x x.y z.x z.y = false) (w : World) (bk : Nat) (hB : Box w bk [.int .i64 x.x, .int .i64 x.y, .int .i64 y.x, .int .i64 y.y, .int .i64 z.x, .int .i64 z.y] 23) :
    Calls Try.prog 7 #[.slice (some ⟨bk, 0, none⟩) 3 3] w fun e w' => ∃ g cap tl, e = .returned (.slice (some ⟨g, 0, none⟩) 3 cap) ∧ w.heap.size ≤ g ∧ Box w' g ((.int .i64 x.x :: .int .i64 x.y :: .int .i64 z.x :: .int .i64 z.y :: .int .i64 y.x :: .int .i64 y.y :: tl)) 23 ∧ Below w.heap.size w w' := by
  have kh1 := rcmp_pt x y
  rw [h1] at kh1
  clear h1
  have kh2 := rcmp_pt y z
  rw [h2] at kh2
  clear h2
  have kh3 := rcmp_pt x z
  rw [h3] at kh3
  clear h3
  have wq0 : IntKind.i64.wrap 0 = 0 := by decide
  have wq1 : IntKind.i64.wrap 1 = 1 := by decide
  have lbk := hB.lt
  have hw := Below.refl w.heap.size w
  have Bs := hB
  clear hB
  go_enter Try.func7, Try.ntmps7
  obtain ⟨xs, ys, zs, vs⟩ := Bs.facts
  go_wp2_with fail
  refine wp_loop_rounds 4 ?_
  try rw [rounds_succ (n := 3)]
  obtain ⟨xs, ys, zs, vs⟩ := Bs.facts
  go_wp2_with fail
  refine wp_loop_rounds 20 ?_
  try rw [rounds_succ (n := 19)]
  obtain ⟨xs, ys, zs, vs⟩ := Bs.facts
  go_wp2_with fail
  refine at_world fun W1 hW => ?_
  replace hw : Below w.heap.size w W1 := by rw [hW]; exact hw
  replace Bs : Box W1 (bk) [.int .i64 x.x, .int .i64 x.y, .int .i64 y.x, .int .i64 y.y, .int .i64 z.x, .int .i64 z.y] 23 := by rw [hW]; exact Bs
  clear hW
  clear xs ys zs vs
  have gs := Bs.cells
  refine wp_region_tail 14 (by kernel_rfl) (by kernel_rfl) (C := fun w' => ∃ p : Regrown, w' = grow (redrawn W1 p.d) p.os) (fun w' h => regrown_of_below h) ?_
  simp only [List.take_succ_cons, List.take_zero, List.drop_succ_cons, List.drop_zero]
  repeat (first | (refine rWalk_skip (Eq.refl false) ?_; simp only [Act.put, List.setIfInBounds_toArray, List.set_cons_succ, List.set_cons_zero]) | (refine rWalk_step (fun K hK => ?_); go_simp; first | (refine hK _ ?_; clear hK K) | (apply Exists.intro; refine ⟨fun _ => ?_, hK _ ?_⟩; (first | fail); clear hK K)))
  refine rWalk_nil ?_
  intro w2 hb
  clear gs
  replace Bs := Bs.ext hb rfl
  replace hw := hw.trans (hb.mono hw.size)
  obtain ⟨xs, ys, zs, vs⟩ := Bs.facts
  go_wp2_with fail
  refine at_world fun W3 hW => ?_
  replace hw : Below w.heap.size w W3 := by rw [hW]; exact hw
  replace Bs : Box W3 (bk) [.int .i64 x.x, .int .i64 x.y, .int .i64 y.x, .int .i64 y.y, .int .i64 z.x, .int .i64 z.y] 23 := by rw [hW]; exact Bs
  clear hW
  clear xs ys zs vs
  have gs := Bs.cells
  refine wp_region_tail 13 (by kernel_rfl) (by kernel_rfl) (C := fun w' => ∃ p : Regrown, w' = grow (redrawn W3 p.d) p.os) (fun w' h => regrown_of_below h) ?_
  simp only [List.take_succ_cons, List.take_zero, List.drop_succ_cons, List.drop_zero]
  repeat (first | (refine rWalk_skip (Eq.refl false) ?_; simp only [Act.put, List.setIfInBounds_toArray, List.set_cons_succ, List.set_cons_zero]) | (refine rWalk_step (fun K hK => ?_); go_simp; first | (refine hK _ ?_; clear hK K) | (apply Exists.intro; refine ⟨fun _ => ?_, hK _ ?_⟩; (first | fail); clear hK K)))
  refine rWalk_nil ?_
  intro w4 hb
  clear gs
  replace Bs := Bs.ext hb rfl
  replace hw := hw.trans (hb.mono hw.size)
  obtain ⟨xs, ys, zs, vs⟩ := Bs.facts
  go_wp2_with (at_builtin; refine append_pt rfl _ _ rfl w.heap.size 0 (.slice none 0 0) [] rfl (World.ownsRow_nil _ _ _ _) w4.heap.size x rfl (Box.new rfl) (by omega) (by have hl := hw.size; simp; omega) ?_; intro w5 g0 cap0 tl0 hg0 Bq hc0 hm0 ht0 hgr)
  have hz : w4.heap.size ≤ w5.heap.size := by have hl := hgr.size; simp at hl; omega
  replace hw : Below w.heap.size w w5 := Below.grown (hw.alloc hw.size _) hgr (by have hl := hw.size; simp; omega) (by intro k hk; simp [Value.ownBlock] at hk)
  clear xs ys zs vs
  replace Bs : Box w5 (bk) [.int .i64 x.x, .int .i64 x.y, .int .i64 y.x, .int .i64 y.y, .int .i64 z.x, .int .i64 z.y] 23 := (Bs.old _).grownBy hgr (by simp [Value.ownBlock])
  have Bo : Box w5 (g0) (.int .i64 x.x :: .int .i64 x.y :: tl0) 23 := Bq
  clear Bq hgr
  refine wp_loop_rounds 20 ?_
  try rw [rounds_succ (n := 19)]
  obtain ⟨xs, ys, zs, vs⟩ := Bs.facts
  obtain ⟨xo, yo, zo, vo⟩ := Bo.facts
  go_wp2_with fail
  refine at_world fun W6 hW => ?_
  have Cs : Box W6 (bk) [.int .i64 x.x, .int .i64 x.y, .int .i64 y.x, .int .i64 y.y, .int .i64 z.x, .int .i64 z.y] 23 := by rw [hW]; exact ((Bs.set_ne ⟨g0, 0, none⟩ ((.int .i64 x.x)) (by show (g0 : Nat) ≠ _; omega)).set_ne ⟨g0, 1, none⟩ ((.int .i64 x.y)) (by show (g0 : Nat) ≠ _; omega))
  have Co : Box W6 (g0) (.int .i64 x.x :: .int .i64 x.y :: tl0) 23 := by rw [hW]; exact ((Bo.set 0 ((.int .i64 x.x))).set 1 ((.int .i64 x.y)))
  replace hw : Below w.heap.size w W6 := by rw [hW]; exact Below.setCell (Below.setCell (hw) (by show w.heap.size ≤ (g0 : Nat); omega) _) (by show w.heap.size ≤ (g0 : Nat); omega) _
  clear xs ys zs vs xo yo zo vo
  clear hW Bs Bo
  have Bs := Cs
  have Bo := Co
  clear Cs Co
  try rw [rounds_succ (n := 2)]
  obtain ⟨xs, ys, zs, vs⟩ := Bs.facts
  obtain ⟨xo, yo, zo, vo⟩ := Bo.facts
  go_wp2_with fail
  refine wp_loop_rounds 20 ?_
  try rw [rounds_succ (n := 19)]
  obtain ⟨xs, ys, zs, vs⟩ := Bs.facts
  obtain ⟨xo, yo, zo, vo⟩ := Bo.facts
  go_wp2_with fail
  refine at_world fun W7 hW => ?_
  replace hw : Below w.heap.size w W7 := by rw [hW]; exact hw
  replace Bs : Box W7 (bk) [.int .i64 x.x, .int .i64 x.y, .int .i64 y.x, .int .i64 y.y, .int .i64 z.x, .int .i64 z.y] 23 := by rw [hW]; exact Bs
  replace Bo : Box W7 (g0) (.int .i64 x.x :: .int .i64 x.y :: tl0) 23 := by rw [hW]; exact Bo
  clear hW
  clear xs ys zs vs xo yo zo vo
  have gs := Bs.cells
  have go := Bo.cells
  refine wp_region_tail 14 (by kernel_rfl) (by kernel_rfl) (C := fun w' => ∃ p : Regrown, w' = grow (redrawn W7 p.d) p.os) (fun w' h => regrown_of_below h) ?_
  simp only [List.take_succ_cons, List.take_zero, List.drop_succ_cons, List.drop_zero]
  repeat (first | (refine rWalk_skip (Eq.refl false) ?_; simp only [Act.put, List.setIfInBounds_toArray, List.set_cons_succ, List.set_cons_zero]) | (refine rWalk_step (fun K hK => ?_); go_simp; first | (refine hK _ ?_; clear hK K) | (apply Exists.intro; refine ⟨fun _ => ?_, hK _ ?_⟩; (first | with_reducible exact toExt kh1 _); clear hK K)))
  refine rWalk_nil ?_
  intro w8 hb
  clear gs go
  replace Bs := Bs.ext hb rfl
  replace Bo := Bo.ext hb rfl
  replace hw := hw.trans (hb.mono hw.size)
  obtain ⟨xs, ys, zs, vs⟩ := Bs.facts
  obtain ⟨xo, yo, zo, vo⟩ := Bo.facts
  go_wp2_with fail
  refine at_world fun W9 hW => ?_
  replace hw : Below w.heap.size w W9 := by rw [hW]; exact hw
  replace Bs : Box W9 (bk) [.int .i64 x.x, .int .i64 x.y, .int .i64 y.x, .int .i64 y.y, .int .i64 z.x, .int .i64 z.y] 23 := by rw [hW]; exact Bs
  replace Bo : Box W9 (g0) (.int .i64 x.x :: .int .i64 x.y :: tl0) 23 := by rw [hW]; exact Bo
  clear hW
  clear xs ys zs vs xo yo zo vo
  have gs := Bs.cells
  have go := Bo.cells
  refine wp_region_tail 13 (by kernel_rfl) (by kernel_rfl) (C := fun w' => ∃ p : Regrown, w' = grow (redrawn W9 p.d) p.os) (fun w' h => regrown_of_below h) ?_
  simp only [List.take_succ_cons, List.take_zero, List.drop_succ_cons, List.drop_zero]
  repeat (first | (refine rWalk_skip (Eq.refl false) ?_; simp only [Act.put, List.setIfInBounds_toArray, List.set_cons_succ, List.set_cons_zero]) | (refine rWalk_step (fun K hK => ?_); go_simp; first | (refine hK _ ?_; clear hK K) | (apply Exists.intro; refine ⟨fun _ => ?_, hK _ ?_⟩; (first | fail); clear hK K)))
  refine rWalk_nil ?_
  intro w10 hb
  clear gs go
  replace Bs := Bs.ext hb rfl
  replace Bo := Bo.ext hb rfl
  replace hw := hw.trans (hb.mono hw.size)
  obtain ⟨xs, ys, zs, vs⟩ := Bs.facts
  obtain ⟨xo, yo, zo, vo⟩ := Bo.facts
  go_wp2_with (at_builtin; refine append_pt rfl _ _ rfl w.heap.size 1 (.slice (some ⟨g0, 0, none⟩) 1 cap0) [.int .i64 x.x, .int .i64 x.y] rfl ((owns_of_box (xs := [.int .i64 x.x, .int .i64 x.y]) (T := 23) Bo (by omega) rfl hc0 hm0 ht0).alloc _) w10.heap.size y rfl (Box.new rfl) (by omega) (by have hl := hw.size; simp; omega) ?_; intro w11 g1 cap1 tl1 hg1 Bq hc1 hm1 ht1 hgr)
  have hz : w10.heap.size ≤ w11.heap.size := by have hl := hgr.size; simp at hl; omega
  replace hw : Below w.heap.size w w11 := Below.grown (hw.alloc hw.size _) hgr (by have hl := hw.size; simp; omega) (by intro k hk; simp [Value.ownBlock] at hk; omega)
  clear xs ys zs vs xo yo zo vo
  replace Bs : Box w11 (bk) [.int .i64 x.x, .int .i64 x.y, .int .i64 y.x, .int .i64 y.y, .int .i64 z.x, .int .i64 z.y] 23 := (Bs.old _).grownBy hgr (by simp [Value.ownBlock]; omega)
  clear Bo
  have Bo : Box w11 (g1) (.int .i64 x.x :: .int .i64 x.y :: .int .i64 y.x :: .int .i64 y.y :: tl1) 23 := Bq
  clear Bq hgr
  refine wp_loop_rounds 20 ?_
  try rw [rounds_succ (n := 19)]
  obtain ⟨xs, ys, zs, vs⟩ := Bs.facts
  obtain ⟨xo, yo, zo, vo⟩ := Bo.facts
  go_wp2_with fail
  refine at_world fun W12 hW => ?_
  have Cs : Box W12 (bk) [.int .i64 x.x, .int .i64 x.y, .int .i64 y.x, .int .i64 y.y, .int .i64 z.x, .int .i64 z.y] 23 := by rw [hW]; exact ((Bs.set_ne ⟨g1, 2, none⟩ ((.int .i64 y.x)) (by show (g1 : Nat) ≠ _; omega)).set_ne ⟨g1, 3, none⟩ ((.int .i64 y.y)) (by show (g1 : Nat) ≠ _; omega))
  have Co : Box W12 (g1) (.int .i64 x.x :: .int .i64 x.y :: .int .i64 y.x :: .int .i64 y.y :: tl1) 23 := by rw [hW]; exact ((Bo.set 2 ((.int .i64 y.x))).set 3 ((.int .i64 y.y)))
  replace hw : Below w.heap.size w W12 := by rw [hW]; exact Below.setCell (Below.setCell (hw) (by show w.heap.size ≤ (g1 : Nat); omega) _) (by show w.heap.size ≤ (g1 : Nat); omega) _
  clear xs ys zs vs xo yo zo vo
  clear hW Bs Bo
  have Bs := Cs
  have Bo := Co
  clear Cs Co
  try rw [rounds_succ (n := 1)]
  obtain ⟨xs, ys, zs, vs⟩ := Bs.facts
  obtain ⟨xo, yo, zo, vo⟩ := Bo.facts
  go_wp2_with fail
  refine wp_loop_rounds 20 ?_
  try rw [rounds_succ (n := 19)]
  obtain ⟨xs, ys, zs, vs⟩ := Bs.facts
  obtain ⟨xo, yo, zo, vo⟩ := Bo.facts
  go_wp2_with fail
  refine at_world fun W13 hW => ?_
  replace hw : Below w.heap.size w W13 := by rw [hW]; exact hw
  replace Bs : Box W13 (bk) [.int .i64 x.x, .int .i64 x.y, .int .i64 y.x, .int .i64 y.y, .int .i64 z.x, .int .i64 z.y] 23 := by rw [hW]; exact Bs
  replace Bo : Box W13 (g1) (.int .i64 x.x :: .int .i64 x.y :: .int .i64 y.x :: .int .i64 y.y :: tl1) 23 := by rw [hW]; exact Bo
  clear hW
  clear xs ys zs vs xo yo zo vo
  have gs := Bs.cells
  have go := Bo.cells
  refine wp_region_tail 14 (by kernel_rfl) (by kernel_rfl) (C := fun w' => ∃ p : Regrown, w' = grow (redrawn W13 p.d) p.os) (fun w' h => regrown_of_below h) ?_
  simp only [List.take_succ_cons, List.take_zero, List.drop_succ_cons, List.drop_zero]
  repeat (first | (refine rWalk_skip (Eq.refl false) ?_; simp only [Act.put, List.setIfInBounds_toArray, List.set_cons_succ, List.set_cons_zero]) | (refine rWalk_step (fun K hK => ?_); go_simp; first | (refine hK _ ?_; clear hK K) | (apply Exists.intro; refine ⟨fun _ => ?_, hK _ ?_⟩; (first | with_reducible exact toExt kh2 _); clear hK K)))
  refine rWalk_nil ?_
  intro w14 hb
  clear gs go
  replace Bs := Bs.ext hb rfl
  replace Bo := Bo.ext hb rfl
  replace hw := hw.trans (hb.mono hw.size)
  obtain ⟨xs, ys, zs, vs⟩ := Bs.facts
  obtain ⟨xo, yo, zo, vo⟩ := Bo.facts
  go_wp2_with fail
  try rw [rounds_succ (n := 18)]
  obtain ⟨xs, ys, zs, vs⟩ := Bs.facts
  obtain ⟨xo, yo, zo, vo⟩ := Bo.facts
  go_wp2_with fail
  refine at_world fun W15 hW => ?_
  replace hw : Below w.heap.size w W15 := by rw [hW]; exact hw
  replace Bs : Box W15 (bk) [.int .i64 x.x, .int .i64 x.y, .int .i64 y.x, .int .i64 y.y, .int .i64 z.x, .int .i64 z.y] 23 := by rw [hW]; exact Bs
  replace Bo : Box W15 (g1) (.int .i64 x.x :: .int .i64 x.y :: .int .i64 y.x :: .int .i64 y.y :: tl1) 23 := by rw [hW]; exact Bo
  clear hW
  clear xs ys zs vs xo yo zo vo
  have gs := Bs.cells
  have go := Bo.cells
  refine wp_region_tail 14 (by kernel_rfl) (by kernel_rfl) (C := fun w' => ∃ p : Regrown, w' = grow (redrawn W15 p.d) p.os) (fun w' h => regrown_of_below h) ?_
  simp only [List.take_succ_cons, List.take_zero, List.drop_succ_cons, List.drop_zero]
  repeat (first | (refine rWalk_skip (Eq.refl false) ?_; simp only [Act.put, List.setIfInBounds_toArray, List.set_cons_succ, List.set_cons_zero]) | (refine rWalk_step (fun K hK => ?_); go_simp; first | (refine hK _ ?_; clear hK K) | (apply Exists.intro; refine ⟨fun _ => ?_, hK _ ?_⟩; (first | with_reducible exact toExt kh3 _); clear hK K)))
  refine rWalk_nil ?_
  intro w16 hb
  clear gs go
  replace Bs := Bs.ext hb rfl
  replace Bo := Bo.ext hb rfl
  replace hw := hw.trans (hb.mono hw.size)
  obtain ⟨xs, ys, zs, vs⟩ := Bs.facts
  obtain ⟨xo, yo, zo, vo⟩ := Bo.facts
  go_wp2_with fail
  refine at_world fun W17 hW => ?_
  replace hw : Below w.heap.size w W17 := by rw [hW]; exact hw
  replace Bs : Box W17 (bk) [.int .i64 x.x, .int .i64 x.y, .int .i64 y.x, .int .i64 y.y, .int .i64 z.x, .int .i64 z.y] 23 := by rw [hW]; exact Bs
  replace Bo : Box W17 (g1) (.int .i64 x.x :: .int .i64 x.y :: .int .i64 y.x :: .int .i64 y.y :: tl1) 23 := by rw [hW]; exact Bo
  clear hW
  clear xs ys zs vs xo yo zo vo
  have gs := Bs.cells
  have go := Bo.cells
  refine wp_region_tail 13 (by kernel_rfl) (by kernel_rfl) (C := fun w' => ∃ p : Regrown, w' = grow (redrawn W17 p.d) p.os) (fun w' h => regrown_of_below h) ?_
  simp only [List.take_succ_cons, List.take_zero, List.drop_succ_cons, List.drop_zero]
  repeat (first | (refine rWalk_skip (Eq.refl false) ?_; simp only [Act.put, List.setIfInBounds_toArray, List.set_cons_succ, List.set_cons_zero]) | (refine rWalk_step (fun K hK => ?_); go_simp; first | (refine hK _ ?_; clear hK K) | (apply Exists.intro; refine ⟨fun _ => ?_, hK _ ?_⟩; (first | fail); clear hK K)))
  refine rWalk_nil ?_
  intro w18 hb
  clear gs go
  replace Bs := Bs.ext hb rfl
  replace Bo := Bo.ext hb rfl
  replace hw := hw.trans (hb.mono hw.size)
  obtain ⟨xs, ys, zs, vs⟩ := Bs.facts
  obtain ⟨xo, yo, zo, vo⟩ := Bo.facts
  go_wp2_with (at_builtin; refine append_pt rfl _ _ rfl w.heap.size 2 (.slice (some ⟨g1, 0, none⟩) 2 cap1) [.int .i64 x.x, .int .i64 x.y, .int .i64 y.x, .int .i64 y.y] rfl ((owns_of_box (xs := [.int .i64 x.x, .int .i64 x.y, .int .i64 y.x, .int .i64 y.y]) (T := 23) Bo (by omega) rfl hc1 hm1 ht1).alloc _) w18.heap.size z rfl (Box.new rfl) (by omega) (by have hl := hw.size; simp; omega) ?_; intro w19 g2 cap2 tl2 hg2 Bq hc2 hm2 ht2 hgr)
  have hz : w18.heap.size ≤ w19.heap.size := by have hl := hgr.size; simp at hl; omega
  replace hw : Below w.heap.size w w19 := Below.grown (hw.alloc hw.size _) hgr (by have hl := hw.size; simp; omega) (by intro k hk; simp [Value.ownBlock] at hk; omega)
  clear xs ys zs vs xo yo zo vo
  replace Bs : Box w19 (bk) [.int .i64 x.x, .int .i64 x.y, .int .i64 y.x, .int .i64 y.y, .int .i64 z.x, .int .i64 z.y] 23 := (Bs.old _).grownBy hgr (by simp [Value.ownBlock]; omega)
  clear Bo
  have Bo : Box w19 (g2) (.int .i64 x.x :: .int .i64 x.y :: .int .i64 y.x :: .int .i64 y.y :: .int .i64 z.x :: .int .i64 z.y :: tl2) 23 := Bq
  clear Bq hgr
  refine wp_loop_rounds 20 ?_
  try rw [rounds_succ (n := 19)]
  obtain ⟨xs, ys, zs, vs⟩ := Bs.facts
  obtain ⟨xo, yo, zo, vo⟩ := Bo.facts
  go_wp2_with fail
  refine at_world fun W20 hW => ?_
  have Cs : Box W20 (bk) [.int .i64 x.x, .int .i64 x.y, .int .i64 y.x, .int .i64 y.y, .int .i64 z.x, .int .i64 z.y] 23 := by rw [hW]; exact ((Bs.set_ne ⟨g2, 4, none⟩ ((.int .i64 y.x)) (by show (g2 : Nat) ≠ _; omega)).set_ne ⟨g2, 5, none⟩ ((.int .i64 y.y)) (by show (g2 : Nat) ≠ _; omega))
  have Co : Box W20 (g2) (.int .i64 x.x :: .int .i64 x.y :: .int .i64 y.x :: .int .i64 y.y :: .int .i64 y.x :: .int .i64 y.y :: tl2) 23 := by rw [hW]; exact ((Bo.set 4 ((.int .i64 y.x))).set 5 ((.int .i64 y.y)))
  replace hw : Below w.heap.size w W20 := by rw [hW]; exact Below.setCell (Below.setCell (hw) (by show w.heap.size ≤ (g2 : Nat); omega) _) (by show w.heap.size ≤ (g2 : Nat); omega) _
  clear xs ys zs vs xo yo zo vo
  clear hW Bs Bo
  have Bs := Cs
  have Bo := Co
  clear Cs Co
  try rw [rounds_succ (n := 18)]
  obtain ⟨xs, ys, zs, vs⟩ := Bs.facts
  obtain ⟨xo, yo, zo, vo⟩ := Bo.facts
  go_wp2_with fail
  refine at_world fun W21 hW => ?_
  have Cs : Box W21 (bk) [.int .i64 x.x, .int .i64 x.y, .int .i64 y.x, .int .i64 y.y, .int .i64 z.x, .int .i64 z.y] 23 := by rw [hW]; exact ((Bs.set_ne ⟨g2, 2, none⟩ ((.int .i64 z.x)) (by show (g2 : Nat) ≠ _; omega)).set_ne ⟨g2, 3, none⟩ ((.int .i64 z.y)) (by show (g2 : Nat) ≠ _; omega))
  have Co : Box W21 (g2) (.int .i64 x.x :: .int .i64 x.y :: .int .i64 z.x :: .int .i64 z.y :: .int .i64 y.x :: .int .i64 y.y :: tl2) 23 := by rw [hW]; exact ((Bo.set 2 ((.int .i64 z.x))).set 3 ((.int .i64 z.y)))
  replace hw : Below w.heap.size w W21 := by rw [hW]; exact Below.setCell (Below.setCell (hw) (by show w.heap.size ≤ (g2 : Nat); omega) _) (by show w.heap.size ≤ (g2 : Nat); omega) _
  clear xs ys zs vs xo yo zo vo
  clear hW Bs Bo
  have Bs := Cs
  have Bo := Co
  clear Cs Co
  try rw [rounds_succ (n := 0)]
  obtain ⟨xs, ys, zs, vs⟩ := Bs.facts
  obtain ⟨xo, yo, zo, vo⟩ := Bo.facts
  go_wp2_with fail
  refine bodyPost_ret (v := .slice (some ⟨g2, 0, none⟩) 3 cap2) (by simp [results, Try.results7, go_sem]) rfl ⟨g2, ⟨cap2, rfl⟩, hg2, ⟨tl2, Bo⟩, hw⟩

set_option maxRecDepth 100000 in
set_option maxHeartbeats 2000000 in
theorem sort_02 (x y z : Pt) (h1 : cmpP x y = (-1)) (e1 : peqI x.x x.y y.x y.y = false) (h2 : cmpP y z = 1) (h3 : cmpP x z = 1) (w : World) (bk : Nat) (hB : Box w bk [.int .i64 x.x, .int .i64 x.y, .int .i64 y.x, .int .i64 y.y, .int .i64 z.x, .int .i64 z.y] 23) :
    Calls Try.prog 7 #[.slice (some ⟨bk, 0, none⟩) 3 3] w fun e w' => ∃ g cap tl, e = .returned (.slice (some ⟨g, 0, none⟩) 3 cap) ∧ w.heap.size ≤ g ∧ Box w' g ((.int .i64 z.x :: .int .i64 z.y :: .int .i64 x.x :: .int .i64 x.y :: .int .i64 y.x :: .int .i64 y.y :: tl)) 23 ∧ Below w.heap.size w w' := by
  have kh1 := rcmp_pt x y
  rw [h1] at kh1
  clear h1
  have kh2 := rcmp_pt y z
  rw [h2] at kh2
  clear h2
  have kh3 := rcmp_pt x z
  rw [h3] at kh3
  clear h3
  have wq0 : IntKind.i64.wrap 0 = 0 := by decide
  have wq1 : IntKind.i64.wrap 1 = 1 := by decide
  have lbk := hB.lt
  have hw := Below.refl w.heap.size w
  have Bs := hB
  clear hB
  go_enter Try.func7, Try.ntmps7
  obtain ⟨xs, ys, zs, vs⟩ := Bs.facts
  go_wp2_with fail
  refine wp_loop_rounds 4 ?_
  try rw [rounds_succ (n := 3)]
  obtain ⟨xs, ys, zs, vs⟩ := Bs.facts
  go_wp2_with fail
  refine wp_loop_rounds 20 ?_
  try rw [rounds_succ (n := 19)]
  obtain ⟨xs, ys, zs, vs⟩ := Bs.facts
  go_wp2_with fail
  refine at_world fun W1 hW => ?_
  replace hw : Below w.heap.size w W1 := by rw [hW]; exact hw
  replace Bs : Box W1 (bk) [.int .i64 x.x, .int .i64 x.y, .int .i64 y.x, .int .i64 y.y, .int .i64 z.x, .int .i64 z.y] 23 := by rw [hW]; exact Bs
  clear hW
  clear xs ys zs vs
  have gs := Bs.cells
  refine wp_region_tail 14 (by kernel_rfl) (by kernel_rfl) (C := fun w' => ∃ p : Regrown, w' = grow (redrawn W1 p.d) p.os) (fun w' h => regrown_of_below h) ?_
  simp only [List.take_succ_cons, List.take_zero, List.drop_succ_cons, List.drop_zero]
  repeat (first | (refine rWalk_skip (Eq.refl false) ?_; simp only [Act.put, List.setIfInBounds_toArray, List.set_cons_succ, List.set_cons_zero]) | (refine rWalk_step (fun K hK => ?_); go_simp; first | (refine hK _ ?_; clear hK K) | (apply Exists.intro; refine ⟨fun _ => ?_, hK _ ?_⟩; (first | fail); clear hK K)))
  refine rWalk_nil ?_
  intro w2 hb
  clear gs
  replace Bs := Bs.ext hb rfl
  replace hw := hw.trans (hb.mono hw.size)
  obtain ⟨xs, ys, zs, vs⟩ := Bs.facts
  go_wp2_with fail
  refine at_world fun W3 hW => ?_
  replace hw : Below w.heap.size w W3 := by rw [hW]; exact hw
  replace Bs : Box W3 (bk) [.int .i64 x.x, .int .i64 x.y, .int .i64 y.x, .int .i64 y.y, .int .i64 z.x, .int .i64 z.y] 23 := by rw [hW]; exact Bs
  clear hW
  clear xs ys zs vs
  have gs := Bs.cells
  refine wp_region_tail 13 (by kernel_rfl) (by kernel_rfl) (C := fun w' => ∃ p : Regrown, w' = grow (redrawn W3 p.d) p.os) (fun w' h => regrown_of_below h) ?_
  simp only [List.take_succ_cons, List.take_zero, List.drop_succ_cons, List.drop_zero]
  repeat (first | (refine rWalk_skip (Eq.refl false) ?_; simp only [Act.put, List.setIfInBounds_toArray, List.set_cons_succ, List.set_cons_zero]) | (refine rWalk_step (fun K hK => ?_); go_simp; first | (refine hK _ ?_; clear hK K) | (apply Exists.intro; refine ⟨fun _ => ?_, hK _ ?_⟩; (first | fail); clear hK K)))
  refine rWalk_nil ?_
  intro w4 hb
  clear gs
  replace Bs := Bs.ext hb rfl
  replace hw := hw.trans (hb.mono hw.size)
  obtain ⟨xs, ys, zs, vs⟩ := Bs.facts
  go_wp2_with (at_builtin; refine append_pt rfl _ _ rfl w.heap.size 0 (.slice none 0 0) [] rfl (World.ownsRow_nil _ _ _ _) w4.heap.size x rfl (Box.new rfl) (by omega) (by have hl := hw.size; simp; omega) ?_; intro w5 g0 cap0 tl0 hg0 Bq hc0 hm0 ht0 hgr)
  have hz : w4.heap.size ≤ w5.heap.size := by have hl := hgr.size; simp at hl; omega
  replace hw : Below w.heap.size w w5 := Below.grown (hw.alloc hw.size _) hgr (by have hl := hw.size; simp; omega) (by intro k hk; simp [Value.ownBlock] at hk)
  clear xs ys zs vs
  replace Bs : Box w5 (bk) [.int .i64 x.x, .int .i64 x.y, .int .i64 y.x, .int .i64 y.y, .int .i64 z.x, .int .i64 z.y] 23 := (Bs.old _).grownBy hgr (by simp [Value.ownBlock])
  have Bo : Box w5 (g0) (.int .i64 x.x :: .int .i64 x.y :: tl0) 23 := Bq
  clear Bq hgr
  refine wp_loop_rounds 20 ?_
  try rw [rounds_succ (n := 19)]
  obtain ⟨xs, ys, zs, vs⟩ := Bs.facts
  obtain ⟨xo, yo, zo, vo⟩ := Bo.facts
  go_wp2_with fail
  refine at_world fun W6 hW => ?_
  have Cs : Box W6 (bk) [.int .i64 x.x, .int .i64 x.y, .int .i64 y.x, .int .i64 y.y, .int .i64 z.x, .int .i64 z.y] 23 := by rw [hW]; exact ((Bs.set_ne ⟨g0, 0, none⟩ ((.int .i64 x.x)) (by show (g0 : Nat) ≠ _; omega)).set_ne ⟨g0, 1, none⟩ ((.int .i64 x.y)) (by show (g0 : Nat) ≠ _; omega))
  have Co : Box W6 (g0) (.int .i64 x.x :: .int .i64 x.y :: tl0) 23 := by rw [hW]; exact ((Bo.set 0 ((.int .i64 x.x))).set 1 ((.int .i64 x.y)))
  replace hw : Below w.heap.size w W6 := by rw [hW]; exact Below.setCell (Below.setCell (hw) (by show w.heap.size ≤ (g0 : Nat); omega) _) (by show w.heap.size ≤ (g0 : Nat); omega) _
  clear xs ys zs vs xo yo zo vo
  clear hW Bs Bo
  have Bs := Cs
  have Bo := Co
  clear Cs Co
  try rw [rounds_succ (n := 2)]
  obtain ⟨xs, ys, zs, vs⟩ := Bs.facts
  obtain ⟨xo, yo, zo, vo⟩ := Bo.facts
  go_wp2_with fail
  refine wp_loop_rounds 20 ?_
  try rw [rounds_succ (n := 19)]
  obtain ⟨xs, ys, zs, vs⟩ := Bs.facts
  obtain ⟨xo, yo, zo, vo⟩ := Bo.facts
  go_wp2_with fail
  refine at_world fun W7 hW => ?_
  replace hw : Below w.heap.size w W7 := by rw [hW]; exact hw
  replace Bs : Box W7 (bk) [.int .i64 x.x, .int .i64 x.y, .int .i64 y.x, .int .i64 y.y, .int .i64 z.x, .int .i64 z.y] 23 := by rw [hW]; exact Bs
  replace Bo : Box W7 (g0) (.int .i64 x.x :: .int .i64 x.y :: tl0) 23 := by rw [hW]; exact Bo
  clear hW
  clear xs ys zs vs xo yo zo vo
  have gs := Bs.cells
  have go := Bo.cells
  refine wp_region_tail 14 (by kernel_rfl) (by kernel_rfl) (C := fun w' => ∃ p : Regrown, w' = grow (redrawn W7 p.d) p.os) (fun w' h => regrown_of_below h) ?_
  simp only [List.take_succ_cons, List.take_zero, List.drop_succ_cons, List.drop_zero]
  repeat (first | (refine rWalk_skip (Eq.refl false) ?_; simp only [Act.put, List.setIfInBounds_toArray, List.set_cons_succ, List.set_cons_zero]) | (refine rWalk_step (fun K hK => ?_); go_simp; first | (refine hK _ ?_; clear hK K) | (apply Exists.intro; refine ⟨fun _ => ?_, hK _ ?_⟩; (first | with_reducible exact toExt kh1 _); clear hK K)))
  refine rWalk_nil ?_
  intro w8 hb
  clear gs go
  replace Bs := Bs.ext hb rfl
  replace Bo := Bo.ext hb rfl
  replace hw := hw.trans (hb.mono hw.size)
  obtain ⟨xs, ys, zs, vs⟩ := Bs.facts
  obtain ⟨xo, yo, zo, vo⟩ := Bo.facts
  go_wp2_with fail
  refine at_world fun W9 hW => ?_
  replace hw : Below w.heap.size w W9 := by rw [hW]; exact hw
  replace Bs : Box W9 (bk) [.int .i64 x.x, .int .i64 x.y, .int .i64 y.x, .int .i64 y.y, .int .i64 z.x, .int .i64 z.y] 23 := by rw [hW]; exact Bs
  replace Bo : Box W9 (g0) (.int .i64 x.x :: .int .i64 x.y :: tl0) 23 := by rw [hW]; exact Bo
  clear hW
  clear xs ys zs vs xo yo zo vo
  have gs := Bs.cells
  have go := Bo.cells
  refine wp_region_tail 13 (by kernel_rfl) (by kernel_rfl) (C := fun w' => ∃ p : Regrown, w' = grow (redrawn W9 p.d) p.os) (fun w' h => regrown_of_below h) ?_
  simp only [List.take_succ_cons, List.take_zero, List.drop_succ_cons, List.drop_zero]
  repeat (first | (refine rWalk_skip (Eq.refl false) ?_; simp only [Act.put, List.setIfInBounds_toArray, List.set_cons_succ, List.set_cons_zero]) | (refine rWalk_step (fun K hK => ?_); go_simp; first | (refine hK _ ?_; clear hK K) | (apply Exists.intro; refine ⟨fun _ => ?_, hK _ ?_⟩; (first | fail); clear hK K)))
  refine rWalk_nil ?_
  intro w10 hb
  clear gs go
  replace Bs := Bs.ext hb rfl
  replace Bo := Bo.ext hb rfl
  replace hw := hw.trans (hb.mono hw.size)
  obtain ⟨xs, ys, zs, vs⟩ := Bs.facts
  obtain ⟨xo, yo, zo, vo⟩ := Bo.facts
  go_wp2_with (at_builtin; refine append_pt rfl _ _ rfl w.heap.size 1 (.slice (some ⟨g0, 0, none⟩) 1 cap0) [.int .i64 x.x, .int .i64 x.y] rfl ((owns_of_box (xs := [.int .i64 x.x, .int .i64 x.y]) (T := 23) Bo (by omega) rfl hc0 hm0 ht0).alloc _) w10.heap.size y rfl (Box.new rfl) (by omega) (by have hl := hw.size; simp; omega) ?_; intro w11 g1 cap1 tl1 hg1 Bq hc1 hm1 ht1 hgr)
  have hz : w10.heap.size ≤ w11.heap.size := by have hl := hgr.size; simp at hl; omega
  replace hw : Below w.heap.size w w11 := Below.grown (hw.alloc hw.size _) hgr (by have hl := hw.size; simp; omega) (by intro k hk; simp [Value.ownBlock] at hk; omega)
  clear xs ys zs vs xo yo zo vo
  replace Bs : Box w11 (bk) [.int .i64 x.x, .int .i64 x.y, .int .i64 y.x, .int .i64 y.y, .int .i64 z.x, .int .i64 z.y] 23 := (Bs.old _).grownBy hgr (by simp [Value.ownBlock]; omega)
  clear Bo
  have Bo : Box w11 (g1) (.int .i64 x.x :: .int .i64 x.y :: .int .i64 y.x :: .int .i64 y.y :: tl1) 23 := Bq
  clear Bq hgr
  refine wp_loop_rounds 20 ?_
  try rw [rounds_succ (n := 19)]
  obtain ⟨xs, ys, zs, vs⟩ := Bs.facts
  obtain ⟨xo, yo, zo, vo⟩ := Bo.facts
  go_wp2_with fail
  refine at_world fun W12 hW => ?_
  have Cs : Box W12 (bk) [.int .i64 x.x, .int .i64 x.y, .int .i64 y.x, .int .i64 y.y, .int .i64 z.x, .int .i64 z.y] 23 := by rw [hW]; exact ((Bs.set_ne ⟨g1, 2, none⟩ ((.int .i64 y.x)) (by show (g1 : Nat) ≠ _; omega)).set_ne ⟨g1, 3, none⟩ ((.int .i64 y.y)) (by show (g1 : Nat) ≠ _; omega))
  have Co : Box W12 (g1) (.int .i64 x.x :: .int .i64 x.y :: .int .i64 y.x :: .int .i64 y.y :: tl1) 23 := by rw [hW]; exact ((Bo.set 2 ((.int .i64 y.x))).set 3 ((.int .i64 y.y)))
  replace hw : Below w.heap.size w W12 := by rw [hW]; exact Below.setCell (Below.setCell (hw) (by show w.heap.size ≤ (g1 : Nat); omega) _) (by show w.heap.size ≤ (g1 : Nat); omega) _
  clear xs ys zs vs xo yo zo vo
  clear hW Bs Bo
  have Bs := Cs
  have Bo := Co
  clear Cs Co
  try rw [rounds_succ (n := 1)]
  obtain ⟨xs, ys, zs, vs⟩ := Bs.facts
  obtain ⟨xo, yo, zo, vo⟩ := Bo.facts
  go_wp2_with fail
  refine wp_loop_rounds 20 ?_
  try rw [rounds_succ (n := 19)]
  obtain ⟨xs, ys, zs, vs⟩ := Bs.facts
  obtain ⟨xo, yo, zo, vo⟩ := Bo.facts
  go_wp2_with fail
  refine at_world fun W13 hW => ?_
  replace hw : Below w.heap.size w W13 := by rw [hW]; exact hw
  replace Bs : Box W13 (bk) [.int .i64 x.x, .int .i64 x.y, .int .i64 y.x, .int .i64 y.y, .int .i64 z.x, .int .i64 z.y] 23 := by rw [hW]; exact Bs
  replace Bo : Box W13 (g1) (.int .i64 x.x :: .int .i64 x.y :: .int .i64 y.x :: .int .i64 y.y :: tl1) 23 := by rw [hW]; exact Bo
  clear hW
  clear xs ys zs vs xo yo zo vo
  have gs := Bs.cells
  have go := Bo.cells
  refine wp_region_tail 14 (by kernel_rfl) (by kernel_rfl) (C := fun w' => ∃ p : Regrown, w' = grow (redrawn W13 p.d) p.os) (fun w' h => regrown_of_below h) ?_
  simp only [List.take_succ_cons, List.take_zero, List.drop_succ_cons, List.drop_zero]
  repeat (first | (refine rWalk_skip (Eq.refl false) ?_; simp only [Act.put, List.setIfInBounds_toArray, List.set_cons_succ, List.set_cons_zero]) | (refine rWalk_step (fun K hK => ?_); go_simp; first | (refine hK _ ?_; clear hK K) | (apply Exists.intro; refine ⟨fun _ => ?_, hK _ ?_⟩; (first | with_reducible exact toExt kh2 _); clear hK K)))
  refine rWalk_nil ?_
  intro w14 hb
  clear gs go
  replace Bs := Bs.ext hb rfl
  replace Bo := Bo.ext hb rfl
  replace hw := hw.trans (hb.mono hw.size)
  obtain ⟨xs, ys, zs, vs⟩ := Bs.facts
  obtain ⟨xo, yo, zo, vo⟩ := Bo.facts
  go_wp2_with fail
  try rw [rounds_succ (n := 18)]
  obtain ⟨xs, ys, zs, vs⟩ := Bs.facts
  obtain ⟨xo, yo, zo, vo⟩ := Bo.facts
  go_wp2_with fail
  refine at_world fun W15 hW => ?_
  replace hw : Below w.heap.size w W15 := by rw [hW]; exact hw
  replace Bs : Box W15 (bk) [.int .i64 x.x, .int .i64 x.y, .int .i64 y.x, .int .i64 y.y, .int .i64 z.x, .int .i64 z.y] 23 := by rw [hW]; exact Bs
  replace Bo : Box W15 (g1) (.int .i64 x.x :: .int .i64 x.y :: .int .i64 y.x :: .int .i64 y.y :: tl1) 23 := by rw [hW]; exact Bo
  clear hW
  clear xs ys zs vs xo yo zo vo
  have gs := Bs.cells
  have go := Bo.cells
  refine wp_region_tail 14 (by kernel_rfl) (by kernel_rfl) (C := fun w' => ∃ p : Regrown, w' = grow (redrawn W15 p.d) p.os) (fun w' h => regrown_of_below h) ?_
  simp only [List.take_succ_cons, List.take_zero, List.drop_succ_cons, List.drop_zero]
  repeat (first | (refine rWalk_skip (Eq.refl false) ?_; simp only [Act.put, List.setIfInBounds_toArray, List.set_cons_succ, List.set_cons_zero]) | (refine rWalk_step (fun K hK => ?_); go_simp; first | (refine hK _ ?_; clear hK K) | (apply Exists.intro; refine ⟨fun _ => ?_, hK _ ?_⟩; (first | with_reducible exact toExt kh3 _); clear hK K)))
  refine rWalk_nil ?_
  intro w16 hb
  clear gs go
  replace Bs := Bs.ext hb rfl
  replace Bo := Bo.ext hb rfl
  replace hw := hw.trans (hb.mono hw.size)
  obtain ⟨xs, ys, zs, vs⟩ := Bs.facts
  obtain ⟨xo, yo, zo, vo⟩ := Bo.facts
  go_wp2_with fail
  try rw [rounds_succ (n := 17)]
  obtain ⟨xs, ys, zs, vs⟩ := Bs.facts
  obtain ⟨xo, yo, zo, vo⟩ := Bo.facts
  go_wp2_with fail
  refine at_world fun W17 hW => ?_
  replace hw : Below w.heap.size w W17 := by rw [hW]; exact hw
  replace Bs : Box W17 (bk) [.int .i64 x.x, .int .i64 x.y, .int .i64 y.x, .int .i64 y.y, .int .i64 z.x, .int .i64 z.y] 23 := by rw [hW]; exact Bs
  replace Bo : Box W17 (g1) (.int .i64 x.x :: .int .i64 x.y :: .int .i64 y.x :: .int .i64 y.y :: tl1) 23 := by rw [hW]; exact Bo
  clear hW
  clear xs ys zs vs xo yo zo vo
  have gs := Bs.cells
  have go := Bo.cells
  refine wp_region_tail 14 (by kernel_rfl) (by kernel_rfl) (C := fun w' => ∃ p : Regrown, w' = grow (redrawn W17 p.d) p.os) (fun w' h => regrown_of_below h) ?_
  simp only [List.take_succ_cons, List.take_zero, List.drop_succ_cons, List.drop_zero]
  repeat (first | (refine rWalk_skip (Eq.refl false) ?_; simp only [Act.put, List.setIfInBounds_toArray, List.set_cons_succ, List.set_cons_zero]) | (refine rWalk_step (fun K hK => ?_); go_simp; first | (refine hK _ ?_; clear hK K) | (apply Exists.intro; refine ⟨fun _ => ?_, hK _ ?_⟩; (first | fail); clear hK K)))
  refine rWalk_nil ?_
  intro w18 hb
  clear gs go
  replace Bs := Bs.ext hb rfl
  replace Bo := Bo.ext hb rfl
  replace hw := hw.trans (hb.mono hw.size)
  obtain ⟨xs, ys, zs, vs⟩ := Bs.facts
  obtain ⟨xo, yo, zo, vo⟩ := Bo.facts
  go_wp2_with fail
  refine at_world fun W19 hW => ?_
  replace hw : Below w.heap.size w W19 := by rw [hW]; exact hw
  replace Bs : Box W19 (bk) [.int .i64 x.x, .int .i64 x.y, .int .i64 y.x, .int .i64 y.y, .int .i64 z.x, .int .i64 z.y] 23 := by rw [hW]; exact Bs
  replace Bo : Box W19 (g1) (.int .i64 x.x :: .int .i64 x.y :: .int .i64 y.x :: .int .i64 y.y :: tl1) 23 := by rw [hW]; exact Bo
  clear hW
  clear xs ys zs vs xo yo zo vo
  have gs := Bs.cells
  have go := Bo.cells
  refine wp_region_tail 13 (by kernel_rfl) (by kernel_rfl) (C := fun w' => ∃ p : Regrown, w' = grow (redrawn W19 p.d) p.os) (fun w' h => regrown_of_below h) ?_
  simp only [List.take_succ_cons, List.take_zero, List.drop_succ_cons, List.drop_zero]
  repeat (first | (refine rWalk_skip (Eq.refl false) ?_; simp only [Act.put, List.setIfInBounds_toArray, List.set_cons_succ, List.set_cons_zero]) | (refine rWalk_step (fun K hK => ?_); go_simp; first | (refine hK _ ?_; clear hK K) | (apply Exists.intro; refine ⟨fun _ => ?_, hK _ ?_⟩; (first | fail); clear hK K)))
  refine rWalk_nil ?_
  intro w20 hb
  clear gs go
  replace Bs := Bs.ext hb rfl
  replace Bo := Bo.ext hb rfl
  replace hw := hw.trans (hb.mono hw.size)
  obtain ⟨xs, ys, zs, vs⟩ := Bs.facts
  obtain ⟨xo, yo, zo, vo⟩ := Bo.facts
  go_wp2_with (at_builtin; refine append_pt rfl _ _ rfl w.heap.size 2 (.slice (some ⟨g1, 0, none⟩) 2 cap1) [.int .i64 x.x, .int .i64 x.y, .int .i64 y.x, .int .i64 y.y] rfl ((owns_of_box (xs := [.int .i64 x.x, .int .i64 x.y, .int .i64 y.x, .int .i64 y.y]) (T := 23) Bo (by omega) rfl hc1 hm1 ht1).alloc _) w20.heap.size z rfl (Box.new rfl) (by omega) (by have hl := hw.size; simp; omega) ?_; intro w21 g2 cap2 tl2 hg2 Bq hc2 hm2 ht2 hgr)
  have hz : w20.heap.size ≤ w21.heap.size := by have hl := hgr.size; simp at hl; omega
  replace hw : Below w.heap.size w w21 := Below.grown (hw.alloc hw.size _) hgr (by have hl := hw.size; simp; omega) (by intro k hk; simp [Value.ownBlock] at hk; omega)
  clear xs ys zs vs xo yo zo vo
  replace Bs : Box w21 (bk) [.int .i64 x.x, .int .i64 x.y, .int .i64 y.x, .int .i64 y.y, .int .i64 z.x, .int .i64 z.y] 23 := (Bs.old _).grownBy hgr (by simp [Value.ownBlock]; omega)
  clear Bo
  have Bo : Box w21 (g2) (.int .i64 x.x :: .int .i64 x.y :: .int .i64 y.x :: .int .i64 y.y :: .int .i64 z.x :: .int .i64 z.y :: tl2) 23 := Bq
  clear Bq hgr
  refine wp_loop_rounds 20 ?_
  try rw [rounds_succ (n := 19)]
  obtain ⟨xs, ys, zs, vs⟩ := Bs.facts
  obtain ⟨xo, yo, zo, vo⟩ := Bo.facts
  go_wp2_with fail
  refine at_world fun W22 hW => ?_
  have Cs : Box W22 (bk) [.int .i64 x.x, .int .i64 x.y, .int .i64 y.x, .int .i64 y.y, .int .i64 z.x, .int .i64 z.y] 23 := by rw [hW]; exact ((Bs.set_ne ⟨g2, 4, none⟩ ((.int .i64 y.x)) (by show (g2 : Nat) ≠ _; omega)).set_ne ⟨g2, 5, none⟩ ((.int .i64 y.y)) (by show (g2 : Nat) ≠ _; omega))
  have Co : Box W22 (g2) (.int .i64 x.x :: .int .i64 x.y :: .int .i64 y.x :: .int .i64 y.y :: .int .i64 y.x :: .int .i64 y.y :: tl2) 23 := by rw [hW]; exact ((Bo.set 4 ((.int .i64 y.x))).set 5 ((.int .i64 y.y)))
  replace hw : Below w.heap.size w W22 := by rw [hW]; exact Below.setCell (Below.setCell (hw) (by show w.heap.size ≤ (g2 : Nat); omega) _) (by show w.heap.size ≤ (g2 : Nat); omega) _
  clear xs ys zs vs xo yo zo vo
  clear hW Bs Bo
  have Bs := Cs
  have Bo := Co
  clear Cs Co
  try rw [rounds_succ (n := 18)]
  obtain ⟨xs, ys, zs, vs⟩ := Bs.facts
  obtain ⟨xo, yo, zo, vo⟩ := Bo.facts
  go_wp2_with fail
  refine at_world fun W23 hW => ?_
  have Cs : Box W23 (bk) [.int .i64 x.x, .int .i64 x.y, .int .i64 y.x, .int .i64 y.y, .int .i64 z.x, .int .i64 z.y] 23 := by rw [hW]; exact ((Bs.set_ne ⟨g2, 2, none⟩ ((.int .i64 x.x)) (by show (g2 : Nat) ≠ _; omega)).set_ne ⟨g2, 3, none⟩ ((.int .i64 x.y)) (by show (g2 : Nat) ≠ _; omega))
  have Co : Box W23 (g2) (.int .i64 x.x :: .int .i64 x.y :: .int .i64 x.x :: .int .i64 x.y :: .int .i64 y.x :: .int .i64 y.y :: tl2) 23 := by rw [hW]; exact ((Bo.set 2 ((.int .i64 x.x))).set 3 ((.int .i64 x.y)))
  replace hw : Below w.heap.size w W23 := by rw [hW]; exact Below.setCell (Below.setCell (hw) (by show w.heap.size ≤ (g2 : Nat); omega) _) (by show w.heap.size ≤ (g2 : Nat); omega) _
  clear xs ys zs vs xo yo zo vo
  clear hW Bs Bo
  have Bs := Cs
  have Bo := Co
  clear Cs Co
  try rw [rounds_succ (n := 17)]
  obtain ⟨xs, ys, zs, vs⟩ := Bs.facts
  obtain ⟨xo, yo, zo, vo⟩ := Bo.facts
  go_wp2_with fail
  refine at_world fun W24 hW => ?_
  have Cs : Box W24 (bk) [.int .i64 x.x, .int .i64 x.y, .int .i64 y.x, .int .i64 y.y, .int .i64 z.x, .int .i64 z.y] 23 := by rw [hW]; exact ((Bs.set_ne ⟨g2, 0, none⟩ ((.int .i64 z.x)) (by show (g2 : Nat) ≠ _; omega)).set_ne ⟨g2, 1, none⟩ ((.int .i64 z.y)) (by show (g2 : Nat) ≠ _; omega))
  have Co : Box W24 (g2) (.int .i64 z.x :: .int .i64 z.y :: .int .i64 x.x :: .int .i64 x.y :: .int .i64 y.x :: .int .i64 y.y :: tl2) 23 := by rw [hW]; exact ((Bo.set 0 ((.int .i64 z.x))).set 1 ((.int .i64 z.y)))
  replace hw : Below w.heap.size w W24 := by rw [hW]; exact Below.setCell (Below.setCell (hw) (by show w.heap.size ≤ (g2 : Nat); omega) _) (by show w.heap.size ≤ (g2 : Nat); omega) _
  clear xs ys zs vs xo yo zo vo
  clear hW Bs Bo
  have Bs := Cs
  have Bo := Co
  clear Cs Co
  try rw [rounds_succ (n := 0)]
  obtain ⟨xs, ys, zs, vs⟩ := Bs.facts
  obtain ⟨xo, yo, zo, vo⟩ := Bo.facts
  go_wp2_with fail
  refine bodyPost_ret (v := .slice (some ⟨g2, 0, none⟩) 3 cap2) (by simp [results, Try.results7, go_sem]) rfl ⟨g2, ⟨cap2, rfl⟩, hg2, ⟨tl2, Bo⟩, hw⟩

set_option maxRecDepth 100000 in
set_option maxHeartbeats 2000000 in
theorem sort_10 (x y z : Pt) (h1 : cmpP x y = 1) (h2 : cmpP x z = (-1)) (e2 : peqI x.x x.y z.x z.y = false) (w : World) (bk : Nat) (hB : Box w bk [.int .i64 x.x, .int .i64 x.y, .int .i64 y.x, .int .i64 y.y, .int .i64 z.x, .int .i64 z.y] 23) :
    Calls Try.prog 7 #[.slice (some ⟨bk, 0, none⟩) 3 3] w fun e w' => ∃ g cap tl, e = .returned (.slice (some ⟨g, 0, none⟩) 3 cap) ∧ w.heap.size ≤ g ∧ Box w' g ((.int .i64 y.x :: .int .i64 y.y :: .int .i64 x.x :: .int .i64 x.y :: .int .i64 z.x :: .int .i64 z.y :: tl)) 23 ∧ Below w.heap.size w w' := by
  have kh1 := rcmp_pt x y
  rw [h1] at kh1
  clear h1
  have kh2 := rcmp_pt x z
  rw [h2] at kh2
  clear h2
  have wq0 : IntKind.i64.wrap 0 = 0 := by decide
  have wq1 : IntKind.i64.wrap 1 = 1 := by decide
  have lbk := hB.lt
  have hw := Below.refl w.heap.size w
  have Bs := hB
  clear hB
  go_enter Try.func7, Try.ntmps7
  obtain ⟨xs, ys, zs, vs⟩ := Bs.facts
  go_wp2_with fail
  refine wp_loop_rounds 4 ?_
  try rw [rounds_succ (n := 3)]
  obtain ⟨xs, ys, zs, vs⟩ := Bs.facts
  go_wp2_with fail
  refine wp_loop_rounds 20 ?_
  try rw [rounds_succ (n := 19)]
  obtain ⟨xs, ys, zs, vs⟩ := Bs.facts
  go_wp2_with fail
  refine at_world fun W1 hW => ?_
  replace hw : Below w.heap.size w W1 := by rw [hW]; exact hw
  replace Bs : Box W1 (bk) [.int .i64 x.x, .int .i64 x.y, .int .i64 y.x, .int .i64 y.y, .int .i64 z.x, .int .i64 z.y] 23 := by rw [hW]; exact Bs
  clear hW
  clear xs ys zs vs
  have gs := Bs.cells
  refine wp_region_tail 14 (by kernel_rfl) (by kernel_rfl) (C := fun w' => ∃ p : Regrown, w' = grow (redrawn W1 p.d) p.os) (fun w' h => regrown_of_below h) ?_
  simp only [List.take_succ_cons, List.take_zero, List.drop_succ_cons, List.drop_zero]
  repeat (first | (refine rWalk_skip (Eq.refl false) ?_; simp only [Act.put, List.setIfInBounds_toArray, List.set_cons_succ, List.set_cons_zero]) | (refine rWalk_step (fun K hK => ?_); go_simp; first | (refine hK _ ?_; clear hK K) | (apply Exists.intro; refine ⟨fun _ => ?_, hK _ ?_⟩; (first | fail); clear hK K)))
  refine rWalk_nil ?_
  intro w2 hb
  clear gs
  replace Bs := Bs.ext hb rfl
  replace hw := hw.trans (hb.mono hw.size)
  obtain ⟨xs, ys, zs, vs⟩ := Bs.facts
  go_wp2_with fail
  refine at_world fun W3 hW => ?_
  replace hw : Below w.heap.size w W3 := by rw [hW]; exact hw
  replace Bs : Box W3 (bk) [.int .i64 x.x, .int .i64 x.y, .int .i64 y.x, .int .i64 y.y, .int .i64 z.x, .int .i64 z.y] 23 := by rw [hW]; exact Bs
  clear hW
  clear xs ys zs vs
  have gs := Bs.cells
  refine wp_region_tail 13 (by kernel_rfl) (by kernel_rfl) (C := fun w' => ∃ p : Regrown, w' = grow (redrawn W3 p.d) p.os) (fun w' h => regrown_of_below h) ?_
  simp only [List.take_succ_cons, List.take_zero, List.drop_succ_cons, List.drop_zero]
  repeat (first | (refine rWalk_skip (Eq.refl false) ?_; simp only [Act.put, List.setIfInBounds_toArray, List.set_cons_succ, List.set_cons_zero]) | (refine rWalk_step (fun K hK => ?_); go_simp; first | (refine hK _ ?_; clear hK K) | (apply Exists.intro; refine ⟨fun _ => ?_, hK _ ?_⟩; (first | fail); clear hK K)))
  refine rWalk_nil ?_
  intro w4 hb
  clear gs
  replace Bs := Bs.ext hb rfl
  replace hw := hw.trans (hb.mono hw.size)
  obtain ⟨xs, ys, zs, vs⟩ := Bs.facts
  go_wp2_with (at_builtin; refine append_pt rfl _ _ rfl w.heap.size 0 (.slice none 0 0) [] rfl (World.ownsRow_nil _ _ _ _) w4.heap.size x rfl (Box.new rfl) (by omega) (by have hl := hw.size; simp; omega) ?_; intro w5 g0 cap0 tl0 hg0 Bq hc0 hm0 ht0 hgr)
  have hz : w4.heap.size ≤ w5.heap.size := by have hl := hgr.size; simp at hl; omega
  replace hw : Below w.heap.size w w5 := Below.grown (hw.alloc hw.size _) hgr (by have hl := hw.size; simp; omega) (by intro k hk; simp [Value.ownBlock] at hk)
  clear xs ys zs vs
  replace Bs : Box w5 (bk) [.int .i64 x.x, .int .i64 x.y, .int .i64 y.x, .int .i64 y.y, .int .i64 z.x, .int .i64 z.y] 23 := (Bs.old _).grownBy hgr (by simp [Value.ownBlock])
  have Bo : Box w5 (g0) (.int .i64 x.x :: .int .i64 x.y :: tl0) 23 := Bq
  clear Bq hgr
  refine wp_loop_rounds 20 ?_
  try rw [rounds_succ (n := 19)]
  obtain ⟨xs, ys, zs, vs⟩ := Bs.facts
  obtain ⟨xo, yo, zo, vo⟩ := Bo.facts
  go_wp2_with fail
  refine at_world fun W6 hW => ?_
  have Cs : Box W6 (bk) [.int .i64 x.x, .int .i64 x.y, .int .i64 y.x, .int .i64 y.y, .int .i64 z.x, .int .i64 z.y] 23 := by rw [hW]; exact ((Bs.set_ne ⟨g0, 0, none⟩ ((.int .i64 x.x)) (by show (g0 : Nat) ≠ _; omega)).set_ne ⟨g0, 1, none⟩ ((.int .i64 x.y)) (by show (g0 : Nat) ≠ _; omega))
  have Co : Box W6 (g0) (.int .i64 x.x :: .int .i64 x.y :: tl0) 23 := by rw [hW]; exact ((Bo.set 0 ((.int .i64 x.x))).set 1 ((.int .i64 x.y)))
  replace hw : Below w.heap.size w W6 := by rw [hW]; exact Below.setCell (Below.setCell (hw) (by show w.heap.size ≤ (g0 : Nat); omega) _) (by show w.heap.size ≤ (g0 : Nat); omega) _
  clear xs ys zs vs xo yo zo vo
  clear hW Bs Bo
  have Bs := Cs
  have Bo := Co
  clear Cs Co
  try rw [rounds_succ (n := 2)]
  obtain ⟨xs, ys, zs, vs⟩ := Bs.facts
  obtain ⟨xo, yo, zo, vo⟩ := Bo.facts
  go_wp2_with fail
  refine wp_loop_rounds 20 ?_
  try rw [rounds_succ (n := 19)]
  obtain ⟨xs, ys, zs, vs⟩ := Bs.facts
  obtain ⟨xo, yo, zo, vo⟩ := Bo.facts
  go_wp2_with fail
  refine at_world fun W7 hW => ?_
  replace hw : Below w.heap.size w W7 := by rw [hW]; exact hw
  replace Bs : Box W7 (bk) [.int .i64 x.x, .int .i64 x.y, .int .i64 y.x, .int .i64 y.y, .int .i64 z.x, .int .i64 z.y] 23 := by rw [hW]; exact Bs
  replace Bo : Box W7 (g0) (.int .i64 x.x :: .int .i64 x.y :: tl0) 23 := by rw [hW]; exact Bo
  clear hW
  clear xs ys zs vs xo yo zo vo
  have gs := Bs.cells
  have go := Bo.cells
  refine wp_region_tail 14 (by kernel_rfl) (by kernel_rfl) (C := fun w' => ∃ p : Regrown, w' = grow (redrawn W7 p.d) p.os) (fun w' h => regrown_of_below h) ?_
  simp only [List.take_succ_cons, List.take_zero, List.drop_succ_cons, List.drop_zero]
  repeat (first | (refine rWalk_skip (Eq.refl false) ?_; simp only [Act.put, List.setIfInBounds_toArray, List.set_cons_succ, List.set_cons_zero]) | (refine rWalk_step (fun K hK => ?_); go_simp; first | (refine hK _ ?_; clear hK K) | (apply Exists.intro; refine ⟨fun _ => ?_, hK _ ?_⟩; (first | with_reducible exact toExt kh1 _); clear hK K)))
  refine rWalk_nil ?_
  intro w8 hb
  clear gs go
  replace Bs := Bs.ext hb rfl
  replace Bo := Bo.ext hb rfl
  replace hw := hw.trans (hb.mono hw.size)
  obtain ⟨xs, ys, zs, vs⟩ := Bs.facts
  obtain ⟨xo, yo, zo, vo⟩ := Bo.facts
  go_wp2_with fail
  try rw [rounds_succ (n := 18)]
  obtain ⟨xs, ys, zs, vs⟩ := Bs.facts
  obtain ⟨xo, yo, zo, vo⟩ := Bo.facts
  go_wp2_with fail
  refine at_world fun W9 hW => ?_
  replace hw : Below w.heap.size w W9 := by rw [hW]; exact hw
  replace Bs : Box W9 (bk) [.int .i64 x.x, .int .i64 x.y, .int .i64 y.x, .int .i64 y.y, .int .i64 z.x, .int .i64 z.y] 23 := by rw [hW]; exact Bs
  replace Bo : Box W9 (g0) (.int .i64 x.x :: .int .i64 x.y :: tl0) 23 := by rw [hW]; exact Bo
  clear hW
  clear xs ys zs vs xo yo zo vo
  have gs := Bs.cells
  have go := Bo.cells
  refine wp_region_tail 14 (by kernel_rfl) (by kernel_rfl) (C := fun w' => ∃ p : Regrown, w' = grow (redrawn W9 p.d) p.os) (fun w' h => regrown_of_below h) ?_
  simp only [List.take_succ_cons, List.take_zero, List.drop_succ_cons, List.drop_zero]
  repeat (first | (refine rWalk_skip (Eq.refl false) ?_; simp only [Act.put, List.setIfInBounds_toArray, List.set_cons_succ, List.set_cons_zero]) | (refine rWalk_step (fun K hK => ?_); go_simp; first | (refine hK _ ?_; clear hK K) | (apply Exists.intro; refine ⟨fun _ => ?_, hK _ ?_⟩; (first | fail); clear hK K)))
  refine rWalk_nil ?_
  intro w10 hb
  clear gs go
  replace Bs := Bs.ext hb rfl
  replace Bo := Bo.ext hb rfl
  replace hw := hw.trans (hb.mono hw.size)
  obtain ⟨xs, ys, zs, vs⟩ := Bs.facts
  obtain ⟨xo, yo, zo, vo⟩ := Bo.facts
  go_wp2_with fail
  refine at_world fun W11 hW => ?_
  replace hw : Below w.heap.size w W11 := by rw [hW]; exact hw
  replace Bs : Box W11 (bk) [.int .i64 x.x, .int .i64 x.y, .int .i64 y.x, .int .i64 y.y, .int .i64 z.x, .int .i64 z.y] 23 := by rw [hW]; exact Bs
  replace Bo : Box W11 (g0) (.int .i64 x.x :: .int .i64 x.y :: tl0) 23 := by rw [hW]; exact Bo
  clear hW
  clear xs ys zs vs xo yo zo vo
  have gs := Bs.cells
  have go := Bo.cells
  refine wp_region_tail 13 (by kernel_rfl) (by kernel_rfl) (C := fun w' => ∃ p : Regrown, w' = grow (redrawn W11 p.d) p.os) (fun w' h => regrown_of_below h) ?_
  simp only [List.take_succ_cons, List.take_zero, List.drop_succ_cons, List.drop_zero]
  repeat (first | (refine rWalk_skip (Eq.refl false) ?_; simp only [Act.put, List.setIfInBounds_toArray, List.set_cons_succ, List.set_cons_zero]) | (refine rWalk_step (fun K hK => ?_); go_simp; first | (refine hK _ ?_; clear hK K) | (apply Exists.intro; refine ⟨fun _ => ?_, hK _ ?_⟩; (first | fail); clear hK K)))
  refine rWalk_nil ?_
  intro w12 hb
  clear gs go
  replace Bs := Bs.ext hb rfl
  replace Bo := Bo.ext hb rfl
  replace hw := hw.trans (hb.mono hw.size)
  obtain ⟨xs, ys, zs, vs⟩ := Bs.facts
  obtain ⟨xo, yo, zo, vo⟩ := Bo.facts
  go_wp2_with (at_builtin; refine append_pt rfl _ _ rfl w.heap.size 1 (.slice (some ⟨g0, 0, none⟩) 1 cap0) [.int .i64 x.x, .int .i64 x.y] rfl ((owns_of_box (xs := [.int .i64 x.x, .int .i64 x.y]) (T := 23) Bo (by omega) rfl hc0 hm0 ht0).alloc _) w12.heap.size y rfl (Box.new rfl) (by omega) (by have hl := hw.size; simp; omega) ?_; intro w13 g1 cap1 tl1 hg1 Bq hc1 hm1 ht1 hgr)
  have hz : w12.heap.size ≤ w13.heap.size := by have hl := hgr.size; simp at hl; omega
  replace hw : Below w.heap.size w w13 := Below.grown (hw.alloc hw.size _) hgr (by have hl := hw.size; simp; omega) (by intro k hk; simp [Value.ownBlock] at hk; omega)
  clear xs ys zs vs xo yo zo vo
  replace Bs : Box w13 (bk) [.int .i64 x.x, .int .i64 x.y, .int .i64 y.x, .int .i64 y.y, .int .i64 z.x, .int .i64 z.y] 23 := (Bs.old _).grownBy hgr (by simp [Value.ownBlock]; omega)
  clear Bo
  have Bo : Box w13 (g1) (.int .i64 x.x :: .int .i64 x.y :: .int .i64 y.x :: .int .i64 y.y :: tl1) 23 := Bq
  clear Bq hgr
  refine wp_loop_rounds 20 ?_
  try rw [rounds_succ (n := 19)]
  obtain ⟨xs, ys, zs, vs⟩ := Bs.facts
  obtain ⟨xo, yo, zo, vo⟩ := Bo.facts
  go_wp2_with fail
  refine at_world fun W14 hW => ?_
  have Cs : Box W14 (bk) [.int .i64 x.x, .int .i64 x.y, .int .i64 y.x, .int .i64 y.y, .int .i64 z.x, .int .i64 z.y] 23 := by rw [hW]; exact ((Bs.set_ne ⟨g1, 2, none⟩ ((.int .i64 x.x)) (by show (g1 : Nat) ≠ _; omega)).set_ne ⟨g1, 3, none⟩ ((.int .i64 x.y)) (by show (g1 : Nat) ≠ _; omega))
  have Co : Box W14 (g1) (.int .i64 x.x :: .int .i64 x.y :: .int .i64 x.x :: .int .i64 x.y :: tl1) 23 := by rw [hW]; exact ((Bo.set 2 ((.int .i64 x.x))).set 3 ((.int .i64 x.y)))
  replace hw : Below w.heap.size w W14 := by rw [hW]; exact Below.setCell (Below.setCell (hw) (by show w.heap.size ≤ (g1 : Nat); omega) _) (by show w.heap.size ≤ (g1 : Nat); omega) _
  clear xs ys zs vs xo yo zo vo
  clear hW Bs Bo
  have Bs := Cs
  have Bo := Co
  clear Cs Co
  try rw [rounds_succ (n := 18)]
  obtain ⟨xs, ys, zs, vs⟩ := Bs.facts
  obtain ⟨xo, yo, zo, vo⟩ := Bo.facts
  go_wp2_with fail
  refine at_world fun W15 hW => ?_
  have Cs : Box W15 (bk) [.int .i64 x.x, .int .i64 x.y, .int .i64 y.x, .int .i64 y.y, .int .i64 z.x, .int .i64 z.y] 23 := by rw [hW]; exact ((Bs.set_ne ⟨g1, 0, none⟩ ((.int .i64 y.x)) (by show (g1 : Nat) ≠ _; omega)).set_ne ⟨g1, 1, none⟩ ((.int .i64 y.y)) (by show (g1 : Nat) ≠ _; omega))
  have Co : Box W15 (g1) (.int .i64 y.x :: .int .i64 y.y :: .int .i64 x.x :: .int .i64 x.y :: tl1) 23 := by rw [hW]; exact ((Bo.set 0 ((.int .i64 y.x))).set 1 ((.int .i64 y.y)))
  replace hw : Below w.heap.size w W15 := by rw [hW]; exact Below.setCell (Below.setCell (hw) (by show w.heap.size ≤ (g1 : Nat); omega) _) (by show w.heap.size ≤ (g1 : Nat); omega) _
  clear xs ys zs vs xo yo zo vo
  clear hW Bs Bo
  have Bs := Cs
  have Bo := Co
  clear Cs Co
  try rw [rounds_succ (n := 1)]
  obtain ⟨xs, ys, zs, vs⟩ := Bs.facts
  obtain ⟨xo, yo, zo, vo⟩ := Bo.facts
  go_wp2_with fail
  refine wp_loop_rounds 20 ?_
  try rw [rounds_succ (n := 19)]
  obtain ⟨xs, ys, zs, vs⟩ := Bs.facts
  obtain ⟨xo, yo, zo, vo⟩ := Bo.facts
  go_wp2_with fail
  refine at_world fun W16 hW => ?_
  replace hw : Below w.heap.size w W16 := by rw [hW]; exact hw
  replace Bs : Box W16 (bk) [.int .i64 x.x, .int .i64 x.y, .int .i64 y.x, .int .i64 y.y, .int .i64 z.x, .int .i64 z.y] 23 := by rw [hW]; exact Bs
  replace Bo : Box W16 (g1) (.int .i64 y.x :: .int .i64 y.y :: .int .i64 x.x :: .int .i64 x.y :: tl1) 23 := by rw [hW]; exact Bo
  clear hW
  clear xs ys zs vs xo yo zo vo
  have gs := Bs.cells
  have go := Bo.cells
  refine wp_region_tail 14 (by kernel_rfl) (by kernel_rfl) (C := fun w' => ∃ p : Regrown, w' = grow (redrawn W16 p.d) p.os) (fun w' h => regrown_of_below h) ?_
  simp only [List.take_succ_cons, List.take_zero, List.drop_succ_cons, List.drop_zero]
  repeat (first | (refine rWalk_skip (Eq.refl false) ?_; simp only [Act.put, List.setIfInBounds_toArray, List.set_cons_succ, List.set_cons_zero]) | (refine rWalk_step (fun K hK => ?_); go_simp; first | (refine hK _ ?_; clear hK K) | (apply Exists.intro; refine ⟨fun _ => ?_, hK _ ?_⟩; (first | with_reducible exact toExt kh2 _); clear hK K)))
  refine rWalk_nil ?_
  intro w17 hb
  clear gs go
  replace Bs := Bs.ext hb rfl
  replace Bo := Bo.ext hb rfl
  replace hw := hw.trans (hb.mono hw.size)
  obtain ⟨xs, ys, zs, vs⟩ := Bs.facts
  obtain ⟨xo, yo, zo, vo⟩ := Bo.facts
  go_wp2_with fail
  refine at_world fun W18 hW => ?_
  replace hw : Below w.heap.size w W18 := by rw [hW]; exact hw
  replace Bs : Box W18 (bk) [.int .i64 x.x, .int .i64 x.y, .int .i64 y.x, .int .i64 y.y, .int .i64 z.x, .int .i64 z.y] 23 := by rw [hW]; exact Bs
  replace Bo : Box W18 (g1) (.int .i64 y.x :: .int .i64 y.y :: .int .i64 x.x :: .int .i64 x.y :: tl1) 23 := by rw [hW]; exact Bo
  clear hW
  clear xs ys zs vs xo yo zo vo
  have gs := Bs.cells
  have go := Bo.cells
  refine wp_region_tail 13 (by kernel_rfl) (by kernel_rfl) (C := fun w' => ∃ p : Regrown, w' = grow (redrawn W18 p.d) p.os) (fun w' h => regrown_of_below h) ?_
  simp only [List.take_succ_cons, List.take_zero, List.drop_succ_cons, List.drop_zero]
  repeat (first | (refine rWalk_skip (Eq.refl false) ?_; simp only [Act.put, List.setIfInBounds_toArray, List.set_cons_succ, List.set_cons_zero]) | (refine rWalk_step (fun K hK => ?_); go_simp; first | (refine hK _ ?_; clear hK K) | (apply Exists.intro; refine ⟨fun _ => ?_, hK _ ?_⟩; (first | fail); clear hK K)))
  refine rWalk_nil ?_
  intro w19 hb
  clear gs go
  replace Bs := Bs.ext hb rfl
  replace Bo := Bo.ext hb rfl
  replace hw := hw.trans (hb.mono hw.size)
  obtain ⟨xs, ys, zs, vs⟩ := Bs.facts
  obtain ⟨xo, yo, zo, vo⟩ := Bo.facts
  go_wp2_with (at_builtin; refine append_pt rfl _ _ rfl w.heap.size 2 (.slice (some ⟨g1, 0, none⟩) 2 cap1) [.int .i64 y.x, .int .i64 y.y, .int .i64 x.x, .int .i64 x.y] rfl ((owns_of_box (xs := [.int .i64 y.x, .int .i64 y.y, .int .i64 x.x, .int .i64 x.y]) (T := 23) Bo (by omega) rfl hc1 hm1 ht1).alloc _) w19.heap.size z rfl (Box.new rfl) (by omega) (by have hl := hw.size; simp; omega) ?_; intro w20 g2 cap2 tl2 hg2 Bq hc2 hm2 ht2 hgr)
  have hz : w19.heap.size ≤ w20.heap.size := by have hl := hgr.size; simp at hl; omega
  replace hw : Below w.heap.size w w20 := Below.grown (hw.alloc hw.size _) hgr (by have hl := hw.size; simp; omega) (by intro k hk; simp [Value.ownBlock] at hk; omega)
  clear xs ys zs vs xo yo zo vo
  replace Bs : Box w20 (bk) [.int .i64 x.x, .int .i64 x.y, .int .i64 y.x, .int .i64 y.y, .int .i64 z.x, .int .i64 z.y] 23 := (Bs.old _).grownBy hgr (by simp [Value.ownBlock]; omega)
  clear Bo
  have Bo : Box w20 (g2) (.int .i64 y.x :: .int .i64 y.y :: .int .i64 x.x :: .int .i64 x.y :: .int .i64 z.x :: .int .i64 z.y :: tl2) 23 := Bq
  clear Bq hgr
  refine wp_loop_rounds 20 ?_
  try rw [rounds_succ (n := 19)]
  obtain ⟨xs, ys, zs, vs⟩ := Bs.facts
  obtain ⟨xo, yo, zo, vo⟩ := Bo.facts
  go_wp2_with fail
  refine at_world fun W21 hW => ?_
  have Cs : Box W21 (bk) [.int .i64 x.x, .int .i64 x.y, .int .i64 y.x, .int .i64 y.y, .int .i64 z.x, .int .i64 z.y] 23 := by rw [hW]; exact ((Bs.set_ne ⟨g2, 4, none⟩ ((.int .i64 z.x)) (by show (g2 : Nat) ≠ _; omega)).set_ne ⟨g2, 5, none⟩ ((.int .i64 z.y)) (by show (g2 : Nat) ≠ _; omega))
  have Co : Box W21 (g2) (.int .i64 y.x :: .int .i64 y.y :: .int .i64 x.x :: .int .i64 x.y :: .int .i64 z.x :: .int .i64 z.y :: tl2) 23 := by rw [hW]; exact ((Bo.set 4 ((.int .i64 z.x))).set 5 ((.int .i64 z.y)))
  replace hw : Below w.heap.size w W21 := by rw [hW]; exact Below.setCell (Below.setCell (hw) (by show w.heap.size ≤ (g2 : Nat); omega) _) (by show w.heap.size ≤ (g2 : Nat); omega) _
  clear xs ys zs vs xo yo zo vo
  clear hW Bs Bo
  have Bs := Cs
  have Bo := Co
  clear Cs Co
  try rw [rounds_succ (n := 0)]
  obtain ⟨xs, ys, zs, vs⟩ := Bs.facts
  obtain ⟨xo, yo, zo, vo⟩ := Bo.facts
  go_wp2_with fail
  refine bodyPost_ret (v := .slice (some ⟨g2, 0, none⟩) 3 cap2) (by simp [results, Try.results7, go_sem]) rfl ⟨g2, ⟨cap2, rfl⟩, hg2, ⟨tl2, Bo⟩, hw⟩

set_option maxRecDepth 100000 in
set_option maxHeartbeats 2000000 in
theorem sort_11 (x y z : Pt) (h1 : cmpP x y = 1) (h2 : cmpP x z = 1) (h3 : cmpP y z = (-1)) (e2 : peqI y.x y.y z.x z.y = false) (w : World) (bk : Nat) (hB : Box w bk [.int .i64 x.x, .int .i64 x.y, .int .i64 y.x, .int .i64 y.y, .int .i64 z.x, .int .i64 z.y] 23) :
    Calls Try.prog 7 #[.slice (some ⟨bk, 0, none⟩) 3 3] w fun e w' => ∃ g cap tl, e = .returned (.slice (some ⟨g, 0, none⟩) 3 cap) ∧ w.heap.size ≤ g ∧ Box w' g ((.int .i64 y.x :: .int .i64 y.y :: .int .i64 z.x :: .int .i64 z.y :: .int .i64 x.x :: .int .i64 x.y :: tl)) 23 ∧ Below w.heap.size w w' := by
  have kh1 := rcmp_pt x y
  rw [h1] at kh1
  clear h1
  have kh2 := rcmp_pt x z
  rw [h2] at kh2
  clear h2
  have kh3 := rcmp_pt y z
  rw [h3] at kh3
  clear h3
  have wq0 : IntKind.i64.wrap 0 = 0 := by decide
  have wq1 : IntKind.i64.wrap 1 = 1 := by decide
  have lbk := hB.lt
  have hw := Below.refl w.heap.size w
  have Bs := hB
  clear hB
  go_enter Try.func7, Try.ntmps7
  obtain ⟨xs, ys, zs, vs⟩ := Bs.facts
  go_wp2_with fail
  refine wp_loop_rounds 4 ?_
  try rw [rounds_succ (n := 3)]
  obtain ⟨xs, ys, zs, vs⟩ := Bs.facts
  go_wp2_with fail
  refine wp_loop_rounds 20 ?_
  try rw [rounds_succ (n := 19)]
  obtain ⟨xs, ys, zs, vs⟩ := Bs.facts
  go_wp2_with fail
  refine at_world fun W1 hW => ?_
  replace hw : Below w.heap.size w W1 := by rw [hW]; exact hw
  replace Bs : Box W1 (bk) [.int .i64 x.x, .int .i64 x.y, .int .i64 y.x, .int .i64 y.y, .int .i64 z.x, .int .i64 z.y] 23 := by rw [hW]; exact Bs
  clear hW
  clear xs ys zs vs
  have gs := Bs.cells
  refine wp_region_tail 14 (by kernel_rfl) (by kernel_rfl) (C := fun w' => ∃ p : Regrown, w' = grow (redrawn W1 p.d) p.os) (fun w' h => regrown_of_below h) ?_
  simp only [List.take_succ_cons, List.take_zero, List.drop_succ_cons, List.drop_zero]
  repeat (first | (refine rWalk_skip (Eq.refl false) ?_; simp only [Act.put, List.setIfInBounds_toArray, List.set_cons_succ, List.set_cons_zero]) | (refine rWalk_step (fun K hK => ?_); go_simp; first | (refine hK _ ?_; clear hK K) | (apply Exists.intro; refine ⟨fun _ => ?_, hK _ ?_⟩; (first | fail); clear hK K)))
  refine rWalk_nil ?_
  intro w2 hb
  clear gs
  replace Bs := Bs.ext hb rfl
  replace hw := hw.trans (hb.mono hw.size)
  obtain ⟨xs, ys, zs, vs⟩ := Bs.facts
  go_wp2_with fail
  refine at_world fun W3 hW => ?_
  replace hw : Below w.heap.size w W3 := by rw [hW]; exact hw
  replace Bs : Box W3 (bk) [.int .i64 x.x, .int .i64 x.y, .int .i64 y.x, .int .i64 y.y, .int .i64 z.x, .int .i64 z.y] 23 := by rw [hW]; exact Bs
  clear hW
  clear xs ys zs vs
  have gs := Bs.cells
  refine wp_region_tail 13 (by kernel_rfl) (by kernel_rfl) (C := fun w' => ∃ p : Regrown, w' = grow (redrawn W3 p.d) p.os) (fun w' h => regrown_of_below h) ?_
  simp only [List.take_succ_cons, List.take_zero, List.drop_succ_cons, List.drop_zero]
  repeat (first | (refine rWalk_skip (Eq.refl false) ?_; simp only [Act.put, List.setIfInBounds_toArray, List.set_cons_succ, List.set_cons_zero]) | (refine rWalk_step (fun K hK => ?_); go_simp; first | (refine hK _ ?_; clear hK K) | (apply Exists.intro; refine ⟨fun _ => ?_, hK _ ?_⟩; (first | fail); clear hK K)))
  refine rWalk_nil ?_
  intro w4 hb
  clear gs
  replace Bs := Bs.ext hb rfl
  replace hw := hw.trans (hb.mono hw.size)
  obtain ⟨xs, ys, zs, vs⟩ := Bs.facts
  go_wp2_with (at_builtin; refine append_pt rfl _ _ rfl w.heap.size 0 (.slice none 0 0) [] rfl (World.ownsRow_nil _ _ _ _) w4.heap.size x rfl (Box.new rfl) (by omega) (by have hl := hw.size; simp; omega) ?_; intro w5 g0 cap0 tl0 hg0 Bq hc0 hm0 ht0 hgr)
  have hz : w4.heap.size ≤ w5.heap.size := by have hl := hgr.size; simp at hl; omega
  replace hw : Below w.heap.size w w5 := Below.grown (hw.alloc hw.size _) hgr (by have hl := hw.size; simp; omega) (by intro k hk; simp [Value.ownBlock] at hk)
  clear xs ys zs vs
  replace Bs : Box w5 (bk) [.int .i64 x.x, .int .i64 x.y, .int .i64 y.x, .int .i64 y.y, .int .i64 z.x, .int .i64 z.y] 23 := (Bs.old _).grownBy hgr (by simp [Value.ownBlock])
  have Bo : Box w5 (g0) (.int .i64 x.x :: .int .i64 x.y :: tl0) 23 := Bq
  clear Bq hgr
  refine wp_loop_rounds 20 ?_
  try rw [rounds_succ (n := 19)]
  obtain ⟨xs, ys, zs, vs⟩ := Bs.facts
  obtain ⟨xo, yo, zo, vo⟩ := Bo.facts
  go_wp2_with fail
  refine at_world fun W6 hW => ?_
  have Cs : Box W6 (bk) [.int .i64 x.x, .int .i64 x.y, .int .i64 y.x, .int .i64 y.y, .int .i64 z.x, .int .i64 z.y] 23 := by rw [hW]; exact ((Bs.set_ne ⟨g0, 0, none⟩ ((.int .i64 x.x)) (by show (g0 : Nat) ≠ _; omega)).set_ne ⟨g0, 1, none⟩ ((.int .i64 x.y)) (by show (g0 : Nat) ≠ _; omega))
  have Co : Box W6 (g0) (.int .i64 x.x :: .int .i64 x.y :: tl0) 23 := by rw [hW]; exact ((Bo.set 0 ((.int .i64 x.x))).set 1 ((.int .i64 x.y)))
  replace hw : Below w.heap.size w W6 := by rw [hW]; exact Below.setCell (Below.setCell (hw) (by show w.heap.size ≤ (g0 : Nat); omega) _) (by show w.heap.size ≤ (g0 : Nat); omega) _
  clear xs ys zs vs xo yo zo vo
  clear hW Bs Bo
  have Bs := Cs
  have Bo := Co
  clear Cs Co
  try rw [rounds_succ (n := 2)]
  obtain ⟨xs, ys, zs, vs⟩ := Bs.facts
  obtain ⟨xo, yo, zo, vo⟩ := Bo.facts
  go_wp2_with fail
  refine wp_loop_rounds 20 ?_
  try rw [rounds_succ (n := 19)]
  obtain ⟨xs, ys, zs, vs⟩ := Bs.facts
  obtain ⟨xo, yo, zo, vo⟩ := Bo.facts
  go_wp2_with fail
  refine at_world fun W7 hW => ?_
  replace hw : Below w.heap.size w W7 := by rw [hW]; exact hw
  replace Bs : Box W7 (bk) [.int .i64 x.x, .int .i64 x.y, .int .i64 y.x, .int .i64 y.y, .int .i64 z.x, .int .i64 z.y] 23 := by rw [hW]; exact Bs
  replace Bo : Box W7 (g0) (.int .i64 x.x :: .int .i64 x.y :: tl0) 23 := by rw [hW]; exact Bo
  clear hW
  clear xs ys zs vs xo yo zo vo
  have gs := Bs.cells
  have go := Bo.cells
  refine wp_region_tail 14 (by kernel_rfl) (by kernel_rfl) (C := fun w' => ∃ p : Regrown, w' = grow (redrawn W7 p.d) p.os) (fun w' h => regrown_of_below h) ?_
  simp only [List.take_succ_cons, List.take_zero, List.drop_succ_cons, List.drop_zero]
  repeat (first | (refine rWalk_skip (Eq.refl false) ?_; simp only [Act.put, List.setIfInBounds_toArray, List.set_cons_succ, List.set_cons_zero]) | (refine rWalk_step (fun K hK => ?_); go_simp; first | (refine hK _ ?_; clear hK K) | (apply Exists.intro; refine ⟨fun _ => ?_, hK _ ?_⟩; (first | with_reducible exact toExt kh1 _); clear hK K)))
  refine rWalk_nil ?_
  intro w8 hb
  clear gs go
  replace Bs := Bs.ext hb rfl
  replace Bo := Bo.ext hb rfl
  replace hw := hw.trans (hb.mono hw.size)
  obtain ⟨xs, ys, zs, vs⟩ := Bs.facts
  obtain ⟨xo, yo, zo, vo⟩ := Bo.facts
  go_wp2_with fail
  try rw [rounds_succ (n := 18)]
  obtain ⟨xs, ys, zs, vs⟩ := Bs.facts
  obtain ⟨xo, yo, zo, vo⟩ := Bo.facts
  go_wp2_with fail
  refine at_world fun W9 hW => ?_
  replace hw : Below w.heap.size w W9 := by rw [hW]; exact hw
  replace Bs : Box W9 (bk) [.int .i64 x.x, .int .i64 x.y, .int .i64 y.x, .int .i64 y.y, .int .i64 z.x, .int .i64 z.y] 23 := by rw [hW]; exact Bs
  replace Bo : Box W9 (g0) (.int .i64 x.x :: .int .i64 x.y :: tl0) 23 := by rw [hW]; exact Bo
  clear hW
  clear xs ys zs vs xo yo zo vo
  have gs := Bs.cells
  have go := Bo.cells
  refine wp_region_tail 14 (by kernel_rfl) (by kernel_rfl) (C := fun w' => ∃ p : Regrown, w' = grow (redrawn W9 p.d) p.os) (fun w' h => regrown_of_below h) ?_
  simp only [List.take_succ_cons, List.take_zero, List.drop_succ_cons, List.drop_zero]
  repeat (first | (refine rWalk_skip (Eq.refl false) ?_; simp only [Act.put, List.setIfInBounds_toArray, List.set_cons_succ, List.set_cons_zero]) | (refine rWalk_step (fun K hK => ?_); go_simp; first | (refine hK _ ?_; clear hK K) | (apply Exists.intro; refine ⟨fun _ => ?_, hK _ ?_⟩; (first | fail); clear hK K)))
  refine rWalk_nil ?_
  intro w10 hb
  clear gs go
  replace Bs := Bs.ext hb rfl
  replace Bo := Bo.ext hb rfl
  replace hw := hw.trans (hb.mono hw.size)
  obtain ⟨xs, ys, zs, vs⟩ := Bs.facts
  obtain ⟨xo, yo, zo, vo⟩ := Bo.facts
  go_wp2_with fail
  refine at_world fun W11 hW => ?_
  replace hw : Below w.heap.size w W11 := by rw [hW]; exact hw
  replace Bs : Box W11 (bk) [.int .i64 x.x, .int .i64 x.y, .int .i64 y.x, .int .i64 y.y, .int .i64 z.x, .int .i64 z.y] 23 := by rw [hW]; exact Bs
  replace Bo : Box W11 (g0) (.int .i64 x.x :: .int .i64 x.y :: tl0) 23 := by rw [hW]; exact Bo
  clear hW
  clear xs ys zs vs xo yo zo vo
  have gs := Bs.cells
  have go := Bo.cells
  refine wp_region_tail 13 (by kernel_rfl) (by kernel_rfl) (C := fun w' => ∃ p : Regrown, w' = grow (redrawn W11 p.d) p.os) (fun w' h => regrown_of_below h) ?_
  simp only [List.take_succ_cons, List.take_zero, List.drop_succ_cons, List.drop_zero]
  repeat (first | (refine rWalk_skip (Eq.refl false) ?_; simp only [Act.put, List.setIfInBounds_toArray, List.set_cons_succ, List.set_cons_zero]) | (refine rWalk_step (fun K hK => ?_); go_simp; first | (refine hK _ ?_; clear hK K) | (apply Exists.intro; refine ⟨fun _ => ?_, hK _ ?_⟩; (first | fail); clear hK K)))
  refine rWalk_nil ?_
  intro w12 hb
  clear gs go
  replace Bs := Bs.ext hb rfl
  replace Bo := Bo.ext hb rfl
  replace hw := hw.trans (hb.mono hw.size)
  obtain ⟨xs, ys, zs, vs⟩ := Bs.facts
  obtain ⟨xo, yo, zo, vo⟩ := Bo.facts
  go_wp2_with (at_builtin; refine append_pt rfl _ _ rfl w.heap.size 1 (.slice (some ⟨g0, 0, none⟩) 1 cap0) [.int .i64 x.x, .int .i64 x.y] rfl ((owns_of_box (xs := [.int .i64 x.x, .int .i64 x.y]) (T := 23) Bo (by omega) rfl hc0 hm0 ht0).alloc _) w12.heap.size y rfl (Box.new rfl) (by omega) (by have hl := hw.size; simp; omega) ?_; intro w13 g1 cap1 tl1 hg1 Bq hc1 hm1 ht1 hgr)
  have hz : w12.heap.size ≤ w13.heap.size := by have hl := hgr.size; simp at hl; omega
  replace hw : Below w.heap.size w w13 := Below.grown (hw.alloc hw.size _) hgr (by have hl := hw.size; simp; omega) (by intro k hk; simp [Value.ownBlock] at hk; omega)
  clear xs ys zs vs xo yo zo vo
  replace Bs : Box w13 (bk) [.int .i64 x.x, .int .i64 x.y, .int .i64 y.x, .int .i64 y.y, .int .i64 z.x, .int .i64 z.y] 23 := (Bs.old _).grownBy hgr (by simp [Value.ownBlock]; omega)
  clear Bo
  have Bo : Box w13 (g1) (.int .i64 x.x :: .int .i64 x.y :: .int .i64 y.x :: .int .i64 y.y :: tl1) 23 := Bq
  clear Bq hgr
  refine wp_loop_rounds 20 ?_
  try rw [rounds_succ (n := 19)]
  obtain ⟨xs, ys, zs, vs⟩ := Bs.facts
  obtain ⟨xo, yo, zo, vo⟩ := Bo.facts
  go_wp2_with fail
  refine at_world fun W14 hW => ?_
  have Cs : Box W14 (bk) [.int .i64 x.x, .int .i64 x.y, .int .i64 y.x, .int .i64 y.y, .int .i64 z.x, .int .i64 z.y] 23 := by rw [hW]; exact ((Bs.set_ne ⟨g1, 2, none⟩ ((.int .i64 x.x)) (by show (g1 : Nat) ≠ _; omega)).set_ne ⟨g1, 3, none⟩ ((.int .i64 x.y)) (by show (g1 : Nat) ≠ _; omega))
  have Co : Box W14 (g1) (.int .i64 x.x :: .int .i64 x.y :: .int .i64 x.x :: .int .i64 x.y :: tl1) 23 := by rw [hW]; exact ((Bo.set 2 ((.int .i64 x.x))).set 3 ((.int .i64 x.y)))
  replace hw : Below w.heap.size w W14 := by rw [hW]; exact Below.setCell (Below.setCell (hw) (by show w.heap.size ≤ (g1 : Nat); omega) _) (by show w.heap.size ≤ (g1 : Nat); omega) _
  clear xs ys zs vs xo yo zo vo
  clear hW Bs Bo
  have Bs := Cs
  have Bo := Co
  clear Cs Co
  try rw [rounds_succ (n := 18)]
  obtain ⟨xs, ys, zs, vs⟩ := Bs.facts
  obtain ⟨xo, yo, zo, vo⟩ := Bo.facts
  go_wp2_with fail
  refine at_world fun W15 hW => ?_
  have Cs : Box W15 (bk) [.int .i64 x.x, .int .i64 x.y, .int .i64 y.x, .int .i64 y.y, .int .i64 z.x, .int .i64 z.y] 23 := by rw [hW]; exact ((Bs.set_ne ⟨g1, 0, none⟩ ((.int .i64 y.x)) (by show (g1 : Nat) ≠ _; omega)).set_ne ⟨g1, 1, none⟩ ((.int .i64 y.y)) (by show (g1 : Nat) ≠ _; omega))
  have Co : Box W15 (g1) (.int .i64 y.x :: .int .i64 y.y :: .int .i64 x.x :: .int .i64 x.y :: tl1) 23 := by rw [hW]; exact ((Bo.set 0 ((.int .i64 y.x))).set 1 ((.int .i64 y.y)))
  replace hw : Below w.heap.size w W15 := by rw [hW]; exact Below.setCell (Below.setCell (hw) (by show w.heap.size ≤ (g1 : Nat); omega) _) (by show w.heap.size ≤ (g1 : Nat); omega) _
  clear xs ys zs vs xo yo zo vo
  clear hW Bs Bo
  have Bs := Cs
  have Bo := Co
  clear Cs Co
  try rw [rounds_succ (n := 1)]
  obtain ⟨xs, ys, zs, vs⟩ := Bs.facts
  obtain ⟨xo, yo, zo, vo⟩ := Bo.facts
  go_wp2_with fail
  refine wp_loop_rounds 20 ?_
  try rw [rounds_succ (n := 19)]
  obtain ⟨xs, ys, zs, vs⟩ := Bs.facts
  obtain ⟨xo, yo, zo, vo⟩ := Bo.facts
  go_wp2_with fail
  refine at_world fun W16 hW => ?_
  replace hw : Below w.heap.size w W16 := by rw [hW]; exact hw
  replace Bs : Box W16 (bk) [.int .i64 x.x, .int .i64 x.y, .int .i64 y.x, .int .i64 y.y, .int .i64 z.x, .int .i64 z.y] 23 := by rw [hW]; exact Bs
  replace Bo : Box W16 (g1) (.int .i64 y.x :: .int .i64 y.y :: .int .i64 x.x :: .int .i64 x.y :: tl1) 23 := by rw [hW]; exact Bo
  clear hW
  clear xs ys zs vs xo yo zo vo
  have gs := Bs.cells
  have go := Bo.cells
  refine wp_region_tail 14 (by kernel_rfl) (by kernel_rfl) (C := fun w' => ∃ p : Regrown, w' = grow (redrawn W16 p.d) p.os) (fun w' h => regrown_of_below h) ?_
  simp only [List.take_succ_cons, List.take_zero, List.drop_succ_cons, List.drop_zero]
  repeat (first | (refine rWalk_skip (Eq.refl false) ?_; simp only [Act.put, List.setIfInBounds_toArray, List.set_cons_succ, List.set_cons_zero]) | (refine rWalk_step (fun K hK => ?_); go_simp; first | (refine hK _ ?_; clear hK K) | (apply Exists.intro; refine ⟨fun _ => ?_, hK _ ?_⟩; (first | with_reducible exact toExt kh2 _); clear hK K)))
  refine rWalk_nil ?_
  intro w17 hb
  clear gs go
  replace Bs := Bs.ext hb rfl
  replace Bo := Bo.ext hb rfl
  replace hw := hw.trans (hb.mono hw.size)
  obtain ⟨xs, ys, zs, vs⟩ := Bs.facts
  obtain ⟨xo, yo, zo, vo⟩ := Bo.facts
  go_wp2_with fail
  try rw [rounds_succ (n := 18)]
  obtain ⟨xs, ys, zs, vs⟩ := Bs.facts
  obtain ⟨xo, yo, zo, vo⟩ := Bo.facts
  go_wp2_with fail
  refine at_world fun W18 hW => ?_
  replace hw : Below w.heap.size w W18 := by rw [hW]; exact hw
  replace Bs : Box W18 (bk) [.int .i64 x.x, .int .i64 x.y, .int .i64 y.x, .int .i64 y.y, .int .i64 z.x, .int .i64 z.y] 23 := by rw [hW]; exact Bs
  replace Bo : Box W18 (g1) (.int .i64 y.x :: .int .i64 y.y :: .int .i64 x.x :: .int .i64 x.y :: tl1) 23 := by rw [hW]; exact Bo
  clear hW
  clear xs ys zs vs xo yo zo vo
  have gs := Bs.cells
  have go := Bo.cells
  refine wp_region_tail 14 (by kernel_rfl) (by kernel_rfl) (C := fun w' => ∃ p : Regrown, w' = grow (redrawn W18 p.d) p.os) (fun w' h => regrown_of_below h) ?_
  simp only [List.take_succ_cons, List.take_zero, List.drop_succ_cons, List.drop_zero]
  repeat (first | (refine rWalk_skip (Eq.refl false) ?_; simp only [Act.put, List.setIfInBounds_toArray, List.set_cons_succ, List.set_cons_zero]) | (refine rWalk_step (fun K hK => ?_); go_simp; first | (refine hK _ ?_; clear hK K) | (apply Exists.intro; refine ⟨fun _ => ?_, hK _ ?_⟩; (first | with_reducible exact toExt kh3 _); clear hK K)))
  refine rWalk_nil ?_
  intro w19 hb
  clear gs go
  replace Bs := Bs.ext hb rfl
  replace Bo := Bo.ext hb rfl
  replace hw := hw.trans (hb.mono hw.size)
  obtain ⟨xs, ys, zs, vs⟩ := Bs.facts
  obtain ⟨xo, yo, zo, vo⟩ := Bo.facts
  go_wp2_with fail
  refine at_world fun W20 hW => ?_
  replace hw : Below w.heap.size w W20 := by rw [hW]; exact hw
  replace Bs : Box W20 (bk) [.int .i64 x.x, .int .i64 x.y, .int .i64 y.x, .int .i64 y.y, .int .i64 z.x, .int .i64 z.y] 23 := by rw [hW]; exact Bs
  replace Bo : Box W20 (g1) (.int .i64 y.x :: .int .i64 y.y :: .int .i64 x.x :: .int .i64 x.y :: tl1) 23 := by rw [hW]; exact Bo
  clear hW
  clear xs ys zs vs xo yo zo vo
  have gs := Bs.cells
  have go := Bo.cells
  refine wp_region_tail 13 (by kernel_rfl) (by kernel_rfl) (C := fun w' => ∃ p : Regrown, w' = grow (redrawn W20 p.d) p.os) (fun w' h => regrown_of_below h) ?_
  simp only [List.take_succ_cons, List.take_zero, List.drop_succ_cons, List.drop_zero]
  repeat (first | (refine rWalk_skip (Eq.refl false) ?_; simp only [Act.put, List.setIfInBounds_toArray, List.set_cons_succ, List.set_cons_zero]) | (refine rWalk_step (fun K hK => ?_); go_simp; first | (refine hK _ ?_; clear hK K) | (apply Exists.intro; refine ⟨fun _ => ?_, hK _ ?_⟩; (first | fail); clear hK K)))
  refine rWalk_nil ?_
  intro w21 hb
  clear gs go
  replace Bs := Bs.ext hb rfl
  replace Bo := Bo.ext hb rfl
  replace hw := hw.trans (hb.mono hw.size)
  obtain ⟨xs, ys, zs, vs⟩ := Bs.facts
  obtain ⟨xo, yo, zo, vo⟩ := Bo.facts
  go_wp2_with (at_builtin; refine append_pt rfl _ _ rfl w.heap.size 2 (.slice (some ⟨g1, 0, none⟩) 2 cap1) [.int .i64 y.x, .int .i64 y.y, .int .i64 x.x, .int .i64 x.y] rfl ((owns_of_box (xs := [.int .i64 y.x, .int .i64 y.y, .int .i64 x.x, .int .i64 x.y]) (T := 23) Bo (by omega) rfl hc1 hm1 ht1).alloc _) w21.heap.size z rfl (Box.new rfl) (by omega) (by have hl := hw.size; simp; omega) ?_; intro w22 g2 cap2 tl2 hg2 Bq hc2 hm2 ht2 hgr)
  have hz : w21.heap.size ≤ w22.heap.size := by have hl := hgr.size; simp at hl; omega
  replace hw : Below w.heap.size w w22 := Below.grown (hw.alloc hw.size _) hgr (by have hl := hw.size; simp; omega) (by intro k hk; simp [Value.ownBlock] at hk; omega)
  clear xs ys zs vs xo yo zo vo
  replace Bs : Box w22 (bk) [.int .i64 x.x, .int .i64 x.y, .int .i64 y.x, .int .i64 y.y, .int .i64 z.x, .int .i64 z.y] 23 := (Bs.old _).grownBy hgr (by simp [Value.ownBlock]; omega)
  clear Bo
  have Bo : Box w22 (g2) (.int .i64 y.x :: .int .i64 y.y :: .int .i64 x.x :: .int .i64 x.y :: .int .i64 z.x :: .int .i64 z.y :: tl2) 23 := Bq
  clear Bq hgr
  refine wp_loop_rounds 20 ?_
  try rw [rounds_succ (n := 19)]
  obtain ⟨xs, ys, zs, vs⟩ := Bs.facts
  obtain ⟨xo, yo, zo, vo⟩ := Bo.facts
  go_wp2_with fail
  refine at_world fun W23 hW => ?_
  have Cs : Box W23 (bk) [.int .i64 x.x, .int .i64 x.y, .int .i64 y.x, .int .i64 y.y, .int .i64 z.x, .int .i64 z.y] 23 := by rw [hW]; exact ((Bs.set_ne ⟨g2, 4, none⟩ ((.int .i64 x.x)) (by show (g2 : Nat) ≠ _; omega)).set_ne ⟨g2, 5, none⟩ ((.int .i64 x.y)) (by show (g2 : Nat) ≠ _; omega))
  have Co : Box W23 (g2) (.int .i64 y.x :: .int .i64 y.y :: .int .i64 x.x :: .int .i64 x.y :: .int .i64 x.x :: .int .i64 x.y :: tl2) 23 := by rw [hW]; exact ((Bo.set 4 ((.int .i64 x.x))).set 5 ((.int .i64 x.y)))
  replace hw : Below w.heap.size w W23 := by rw [hW]; exact Below.setCell (Below.setCell (hw) (by show w.heap.size ≤ (g2 : Nat); omega) _) (by show w.heap.size ≤ (g2 : Nat); omega) _
  clear xs ys zs vs xo yo zo vo
  clear hW Bs Bo
  have Bs := Cs
  have Bo := Co
  clear Cs Co
  try rw [rounds_succ (n := 18)]
  obtain ⟨xs, ys, zs, vs⟩ := Bs.facts
  obtain ⟨xo, yo, zo, vo⟩ := Bo.facts
  go_wp2_with fail
  refine at_world fun W24 hW => ?_
  have Cs : Box W24 (bk) [.int .i64 x.x, .int .i64 x.y, .int .i64 y.x, .int .i64 y.y, .int .i64 z.x, .int .i64 z.y] 23 := by rw [hW]; exact ((Bs.set_ne ⟨g2, 2, none⟩ ((.int .i64 z.x)) (by show (g2 : Nat) ≠ _; omega)).set_ne ⟨g2, 3, none⟩ ((.int .i64 z.y)) (by show (g2 : Nat) ≠ _; omega))
  have Co : Box W24 (g2) (.int .i64 y.x :: .int .i64 y.y :: .int .i64 z.x :: .int .i64 z.y :: .int .i64 x.x :: .int .i64 x.y :: tl2) 23 := by rw [hW]; exact ((Bo.set 2 ((.int .i64 z.x))).set 3 ((.int .i64 z.y)))
  replace hw : Below w.heap.size w W24 := by rw [hW]; exact Below.setCell (Below.setCell (hw) (by show w.heap.size ≤ (g2 : Nat); omega) _) (by show w.heap.size ≤ (g2 : Nat); omega) _
  clear xs ys zs vs xo yo zo vo
  clear hW Bs Bo
  have Bs := Cs
  have Bo := Co
  clear Cs Co
  try rw [rounds_succ (n := 0)]
  obtain ⟨xs, ys, zs, vs⟩ := Bs.facts
  obtain ⟨xo, yo, zo, vo⟩ := Bo.facts
  go_wp2_with fail
  refine bodyPost_ret (v := .slice (some ⟨g2, 0, none⟩) 3 cap2) (by simp [results, Try.results7, go_sem]) rfl ⟨g2, ⟨cap2, rfl⟩, hg2, ⟨tl2, Bo⟩, hw⟩

set_option maxRecDepth 100000 in
set_option maxHeartbeats 2000000 in
theorem sort_12 (x y z : Pt) (h1 : cmpP x y = 1) (h2 : cmpP x z = 1) (h3 : cmpP y z = 1) (w : World) (bk : Nat) (hB : Box w bk [.int .i64 x.x, .int .i64 x.y, .int .i64 y.x, .int .i64 y.y, .int .i64 z.x, .int .i64 z.y] 23) :
    Calls Try.prog 7 #[.slice (some ⟨bk, 0, none⟩) 3 3] w fun e w' => ∃ g cap tl, e = .returned (.slice (some ⟨g, 0, none⟩) 3 cap) ∧ w.heap.size ≤ g ∧ Box w' g ((.int .i64 z.x :: .int .i64 z.y :: .int .i64 y.x :: .int .i64 y.y :: .int .i64 x.x :: .int .i64 x.y :: tl)) 23 ∧ Below w.heap.size w w' := by
  have kh1 := rcmp_pt x y
  rw [h1] at kh1
  clear h1
  have kh2 := rcmp_pt x z
  rw [h2] at kh2
  clear h2
  have kh3 := rcmp_pt y z
  rw [h3] at kh3
  clear h3
  have wq0 : IntKind.i64.wrap 0 = 0 := by decide
  have wq1 : IntKind.i64.wrap 1 = 1 := by decide
  have lbk := hB.lt
  have hw := Below.refl w.heap.size w
  have Bs := hB
  clear hB
  go_enter Try.func7, Try.ntmps7
  obtain ⟨xs, ys, zs, vs⟩ := Bs.facts
  go_wp2_with fail
  refine wp_loop_rounds 4 ?_
  try rw [rounds_succ (n := 3)]
  obtain ⟨xs, ys, zs, vs⟩ := Bs.facts
  go_wp2_with fail
  refine wp_loop_rounds 20 ?_
  try rw [rounds_succ (n := 19)]
  obtain ⟨xs, ys, zs, vs⟩ := Bs.facts
  go_wp2_with fail
  refine at_world fun W1 hW => ?_
  replace hw : Below w.heap.size w W1 := by rw [hW]; exact hw
  replace Bs : Box W1 (bk) [.int .i64 x.x, .int .i64 x.y, .int .i64 y.x, .int .i64 y.y, .int .i64 z.x, .int .i64 z.y] 23 := by rw [hW]; exact Bs
  clear hW
  clear xs ys zs vs
  have gs := Bs.cells
  refine wp_region_tail 14 (by kernel_rfl) (by kernel_rfl) (C := fun w' => ∃ p : Regrown, w' = grow (redrawn W1 p.d) p.os) (fun w' h => regrown_of_below h) ?_
  simp only [List.take_succ_cons, List.take_zero, List.drop_succ_cons, List.drop_zero]
  repeat (first | (refine rWalk_skip (Eq.refl false) ?_; simp only [Act.put, List.setIfInBounds_toArray, List.set_cons_succ, List.set_cons_zero]) | (refine rWalk_step (fun K hK => ?_); go_simp; first | (refine hK _ ?_; clear hK K) | (apply Exists.intro; refine ⟨fun _ => ?_, hK _ ?_⟩; (first | fail); clear hK K)))
  refine rWalk_nil ?_
  intro w2 hb
  clear gs
  replace Bs := Bs.ext hb rfl
  replace hw := hw.trans (hb.mono hw.size)
  obtain ⟨xs, ys, zs, vs⟩ := Bs.facts
  go_wp2_with fail
  refine at_world fun W3 hW => ?_
  replace hw : Below w.heap.size w W3 := by rw [hW]; exact hw
  replace Bs : Box W3 (bk) [.int .i64 x.x, .int .i64 x.y, .int .i64 y.x, .int .i64 y.y, .int .i64 z.x, .int .i64 z.y] 23 := by rw [hW]; exact Bs
  clear hW
  clear xs ys zs vs
  have gs := Bs.cells
  refine wp_region_tail 13 (by kernel_rfl) (by kernel_rfl) (C := fun w' => ∃ p : Regrown, w' = grow (redrawn W3 p.d) p.os) (fun w' h => regrown_of_below h) ?_
  simp only [List.take_succ_cons, List.take_zero, List.drop_succ_cons, List.drop_zero]
  repeat (first | (refine rWalk_skip (Eq.refl false) ?_; simp only [Act.put, List.setIfInBounds_toArray, List.set_cons_succ, List.set_cons_zero]) | (refine rWalk_step (fun K hK => ?_); go_simp; first | (refine hK _ ?_; clear hK K) | (apply Exists.intro; refine ⟨fun _ => ?_, hK _ ?_⟩; (first | fail); clear hK K)))
  refine rWalk_nil ?_
  intro w4 hb
  clear gs
  replace Bs := Bs.ext hb rfl
  replace hw := hw.trans (hb.mono hw.size)
  obtain ⟨xs, ys, zs, vs⟩ := Bs.facts
  go_wp2_with (at_builtin; refine append_pt rfl _ _ rfl w.heap.size 0 (.slice none 0 0) [] rfl (World.ownsRow_nil _ _ _ _) w4.heap.size x rfl (Box.new rfl) (by omega) (by have hl := hw.size; simp; omega) ?_; intro w5 g0 cap0 tl0 hg0 Bq hc0 hm0 ht0 hgr)
  have hz : w4.heap.size ≤ w5.heap.size := by have hl := hgr.size; simp at hl; omega
  replace hw : Below w.heap.size w w5 := Below.grown (hw.alloc hw.size _) hgr (by have hl := hw.size; simp; omega) (by intro k hk; simp [Value.ownBlock] at hk)
  clear xs ys zs vs
  replace Bs : Box w5 (bk) [.int .i64 x.x, .int .i64 x.y, .int .i64 y.x, .int .i64 y.y, .int .i64 z.x, .int .i64 z.y] 23 := (Bs.old _).grownBy hgr (by simp [Value.ownBlock])
  have Bo : Box w5 (g0) (.int .i64 x.x :: .int .i64 x.y :: tl0) 23 := Bq
  clear Bq hgr
  refine wp_loop_rounds 20 ?_
  try rw [rounds_succ (n := 19)]
  obtain ⟨xs, ys, zs, vs⟩ := Bs.facts
  obtain ⟨xo, yo, zo, vo⟩ := Bo.facts
  go_wp2_with fail
  refine at_world fun W6 hW => ?_
  have Cs : Box W6 (bk) [.int .i64 x.x, .int .i64 x.y, .int .i64 y.x, .int .i64 y.y, .int .i64 z.x, .int .i64 z.y] 23 := by rw [hW]; exact ((Bs.set_ne ⟨g0, 0, none⟩ ((.int .i64 x.x)) (by show (g0 : Nat) ≠ _; omega)).set_ne ⟨g0, 1, none⟩ ((.int .i64 x.y)) (by show (g0 : Nat) ≠ _; omega))
  have Co : Box W6 (g0) (.int .i64 x.x :: .int .i64 x.y :: tl0) 23 := by rw [hW]; exact ((Bo.set 0 ((.int .i64 x.x))).set 1 ((.int .i64 x.y)))
  replace hw : Below w.heap.size w W6 := by rw [hW]; exact Below.setCell (Below.setCell (hw) (by show w.heap.size ≤ (g0 : Nat); omega) _) (by show w.heap.size ≤ (g0 : Nat); omega) _
  clear xs ys zs vs xo yo zo vo
  clear hW Bs Bo
  have Bs := Cs
  have Bo := Co
  clear Cs Co
  try rw [rounds_succ (n := 2)]
  obtain ⟨xs, ys, zs, vs⟩ := Bs.facts
  obtain ⟨xo, yo, zo, vo⟩ := Bo.facts
  go_wp2_with fail
  refine wp_loop_rounds 20 ?_
  try rw [rounds_succ (n := 19)]
  obtain ⟨xs, ys, zs, vs⟩ := Bs.facts
  obtain ⟨xo, yo, zo, vo⟩ := Bo.facts
  go_wp2_with fail
  refine at_world fun W7 hW => ?_
  replace hw : Below w.heap.size w W7 := by rw [hW]; exact hw
  replace Bs : Box W7 (bk) [.int .i64 x.x, .int .i64 x.y, .int .i64 y.x, .int .i64 y.y, .int .i64 z.x, .int .i64 z.y] 23 := by rw [hW]; exact Bs
  replace Bo : Box W7 (g0) (.int .i64 x.x :: .int .i64 x.y :: tl0) 23 := by rw [hW]; exact Bo
  clear hW
  clear xs ys zs vs xo yo zo vo
  have gs := Bs.cells
  have go := Bo.cells
  refine wp_region_tail 14 (by kernel_rfl) (by kernel_rfl) (C := fun w' => ∃ p : Regrown, w' = grow (redrawn W7 p.d) p.os) (fun w' h => regrown_of_below h) ?_
  simp only [List.take_succ_cons, List.take_zero, List.drop_succ_cons, List.drop_zero]
  repeat (first | (refine rWalk_skip (Eq.refl false) ?_; simp only [Act.put, List.setIfInBounds_toArray, List.set_cons_succ, List.set_cons_zero]) | (refine rWalk_step (fun K hK => ?_); go_simp; first | (refine hK _ ?_; clear hK K) | (apply Exists.intro; refine ⟨fun _ => ?_, hK _ ?_⟩; (first | with_reducible exact toExt kh1 _); clear hK K)))
  refine rWalk_nil ?_
  intro w8 hb
  clear gs go
  replace Bs := Bs.ext hb rfl
  replace Bo := Bo.ext hb rfl
  replace hw := hw.trans (hb.mono hw.size)
  obtain ⟨xs, ys, zs, vs⟩ := Bs.facts
  obtain ⟨xo, yo, zo, vo⟩ := Bo.facts
  go_wp2_with fail
  try rw [rounds_succ (n := 18)]
  obtain ⟨xs, ys, zs, vs⟩ := Bs.facts
  obtain ⟨xo, yo, zo, vo⟩ := Bo.facts
  go_wp2_with fail
  refine at_world fun W9 hW => ?_
  replace hw : Below w.heap.size w W9 := by rw [hW]; exact hw
  replace Bs : Box W9 (bk) [.int .i64 x.x, .int .i64 x.y, .int .i64 y.x, .int .i64 y.y, .int .i64 z.x, .int .i64 z.y] 23 := by rw [hW]; exact Bs
  replace Bo : Box W9 (g0) (.int .i64 x.x :: .int .i64 x.y :: tl0) 23 := by rw [hW]; exact Bo
  clear hW
  clear xs ys zs vs xo yo zo vo
  have gs := Bs.cells
  have go := Bo.cells
  refine wp_region_tail 14 (by kernel_rfl) (by kernel_rfl) (C := fun w' => ∃ p : Regrown, w' = grow (redrawn W9 p.d) p.os) (fun w' h => regrown_of_below h) ?_
  simp only [List.take_succ_cons, List.take_zero, List.drop_succ_cons, List.drop_zero]
  repeat (first | (refine rWalk_skip (Eq.refl false) ?_; simp only [Act.put, List.setIfInBounds_toArray, List.set_cons_succ, List.set_cons_zero]) | (refine rWalk_step (fun K hK => ?_); go_simp; first | (refine hK _ ?_; clear hK K) | (apply Exists.intro; refine ⟨fun _ => ?_, hK _ ?_⟩; (first | fail); clear hK K)))
  refine rWalk_nil ?_
  intro w10 hb
  clear gs go
  replace Bs := Bs.ext hb rfl
  replace Bo := Bo.ext hb rfl
  replace hw := hw.trans (hb.mono hw.size)
  obtain ⟨xs, ys, zs, vs⟩ := Bs.facts
  obtain ⟨xo, yo, zo, vo⟩ := Bo.facts
  go_wp2_with fail
  refine at_world fun W11 hW => ?_
  replace hw : Below w.heap.size w W11 := by rw [hW]; exact hw
  replace Bs : Box W11 (bk) [.int .i64 x.x, .int .i64 x.y, .int .i64 y.x, .int .i64 y.y, .int .i64 z.x, .int .i64 z.y] 23 := by rw [hW]; exact Bs
  replace Bo : Box W11 (g0) (.int .i64 x.x :: .int .i64 x.y :: tl0) 23 := by rw [hW]; exact Bo
  clear hW
  clear xs ys zs vs xo yo zo vo
  have gs := Bs.cells
  have go := Bo.cells
  refine wp_region_tail 13 (by kernel_rfl) (by kernel_rfl) (C := fun w' => ∃ p : Regrown, w' = grow (redrawn W11 p.d) p.os) (fun w' h => regrown_of_below h) ?_
  simp only [List.take_succ_cons, List.take_zero, List.drop_succ_cons, List.drop_zero]
  repeat (first | (refine rWalk_skip (Eq.refl false) ?_; simp only [Act.put, List.setIfInBounds_toArray, List.set_cons_succ, List.set_cons_zero]) | (refine rWalk_step (fun K hK => ?_); go_simp; first | (refine hK _ ?_; clear hK K) | (apply Exists.intro; refine ⟨fun _ => ?_, hK _ ?_⟩; (first | fail); clear hK K)))
  refine rWalk_nil ?_
  intro w12 hb
  clear gs go
  replace Bs := Bs.ext hb rfl
  replace Bo := Bo.ext hb rfl
  replace hw := hw.trans (hb.mono hw.size)
  obtain ⟨xs, ys, zs, vs⟩ := Bs.facts
  obtain ⟨xo, yo, zo, vo⟩ := Bo.facts
  go_wp2_with (at_builtin; refine append_pt rfl _ _ rfl w.heap.size 1 (.slice (some ⟨g0, 0, none⟩) 1 cap0) [.int .i64 x.x, .int .i64 x.y] rfl ((owns_of_box (xs := [.int .i64 x.x, .int .i64 x.y]) (T := 23) Bo (by omega) rfl hc0 hm0 ht0).alloc _) w12.heap.size y rfl (Box.new rfl) (by omega) (by have hl := hw.size; simp; omega) ?_; intro w13 g1 cap1 tl1 hg1 Bq hc1 hm1 ht1 hgr)
  have hz : w12.heap.size ≤ w13.heap.size := by have hl := hgr.size; simp at hl; omega
  replace hw : Below w.heap.size w w13 := Below.grown (hw.alloc hw.size _) hgr (by have hl := hw.size; simp; omega) (by intro k hk; simp [Value.ownBlock] at hk; omega)
  clear xs ys zs vs xo yo zo vo
  replace Bs : Box w13 (bk) [.int .i64 x.x, .int .i64 x.y, .int .i64 y.x, .int .i64 y.y, .int .i64 z.x, .int .i64 z.y] 23 := (Bs.old _).grownBy hgr (by simp [Value.ownBlock]; omega)
  clear Bo
  have Bo : Box w13 (g1) (.int .i64 x.x :: .int .i64 x.y :: .int .i64 y.x :: .int .i64 y.y :: tl1) 23 := Bq
  clear Bq hgr
  refine wp_loop_rounds 20 ?_
  try rw [rounds_succ (n := 19)]
  obtain ⟨xs, ys, zs, vs⟩ := Bs.facts
  obtain ⟨xo, yo, zo, vo⟩ := Bo.facts
  go_wp2_with fail
  refine at_world fun W14 hW => ?_
  have Cs : Box W14 (bk) [.int .i64 x.x, .int .i64 x.y, .int .i64 y.x, .int .i64 y.y, .int .i64 z.x, .int .i64 z.y] 23 := by rw [hW]; exact ((Bs.set_ne ⟨g1, 2, none⟩ ((.int .i64 x.x)) (by show (g1 : Nat) ≠ _; omega)).set_ne ⟨g1, 3, none⟩ ((.int .i64 x.y)) (by show (g1 : Nat) ≠ _; omega))
  have Co : Box W14 (g1) (.int .i64 x.x :: .int .i64 x.y :: .int .i64 x.x :: .int .i64 x.y :: tl1) 23 := by rw [hW]; exact ((Bo.set 2 ((.int .i64 x.x))).set 3 ((.int .i64 x.y)))
  replace hw : Below w.heap.size w W14 := by rw [hW]; exact Below.setCell (Below.setCell (hw) (by show w.heap.size ≤ (g1 : Nat); omega) _) (by show w.heap.size ≤ (g1 : Nat); omega) _
  clear xs ys zs vs xo yo zo vo
  clear hW Bs Bo
  have Bs := Cs
  have Bo := Co
  clear Cs Co
  try rw [rounds_succ (n := 18)]
  obtain ⟨xs, ys, zs, vs⟩ := Bs.facts
  obtain ⟨xo, yo, zo, vo⟩ := Bo.facts
  go_wp2_with fail
  refine at_world fun W15 hW => ?_
  have Cs : Box W15 (bk) [.int .i64 x.x, .int .i64 x.y, .int .i64 y.x, .int .i64 y.y, .int .i64 z.x, .int .i64 z.y] 23 := by rw [hW]; exact ((Bs.set_ne ⟨g1, 0, none⟩ ((.int .i64 y.x)) (by show (g1 : Nat) ≠ _; omega)).set_ne ⟨g1, 1, none⟩ ((.int .i64 y.y)) (by show (g1 : Nat) ≠ _; omega))
  have Co : Box W15 (g1) (.int .i64 y.x :: .int .i64 y.y :: .int .i64 x.x :: .int .i64 x.y :: tl1) 23 := by rw [hW]; exact ((Bo.set 0 ((.int .i64 y.x))).set 1 ((.int .i64 y.y)))
  replace hw : Below w.heap.size w W15 := by rw [hW]; exact Below.setCell (Below.setCell (hw) (by show w.heap.size ≤ (g1 : Nat); omega) _) (by show w.heap.size ≤ (g1 : Nat); omega) _
  clear xs ys zs vs xo yo zo vo
  clear hW Bs Bo
  have Bs := Cs
  have Bo := Co
  clear Cs Co
  try rw [rounds_succ (n := 1)]
  obtain ⟨xs, ys, zs, vs⟩ := Bs.facts
  obtain ⟨xo, yo, zo, vo⟩ := Bo.facts
  go_wp2_with fail
  refine wp_loop_rounds 20 ?_
  try rw [rounds_succ (n := 19)]
  obtain ⟨xs, ys, zs, vs⟩ := Bs.facts
  obtain ⟨xo, yo, zo, vo⟩ := Bo.facts
  go_wp2_with fail
  refine at_world fun W16 hW => ?_
  replace hw : Below w.heap.size w W16 := by rw [hW]; exact hw
  replace Bs : Box W16 (bk) [.int .i64 x.x, .int .i64 x.y, .int .i64 y.x, .int .i64 y.y, .int .i64 z.x, .int .i64 z.y] 23 := by rw [hW]; exact Bs
  replace Bo : Box W16 (g1) (.int .i64 y.x :: .int .i64 y.y :: .int .i64 x.x :: .int .i64 x.y :: tl1) 23 := by rw [hW]; exact Bo
  clear hW
  clear xs ys zs vs xo yo zo vo
  have gs := Bs.cells
  have go := Bo.cells
  refine wp_region_tail 14 (by kernel_rfl) (by kernel_rfl) (C := fun w' => ∃ p : Regrown, w' = grow (redrawn W16 p.d) p.os) (fun w' h => regrown_of_below h) ?_
  simp only [List.take_succ_cons, List.take_zero, List.drop_succ_cons, List.drop_zero]
  repeat (first | (refine rWalk_skip (Eq.refl false) ?_; simp only [Act.put, List.setIfInBounds_toArray, List.set_cons_succ, List.set_cons_zero]) | (refine rWalk_step (fun K hK => ?_); go_simp; first | (refine hK _ ?_; clear hK K) | (apply Exists.intro; refine ⟨fun _ => ?_, hK _ ?_⟩; (first | with_reducible exact toExt kh2 _); clear hK K)))
  refine rWalk_nil ?_
  intro w17 hb
  clear gs go
  replace Bs := Bs.ext hb rfl
  replace Bo := Bo.ext hb rfl
  replace hw := hw.trans (hb.mono hw.size)
  obtain ⟨xs, ys, zs, vs⟩ := Bs.facts
  obtain ⟨xo, yo, zo, vo⟩ := Bo.facts
  go_wp2_with fail
  try rw [rounds_succ (n := 18)]
  obtain ⟨xs, ys, zs, vs⟩ := Bs.facts
  obtain ⟨xo, yo, zo, vo⟩ := Bo.facts
  go_wp2_with fail
  refine at_world fun W18 hW => ?_
  replace hw : Below w.heap.size w W18 := by rw [hW]; exact hw
  replace Bs : Box W18 (bk) [.int .i64 x.x, .int .i64 x.y, .int .i64 y.x, .int .i64 y.y, .int .i64 z.x, .int .i64 z.y] 23 := by rw [hW]; exact Bs
  replace Bo : Box W18 (g1) (.int .i64 y.x :: .int .i64 y.y :: .int .i64 x.x :: .int .i64 x.y :: tl1) 23 := by rw [hW]; exact Bo
  clear hW
  clear xs ys zs vs xo yo zo vo
  have gs := Bs.cells
  have go := Bo.cells
  refine wp_region_tail 14 (by kernel_rfl) (by kernel_rfl) (C := fun w' => ∃ p : Regrown, w' = grow (redrawn W18 p.d) p.os) (fun w' h => regrown_of_below h) ?_
  simp only [List.take_succ_cons, List.take_zero, List.drop_succ_cons, List.drop_zero]
  repeat (first | (refine rWalk_skip (Eq.refl false) ?_; simp only [Act.put, List.setIfInBounds_toArray, List.set_cons_succ, List.set_cons_zero]) | (refine rWalk_step (fun K hK => ?_); go_simp; first | (refine hK _ ?_; clear hK K) | (apply Exists.intro; refine ⟨fun _ => ?_, hK _ ?_⟩; (first | with_reducible exact toExt kh3 _); clear hK K)))
  refine rWalk_nil ?_
  intro w19 hb
  clear gs go
  replace Bs := Bs.ext hb rfl
  replace Bo := Bo.ext hb rfl
  replace hw := hw.trans (hb.mono hw.size)
  obtain ⟨xs, ys, zs, vs⟩ := Bs.facts
  obtain ⟨xo, yo, zo, vo⟩ := Bo.facts
  go_wp2_with fail
  try rw [rounds_succ (n := 17)]
  obtain ⟨xs, ys, zs, vs⟩ := Bs.facts
  obtain ⟨xo, yo, zo, vo⟩ := Bo.facts
  go_wp2_with fail
  refine at_world fun W20 hW => ?_
  replace hw : Below w.heap.size w W20 := by rw [hW]; exact hw
  replace Bs : Box W20 (bk) [.int .i64 x.x, .int .i64 x.y, .int .i64 y.x, .int .i64 y.y, .int .i64 z.x, .int .i64 z.y] 23 := by rw [hW]; exact Bs
  replace Bo : Box W20 (g1) (.int .i64 y.x :: .int .i64 y.y :: .int .i64 x.x :: .int .i64 x.y :: tl1) 23 := by rw [hW]; exact Bo
  clear hW
  clear xs ys zs vs xo yo zo vo
  have gs := Bs.cells
  have go := Bo.cells
  refine wp_region_tail 14 (by kernel_rfl) (by kernel_rfl) (C := fun w' => ∃ p : Regrown, w' = grow (redrawn W20 p.d) p.os) (fun w' h => regrown_of_below h) ?_
  simp only [List.take_succ_cons, List.take_zero, List.drop_succ_cons, List.drop_zero]
  repeat (first | (refine rWalk_skip (Eq.refl false) ?_; simp only [Act.put, List.setIfInBounds_toArray, List.set_cons_succ, List.set_cons_zero]) | (refine rWalk_step (fun K hK => ?_); go_simp; first | (refine hK _ ?_; clear hK K) | (apply Exists.intro; refine ⟨fun _ => ?_, hK _ ?_⟩; (first | fail); clear hK K)))
  refine rWalk_nil ?_
  intro w21 hb
  clear gs go
  replace Bs := Bs.ext hb rfl
  replace Bo := Bo.ext hb rfl
  replace hw := hw.trans (hb.mono hw.size)
  obtain ⟨xs, ys, zs, vs⟩ := Bs.facts
  obtain ⟨xo, yo, zo, vo⟩ := Bo.facts
  go_wp2_with fail
  refine at_world fun W22 hW => ?_
  replace hw : Below w.heap.size w W22 := by rw [hW]; exact hw
  replace Bs : Box W22 (bk) [.int .i64 x.x, .int .i64 x.y, .int .i64 y.x, .int .i64 y.y, .int .i64 z.x, .int .i64 z.y] 23 := by rw [hW]; exact Bs
  replace Bo : Box W22 (g1) (.int .i64 y.x :: .int .i64 y.y :: .int .i64 x.x :: .int .i64 x.y :: tl1) 23 := by rw [hW]; exact Bo
  clear hW
  clear xs ys zs vs xo yo zo vo
  have gs := Bs.cells
  have go := Bo.cells
  refine wp_region_tail 13 (by kernel_rfl) (by kernel_rfl) (C := fun w' => ∃ p : Regrown, w' = grow (redrawn W22 p.d) p.os) (fun w' h => regrown_of_below h) ?_
  simp only [List.take_succ_cons, List.take_zero, List.drop_succ_cons, List.drop_zero]
  repeat (first | (refine rWalk_skip (Eq.refl false) ?_; simp only [Act.put, List.setIfInBounds_toArray, List.set_cons_succ, List.set_cons_zero]) | (refine rWalk_step (fun K hK => ?_); go_simp; first | (refine hK _ ?_; clear hK K) | (apply Exists.intro; refine ⟨fun _ => ?_, hK _ ?_⟩; (first | fail); clear hK K)))
  refine rWalk_nil ?_
  intro w23 hb
  clear gs go
  replace Bs := Bs.ext hb rfl
  replace Bo := Bo.ext hb rfl
  replace hw := hw.trans (hb.mono hw.size)
  obtain ⟨xs, ys, zs, vs⟩ := Bs.facts
  obtain ⟨xo, yo, zo, vo⟩ := Bo.facts
  go_wp2_with (at_builtin; refine append_pt rfl _ _ rfl w.heap.size 2 (.slice (some ⟨g1, 0, none⟩) 2 cap1) [.int .i64 y.x, .int .i64 y.y, .int .i64 x.x, .int .i64 x.y] rfl ((owns_of_box (xs := [.int .i64 y.x, .int .i64 y.y, .int .i64 x.x, .int .i64 x.y]) (T := 23) Bo (by omega) rfl hc1 hm1 ht1).alloc _) w23.heap.size z rfl (Box.new rfl) (by omega) (by have hl := hw.size; simp; omega) ?_; intro w24 g2 cap2 tl2 hg2 Bq hc2 hm2 ht2 hgr)
  have hz : w23.heap.size ≤ w24.heap.size := by have hl := hgr.size; simp at hl; omega
  replace hw : Below w.heap.size w w24 := Below.grown (hw.alloc hw.size _) hgr (by have hl := hw.size; simp; omega) (by intro k hk; simp [Value.ownBlock] at hk; omega)
  clear xs ys zs vs xo yo zo vo
  replace Bs : Box w24 (bk) [.int .i64 x.x, .int .i64 x.y, .int .i64 y.x, .int .i64 y.y, .int .i64 z.x, .int .i64 z.y] 23 := (Bs.old _).grownBy hgr (by simp [Value.ownBlock]; omega)
  clear Bo
  have Bo : Box w24 (g2) (.int .i64 y.x :: .int .i64 y.y :: .int .i64 x.x :: .int .i64 x.y :: .int .i64 z.x :: .int .i64 z.y :: tl2) 23 := Bq
  clear Bq hgr
  refine wp_loop_rounds 20 ?_
  try rw [rounds_succ (n := 19)]
  obtain ⟨xs, ys, zs, vs⟩ := Bs.facts
  obtain ⟨xo, yo, zo, vo⟩ := Bo.facts
  go_wp2_with fail
  refine at_world fun W25 hW => ?_
  have Cs : Box W25 (bk) [.int .i64 x.x, .int .i64 x.y, .int .i64 y.x, .int .i64 y.y, .int .i64 z.x, .int .i64 z.y] 23 := by rw [hW]; exact ((Bs.set_ne ⟨g2, 4, none⟩ ((.int .i64 x.x)) (by show (g2 : Nat) ≠ _; omega)).set_ne ⟨g2, 5, none⟩ ((.int .i64 x.y)) (by show (g2 : Nat) ≠ _; omega))
  have Co : Box W25 (g2) (.int .i64 y.x :: .int .i64 y.y :: .int .i64 x.x :: .int .i64 x.y :: .int .i64 x.x :: .int .i64 x.y :: tl2) 23 := by rw [hW]; exact ((Bo.set 4 ((.int .i64 x.x))).set 5 ((.int .i64 x.y)))
  replace hw : Below w.heap.size w W25 := by rw [hW]; exact Below.setCell (Below.setCell (hw) (by show w.heap.size ≤ (g2 : Nat); omega) _) (by show w.heap.size ≤ (g2 : Nat); omega) _
  clear xs ys zs vs xo yo zo vo
  clear hW Bs Bo
  have Bs := Cs
  have Bo := Co
  clear Cs Co
  try rw [rounds_succ (n := 18)]
  obtain ⟨xs, ys, zs, vs⟩ := Bs.facts
  obtain ⟨xo, yo, zo, vo⟩ := Bo.facts
  go_wp2_with fail
  refine at_world fun W26 hW => ?_
  have Cs : Box W26 (bk) [.int .i64 x.x, .int .i64 x.y, .int .i64 y.x, .int .i64 y.y, .int .i64 z.x, .int .i64 z.y] 23 := by rw [hW]; exact ((Bs.set_ne ⟨g2, 2, none⟩ ((.int .i64 y.x)) (by show (g2 : Nat) ≠ _; omega)).set_ne ⟨g2, 3, none⟩ ((.int .i64 y.y)) (by show (g2 : Nat) ≠ _; omega))
  have Co : Box W26 (g2) (.int .i64 y.x :: .int .i64 y.y :: .int .i64 y.x :: .int .i64 y.y :: .int .i64 x.x :: .int .i64 x.y :: tl2) 23 := by rw [hW]; exact ((Bo.set 2 ((.int .i64 y.x))).set 3 ((.int .i64 y.y)))
  replace hw : Below w.heap.size w W26 := by rw [hW]; exact Below.setCell (Below.setCell (hw) (by show w.heap.size ≤ (g2 : Nat); omega) _) (by show w.heap.size ≤ (g2 : Nat); omega) _
  clear xs ys zs vs xo yo zo vo
  clear hW Bs Bo
  have Bs := Cs
  have Bo := Co
  clear Cs Co
  try rw [rounds_succ (n := 17)]
  obtain ⟨xs, ys, zs, vs⟩ := Bs.facts
  obtain ⟨xo, yo, zo, vo⟩ := Bo.facts
  go_wp2_with fail
  refine at_world fun W27 hW => ?_
  have Cs : Box W27 (bk) [.int .i64 x.x, .int .i64 x.y, .int .i64 y.x, .int .i64 y.y, .int .i64 z.x, .int .i64 z.y] 23 := by rw [hW]; exact ((Bs.set_ne ⟨g2, 0, none⟩ ((.int .i64 z.x)) (by show (g2 : Nat) ≠ _; omega)).set_ne ⟨g2, 1, none⟩ ((.int .i64 z.y)) (by show (g2 : Nat) ≠ _; omega))
  have Co : Box W27 (g2) (.int .i64 z.x :: .int .i64 z.y :: .int .i64 y.x :: .int .i64 y.y :: .int .i64 x.x :: .int .i64 x.y :: tl2) 23 := by rw [hW]; exact ((Bo.set 0 ((.int .i64 z.x))).set 1 ((.int .i64 z.y)))
  replace hw : Below w.heap.size w W27 := by rw [hW]; exact Below.setCell (Below.setCell (hw) (by show w.heap.size ≤ (g2 : Nat); omega) _) (by show w.heap.size ≤ (g2 : Nat); omega) _
  clear xs ys zs vs xo yo zo vo
  clear hW Bs Bo
  have Bs := Cs
  have Bo := Co
  clear Cs Co
  try rw [rounds_succ (n := 0)]
  obtain ⟨xs, ys, zs, vs⟩ := Bs.facts
  obtain ⟨xo, yo, zo, vo⟩ := Bo.facts
  go_wp2_with fail
  refine bodyPost_ret (v := .slice (some ⟨g2, 0, none⟩) 3 cap2) (by simp [results, Try.results7, go_sem]) rfl ⟨g2, ⟨cap2, rfl⟩, hg2, ⟨tl2, Bo⟩, hw⟩

end Go.Proofs.Ytijdbddjhnjcdaa
