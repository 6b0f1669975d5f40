/- Put together: MesH, MesI, Sort. -/
import Derived.Test.YtaegobkkcgheeaaRows
import Derived.Test.YtaegobkkcgheeaaPut13
import Derived.Test.YtaegobkkcgheeaaPut22
import Derived.Test.YtaegobkkcgheeaaPut1
import Derived.WalkKit
import Derived.WalkSpells
import Derived.WalkLawsBesides
import Derived.Laws.Externs
import Derived.Deep.QuietTactic
import Derived.BigQuiet
import Derived.Lib.Hide
import Derived.Handy
import Derived.LoopN
import Derived.RegionTactic
import Derived.Carry
import Derived.Test.YtaegobkkcgheeaaPut21
import Derived.Laws.AppendOwn
import Derived.Shelf.SlSortCmp.NoneTotal
import Derived.BigCall
namespace Go.Proofs.Ytaegobkkcgheeaa
open Go.RowKit Go.Sort
attribute [local go_sem] rOper rAt rUpon cell_set sg_i64 sg_u64 alloc_cell alloc_frozen
attribute [local go_sem 10000] pt_eql pt_neq tri_eql
attribute [local irreducible] rWalk

attribute [local go_sem] rmap_nil
set_option maxRecDepth 100000 in
set_option maxHeartbeats 2000000 in
theorem rput_0 (mb b : Nat) (E : Es) (T : Tri3) (S : Tri3) (hg0 : getE E (T.A, T.B) = some S) (hk : okT T) (w : World) (Bm : Box w mb [.map (some b)] 69) (Hm : HoldsMap eW eT okW w b E) :
    Calls Try.prog 42 #[.pointer (some ⟨mb, 0, none⟩), .agg #[.int .i64 T.A.x, .int .i64 T.A.y, .int .i64 T.B.x, .int .i64 T.B.y, .int .i64 T.C.x, .int .i64 T.C.y]] w fun e w' => e = .returned (.bool false) ∧ Below w.heap.size w w' := by
  have ce := redges_any T
  go_enter Try.func42, Try.ntmps42
  go_wp2_with fail
  refine at_call fun W1 hW => ?_
  have Bt : Box W1 (w.heap.size) [.int .i64 T.A.x, .int .i64 T.A.y, .int .i64 T.B.x, .int .i64 T.B.y, .int .i64 T.C.x, .int .i64 T.C.y] 25 := by rw [hW]; exact Box.new rfl
  have hw : Below w.heap.size w W1 := by rw [hW]; go_grown
  clear hW
  refine (ce _).mono ?_
  rintro e w2 ⟨rfl, hb⟩
  replace Bt := Bt.ext hb rfl
  replace hw := hw.trans (hb.mono hw.size)
  clear hb
  obtain ⟨xt, yt, zt, vt⟩ := Bt.facts
  go_wp2_with fail
  refine at_world fun W3 hW => ?_
  obtain ⟨bke, hbe⟩ : ∃ b, w2.heap.size = b := ⟨_, rfl⟩
  rw [hbe]
  have lte := Bt.lt
  rw [hbe] at lte
  have fe := hw.size
  rw [hbe] at fe
  have Be : Box W3 bke [.int .i64 T.A.x, .int .i64 T.A.y, .int .i64 T.B.x, .int .i64 T.B.y, .int .i64 T.B.x, .int .i64 T.B.y, .int .i64 T.C.x, .int .i64 T.C.y, .int .i64 T.C.x, .int .i64 T.C.y, .int .i64 T.A.x, .int .i64 T.A.y] 86 := by rw [hW]; exact Box.new hbe.symm
  replace Bt : Box W3 (w.heap.size) [.int .i64 T.A.x, .int .i64 T.A.y, .int .i64 T.B.x, .int .i64 T.B.y, .int .i64 T.C.x, .int .i64 T.C.y] 25 := by rw [hW]; exact Bt.old _
  replace hw : Below w.heap.size w W3 := by have hl := hw.size; rw [hW]; go_grown
  clear hW hbe
  have BM : Box W3 (mb) [.map (some b)] 69 := Bm.ext hw rfl
  refine wp_loop_rounds 5 ?_
  try rw [rounds_succ]
  obtain ⟨xt, yt, zt, vt⟩ := Bt.facts
  obtain ⟨xe, ye, ze, ve⟩ := Be.facts
  obtain ⟨xM, yM, zM, vM⟩ := BM.facts
  go_wp2_with fail
  refine at_world fun W4 hW => ?_
  replace hw : Below w.heap.size w W4 := by rw [hW]; exact hw
  replace Bt : Box W4 (w.heap.size) [.int .i64 T.A.x, .int .i64 T.A.y, .int .i64 T.B.x, .int .i64 T.B.y, .int .i64 T.C.x, .int .i64 T.C.y] 25 := by rw [hW]; exact Bt
  replace Be : Box W4 (bke) [.int .i64 T.A.x, .int .i64 T.A.y, .int .i64 T.B.x, .int .i64 T.B.y, .int .i64 T.B.x, .int .i64 T.B.y, .int .i64 T.C.x, .int .i64 T.C.y, .int .i64 T.C.x, .int .i64 T.C.y, .int .i64 T.A.x, .int .i64 T.A.y] 86 := by rw [hW]; exact Be
  replace BM : Box W4 (mb) [.map (some b)] 69 := by rw [hW]; exact BM
  clear hW
  clear xt yt zt vt xe ye ze ve xM yM zM vM
  have hl : ∀ d os, (Instr.lookup 67 (.map (some b)) (.agg #[.int .i64 T.A.x, .int .i64 T.A.y, .int .i64 T.B.x, .int .i64 T.B.y]) true).run Try.prog (grow (redrawn W4 d) os) = .ok (.tuple #[.agg #[.int .i64 S.A.x, .int .i64 S.A.y, .int .i64 S.B.x, .int .i64 S.B.y, .int .i64 S.C.x, .int .i64 S.C.y], .bool true]) (grow (redrawn W4 d) os) := fun d os => ((Hm.ext hw rfl).ext (below_regrown W4 d os) rfl).look_some kvR zero_tri (okT_w hk).1 hg0
  clear hg0
  have gt := Bt.cells
  have ge := Be.cells
  have gM := BM.cells
  refine wp_region_lateG2 11 7 25 [.int .i64 S.A.x, .int .i64 S.A.y, .int .i64 S.B.x, .int .i64 S.B.y, .int .i64 S.C.x, .int .i64 S.C.y] (zs := [.int .i64 0, .int .i64 0, .int .i64 0, .int .i64 0, .int .i64 0, .int .i64 0]) (eff := eff6 (.int .i64 S.A.x) (.int .i64 S.A.y) (.int .i64 S.B.x) (.int .i64 S.B.y) (.int .i64 S.C.x) (.int .i64 S.C.y)) eff6_spec rfl rfl rfl rfl rfl rfl rfl (by simp) (fun ρ W => by simp [execOp, go_sem]; rfl) (by kernel_rfl) (by as_aux_lemma => kernel_rfl) (C := fun w' => ∃ p : Regrown, w' = grow (redrawn W4 p.d) p.os) (fun w' h => regrown_of_below h) ?_ (fun ρ W b e1 e2 hB => by obtain ⟨x, y, _, _⟩ := hB.facts; simp [execOp, go_sem, e1, e2, x, y, eff6])
  simp only [List.take_succ_cons, List.take_zero, List.drop_succ_cons, List.drop_zero]
  repeat (first | (refine rWalk_skip (Eq.refl false) ?_; simp only [Act.put, List.setIfInBounds_toArray, List.set_cons_succ, List.set_cons_zero]) | (refine rWalk_step (fun K hK => ?_); go_simp; first | (refine hK _ ?_; clear hK K) | (apply Exists.intro; refine ⟨fun _ => ?_, hK _ ?_⟩; (first | fail); clear hK K)))
  refine rWalk_nil ⟨rfl, ?_⟩
  intro w5 bks0 hb h1b h2b Bs0
  have lts0 := Bt.lt
  have les0 := Be.lt
  have lMs0 := BM.lt
  have hw0z := hw.size
  clear gt ge gM
  replace Bt := Bt.ext hb rfl
  replace Be := Be.ext hb rfl
  replace BM := BM.ext hb rfl
  replace hw := hw.trans (hb.mono hw.size)
  have fs0 := h1b
  have hwz : w.heap.size ≤ W4.heap.size := hw0z
  clear hb h1b h2b hw0z
  simp only [Act.put]
  clear hl
  obtain ⟨xt, yt, zt, vt⟩ := Bt.facts
  obtain ⟨xe, ye, ze, ve⟩ := Be.facts
  obtain ⟨xM, yM, zM, vM⟩ := BM.facts
  obtain ⟨xs0, ys0, zs0, vs0⟩ := Bs0.facts
  go_wp2
  go_ret
  exact ⟨rfl, hw⟩

set_option maxRecDepth 100000 in
set_option maxHeartbeats 2000000 in
theorem rput_1 (mb b : Nat) (E : Es) (T : Tri3) (S : Tri3) (hg0 : getE E (T.A, T.B) = none) (hg1 : getE E (T.B, T.C) = some S) (hk : okT T) (w : World) (Bm : Box w mb [.map (some b)] 69) (Hm : HoldsMap eW eT okW w b E) :
    Calls Try.prog 42 #[.pointer (some ⟨mb, 0, none⟩), .agg #[.int .i64 T.A.x, .int .i64 T.A.y, .int .i64 T.B.x, .int .i64 T.B.y, .int .i64 T.C.x, .int .i64 T.C.y]] w fun e w' => e = .returned (.bool false) ∧ Below w.heap.size w w' := by
  have ce := redges_any T
  go_enter Try.func42, Try.ntmps42
  go_wp2_with fail
  refine at_call fun W1 hW => ?_
  have Bt : Box W1 (w.heap.size) [.int .i64 T.A.x, .int .i64 T.A.y, .int .i64 T.B.x, .int .i64 T.B.y, .int .i64 T.C.x, .int .i64 T.C.y] 25 := by rw [hW]; exact Box.new rfl
  have hw : Below w.heap.size w W1 := by rw [hW]; go_grown
  clear hW
  refine (ce _).mono ?_
  rintro e w2 ⟨rfl, hb⟩
  replace Bt := Bt.ext hb rfl
  replace hw := hw.trans (hb.mono hw.size)
  clear hb
  obtain ⟨xt, yt, zt, vt⟩ := Bt.facts
  go_wp2_with fail
  refine at_world fun W3 hW => ?_
  obtain ⟨bke, hbe⟩ : ∃ b, w2.heap.size = b := ⟨_, rfl⟩
  rw [hbe]
  have lte := Bt.lt
  rw [hbe] at lte
  have fe := hw.size
  rw [hbe] at fe
  have Be : Box W3 bke [.int .i64 T.A.x, .int .i64 T.A.y, .int .i64 T.B.x, .int .i64 T.B.y, .int .i64 T.B.x, .int .i64 T.B.y, .int .i64 T.C.x, .int .i64 T.C.y, .int .i64 T.C.x, .int .i64 T.C.y, .int .i64 T.A.x, .int .i64 T.A.y] 86 := by rw [hW]; exact Box.new hbe.symm
  replace Bt : Box W3 (w.heap.size) [.int .i64 T.A.x, .int .i64 T.A.y, .int .i64 T.B.x, .int .i64 T.B.y, .int .i64 T.C.x, .int .i64 T.C.y] 25 := by rw [hW]; exact Bt.old _
  replace hw : Below w.heap.size w W3 := by have hl := hw.size; rw [hW]; go_grown
  clear hW hbe
  have BM : Box W3 (mb) [.map (some b)] 69 := Bm.ext hw rfl
  refine wp_loop_rounds 5 ?_
  try rw [rounds_succ]
  obtain ⟨xt, yt, zt, vt⟩ := Bt.facts
  obtain ⟨xe, ye, ze, ve⟩ := Be.facts
  obtain ⟨xM, yM, zM, vM⟩ := BM.facts
  go_wp2_with fail
  refine at_world fun W4 hW => ?_
  replace hw : Below w.heap.size w W4 := by rw [hW]; exact hw
  replace Bt : Box W4 (w.heap.size) [.int .i64 T.A.x, .int .i64 T.A.y, .int .i64 T.B.x, .int .i64 T.B.y, .int .i64 T.C.x, .int .i64 T.C.y] 25 := by rw [hW]; exact Bt
  replace Be : Box W4 (bke) [.int .i64 T.A.x, .int .i64 T.A.y, .int .i64 T.B.x, .int .i64 T.B.y, .int .i64 T.B.x, .int .i64 T.B.y, .int .i64 T.C.x, .int .i64 T.C.y, .int .i64 T.C.x, .int .i64 T.C.y, .int .i64 T.A.x, .int .i64 T.A.y] 86 := by rw [hW]; exact Be
  replace BM : Box W4 (mb) [.map (some b)] 69 := by rw [hW]; exact BM
  clear hW
  clear xt yt zt vt xe ye ze ve xM yM zM vM
  have hl : ∀ d os, (Instr.lookup 67 (.map (some b)) (.agg #[.int .i64 T.A.x, .int .i64 T.A.y, .int .i64 T.B.x, .int .i64 T.B.y]) true).run Try.prog (grow (redrawn W4 d) os) = .ok (.tuple #[.agg #[.int .i64 0, .int .i64 0, .int .i64 0, .int .i64 0, .int .i64 0, .int .i64 0], .bool false]) (grow (redrawn W4 d) os) := fun d os => ((Hm.ext hw rfl).ext (below_regrown W4 d os) rfl).look_none kvR zero_tri (okT_w hk).1 hg0
  clear hg0
  have gt := Bt.cells
  have ge := Be.cells
  have gM := BM.cells
  refine wp_region_lateG2 11 7 25 [.int .i64 0, .int .i64 0, .int .i64 0, .int .i64 0, .int .i64 0, .int .i64 0] (zs := [.int .i64 0, .int .i64 0, .int .i64 0, .int .i64 0, .int .i64 0, .int .i64 0]) (eff := eff6 (.int .i64 0) (.int .i64 0) (.int .i64 0) (.int .i64 0) (.int .i64 0) (.int .i64 0)) eff6_spec rfl rfl rfl rfl rfl rfl rfl (by simp) (fun ρ W => by simp [execOp, go_sem]; rfl) (by kernel_rfl) (by as_aux_lemma => kernel_rfl) (C := fun w' => ∃ p : Regrown, w' = grow (redrawn W4 p.d) p.os) (fun w' h => regrown_of_below h) ?_ (fun ρ W b e1 e2 hB => by obtain ⟨x, y, _, _⟩ := hB.facts; simp [execOp, go_sem, e1, e2, x, y, eff6])
  simp only [List.take_succ_cons, List.take_zero, List.drop_succ_cons, List.drop_zero]
  repeat (first | (refine rWalk_skip (Eq.refl false) ?_; simp only [Act.put, List.setIfInBounds_toArray, List.set_cons_succ, List.set_cons_zero]) | (refine rWalk_step (fun K hK => ?_); go_simp; first | (refine hK _ ?_; clear hK K) | (apply Exists.intro; refine ⟨fun _ => ?_, hK _ ?_⟩; (first | fail); clear hK K)))
  refine rWalk_nil ⟨rfl, ?_⟩
  intro w5 bks0 hb h1b h2b Bs0
  have lts0 := Bt.lt
  have les0 := Be.lt
  have lMs0 := BM.lt
  have hw0z := hw.size
  clear gt ge gM
  replace Bt := Bt.ext hb rfl
  replace Be := Be.ext hb rfl
  replace BM := BM.ext hb rfl
  replace hw := hw.trans (hb.mono hw.size)
  have fs0 := h1b
  have hwz : w.heap.size ≤ W4.heap.size := hw0z
  clear hb h1b h2b hw0z
  simp only [Act.put]
  clear hl
  obtain ⟨xt, yt, zt, vt⟩ := Bt.facts
  obtain ⟨xe, ye, ze, ve⟩ := Be.facts
  obtain ⟨xM, yM, zM, vM⟩ := BM.facts
  obtain ⟨xs0, ys0, zs0, vs0⟩ := Bs0.facts
  go_wp2_with fail
  clear xt yt zt vt xe ye ze ve xM yM zM vM xs0 ys0 zs0 vs0
  clear Bs0
  try rw [rounds_succ]
  obtain ⟨xt, yt, zt, vt⟩ := Bt.facts
  obtain ⟨xe, ye, ze, ve⟩ := Be.facts
  obtain ⟨xM, yM, zM, vM⟩ := BM.facts
  go_wp2_with fail
  refine at_world fun W6 hW => ?_
  replace hw : Below w.heap.size w W6 := by rw [hW]; exact hw
  replace Bt : Box W6 (w.heap.size) [.int .i64 T.A.x, .int .i64 T.A.y, .int .i64 T.B.x, .int .i64 T.B.y, .int .i64 T.C.x, .int .i64 T.C.y] 25 := by rw [hW]; exact Bt
  replace Be : Box W6 (bke) [.int .i64 T.A.x, .int .i64 T.A.y, .int .i64 T.B.x, .int .i64 T.B.y, .int .i64 T.B.x, .int .i64 T.B.y, .int .i64 T.C.x, .int .i64 T.C.y, .int .i64 T.C.x, .int .i64 T.C.y, .int .i64 T.A.x, .int .i64 T.A.y] 86 := by rw [hW]; exact Be
  replace BM : Box W6 (mb) [.map (some b)] 69 := by rw [hW]; exact BM
  clear hW
  clear xt yt zt vt xe ye ze ve xM yM zM vM
  have hl : ∀ d os, (Instr.lookup 67 (.map (some b)) (.agg #[.int .i64 T.B.x, .int .i64 T.B.y, .int .i64 T.C.x, .int .i64 T.C.y]) true).run Try.prog (grow (redrawn W6 d) os) = .ok (.tuple #[.agg #[.int .i64 S.A.x, .int .i64 S.A.y, .int .i64 S.B.x, .int .i64 S.B.y, .int .i64 S.C.x, .int .i64 S.C.y], .bool true]) (grow (redrawn W6 d) os) := fun d os => ((Hm.ext hw rfl).ext (below_regrown W6 d os) rfl).look_some kvR zero_tri (okT_w hk).2.1 hg1
  clear hg1
  have gt := Bt.cells
  have ge := Be.cells
  have gM := BM.cells
  refine wp_region_lateG2 11 7 25 [.int .i64 S.A.x, .int .i64 S.A.y, .int .i64 S.B.x, .int .i64 S.B.y, .int .i64 S.C.x, .int .i64 S.C.y] (zs := [.int .i64 0, .int .i64 0, .int .i64 0, .int .i64 0, .int .i64 0, .int .i64 0]) (eff := eff6 (.int .i64 S.A.x) (.int .i64 S.A.y) (.int .i64 S.B.x) (.int .i64 S.B.y) (.int .i64 S.C.x) (.int .i64 S.C.y)) eff6_spec rfl rfl rfl rfl rfl rfl rfl (by simp) (fun ρ W => by simp [execOp, go_sem]; rfl) (by kernel_rfl) (by as_aux_lemma => kernel_rfl) (C := fun w' => ∃ p : Regrown, w' = grow (redrawn W6 p.d) p.os) (fun w' h => regrown_of_below h) ?_ (fun ρ W b e1 e2 hB => by obtain ⟨x, y, _, _⟩ := hB.facts; simp [execOp, go_sem, e1, e2, x, y, eff6])
  simp only [List.take_succ_cons, List.take_zero, List.drop_succ_cons, List.drop_zero]
  repeat (first | (refine rWalk_skip (Eq.refl false) ?_; simp only [Act.put, List.setIfInBounds_toArray, List.set_cons_succ, List.set_cons_zero]) | (refine rWalk_step (fun K hK => ?_); go_simp; first | (refine hK _ ?_; clear hK K) | (apply Exists.intro; refine ⟨fun _ => ?_, hK _ ?_⟩; (first | fail); clear hK K)))
  refine rWalk_nil ⟨rfl, ?_⟩
  intro w7 bks1 hb h1b h2b Bs1
  have lts1 := Bt.lt
  have les1 := Be.lt
  have lMs1 := BM.lt
  have hw0z := hw.size
  clear gt ge gM
  replace Bt := Bt.ext hb rfl
  replace Be := Be.ext hb rfl
  replace BM := BM.ext hb rfl
  replace hw := hw.trans (hb.mono hw.size)
  have fs1 := h1b
  have hwz : w.heap.size ≤ W6.heap.size := hw0z
  clear hb h1b h2b hw0z
  simp only [Act.put]
  clear hl
  obtain ⟨xt, yt, zt, vt⟩ := Bt.facts
  obtain ⟨xe, ye, ze, ve⟩ := Be.facts
  obtain ⟨xM, yM, zM, vM⟩ := BM.facts
  obtain ⟨xs1, ys1, zs1, vs1⟩ := Bs1.facts
  go_wp2
  go_ret
  exact ⟨rfl, hw⟩

set_option maxRecDepth 100000 in
set_option maxHeartbeats 2000000 in
theorem rput_2 (mb b : Nat) (E : Es) (T : Tri3) (S : Tri3) (hg0 : getE E (T.A, T.B) = none) (hg1 : getE E (T.B, T.C) = none) (hg2 : getE E (T.C, T.A) = some S) (hk : okT T) (w : World) (Bm : Box w mb [.map (some b)] 69) (Hm : HoldsMap eW eT okW w b E) :
    Calls Try.prog 42 #[.pointer (some ⟨mb, 0, none⟩), .agg #[.int .i64 T.A.x, .int .i64 T.A.y, .int .i64 T.B.x, .int .i64 T.B.y, .int .i64 T.C.x, .int .i64 T.C.y]] w fun e w' => e = .returned (.bool false) ∧ Below w.heap.size w w' := by
  have ce := redges_any T
  go_enter Try.func42, Try.ntmps42
  go_wp2_with fail
  refine at_call fun W1 hW => ?_
  have Bt : Box W1 (w.heap.size) [.int .i64 T.A.x, .int .i64 T.A.y, .int .i64 T.B.x, .int .i64 T.B.y, .int .i64 T.C.x, .int .i64 T.C.y] 25 := by rw [hW]; exact Box.new rfl
  have hw : Below w.heap.size w W1 := by rw [hW]; go_grown
  clear hW
  refine (ce _).mono ?_
  rintro e w2 ⟨rfl, hb⟩
  replace Bt := Bt.ext hb rfl
  replace hw := hw.trans (hb.mono hw.size)
  clear hb
  obtain ⟨xt, yt, zt, vt⟩ := Bt.facts
  go_wp2_with fail
  refine at_world fun W3 hW => ?_
  obtain ⟨bke, hbe⟩ : ∃ b, w2.heap.size = b := ⟨_, rfl⟩
  rw [hbe]
  have lte := Bt.lt
  rw [hbe] at lte
  have fe := hw.size
  rw [hbe] at fe
  have Be : Box W3 bke [.int .i64 T.A.x, .int .i64 T.A.y, .int .i64 T.B.x, .int .i64 T.B.y, .int .i64 T.B.x, .int .i64 T.B.y, .int .i64 T.C.x, .int .i64 T.C.y, .int .i64 T.C.x, .int .i64 T.C.y, .int .i64 T.A.x, .int .i64 T.A.y] 86 := by rw [hW]; exact Box.new hbe.symm
  replace Bt : Box W3 (w.heap.size) [.int .i64 T.A.x, .int .i64 T.A.y, .int .i64 T.B.x, .int .i64 T.B.y, .int .i64 T.C.x, .int .i64 T.C.y] 25 := by rw [hW]; exact Bt.old _
  replace hw : Below w.heap.size w W3 := by have hl := hw.size; rw [hW]; go_grown
  clear hW hbe
  have BM : Box W3 (mb) [.map (some b)] 69 := Bm.ext hw rfl
  refine wp_loop_rounds 5 ?_
  try rw [rounds_succ]
  obtain ⟨xt, yt, zt, vt⟩ := Bt.facts
  obtain ⟨xe, ye, ze, ve⟩ := Be.facts
  obtain ⟨xM, yM, zM, vM⟩ := BM.facts
  go_wp2_with fail
  refine at_world fun W4 hW => ?_
  replace hw : Below w.heap.size w W4 := by rw [hW]; exact hw
  replace Bt : Box W4 (w.heap.size) [.int .i64 T.A.x, .int .i64 T.A.y, .int .i64 T.B.x, .int .i64 T.B.y, .int .i64 T.C.x, .int .i64 T.C.y] 25 := by rw [hW]; exact Bt
  replace Be : Box W4 (bke) [.int .i64 T.A.x, .int .i64 T.A.y, .int .i64 T.B.x, .int .i64 T.B.y, .int .i64 T.B.x, .int .i64 T.B.y, .int .i64 T.C.x, .int .i64 T.C.y, .int .i64 T.C.x, .int .i64 T.C.y, .int .i64 T.A.x, .int .i64 T.A.y] 86 := by rw [hW]; exact Be
  replace BM : Box W4 (mb) [.map (some b)] 69 := by rw [hW]; exact BM
  clear hW
  clear xt yt zt vt xe ye ze ve xM yM zM vM
  have hl : ∀ d os, (Instr.lookup 67 (.map (some b)) (.agg #[.int .i64 T.A.x, .int .i64 T.A.y, .int .i64 T.B.x, .int .i64 T.B.y]) true).run Try.prog (grow (redrawn W4 d) os) = .ok (.tuple #[.agg #[.int .i64 0, .int .i64 0, .int .i64 0, .int .i64 0, .int .i64 0, .int .i64 0], .bool false]) (grow (redrawn W4 d) os) := fun d os => ((Hm.ext hw rfl).ext (below_regrown W4 d os) rfl).look_none kvR zero_tri (okT_w hk).1 hg0
  clear hg0
  have gt := Bt.cells
  have ge := Be.cells
  have gM := BM.cells
  refine wp_region_lateG2 11 7 25 [.int .i64 0, .int .i64 0, .int .i64 0, .int .i64 0, .int .i64 0, .int .i64 0] (zs := [.int .i64 0, .int .i64 0, .int .i64 0, .int .i64 0, .int .i64 0, .int .i64 0]) (eff := eff6 (.int .i64 0) (.int .i64 0) (.int .i64 0) (.int .i64 0) (.int .i64 0) (.int .i64 0)) eff6_spec rfl rfl rfl rfl rfl rfl rfl (by simp) (fun ρ W => by simp [execOp, go_sem]; rfl) (by kernel_rfl) (by as_aux_lemma => kernel_rfl) (C := fun w' => ∃ p : Regrown, w' = grow (redrawn W4 p.d) p.os) (fun w' h => regrown_of_below h) ?_ (fun ρ W b e1 e2 hB => by obtain ⟨x, y, _, _⟩ := hB.facts; simp [execOp, go_sem, e1, e2, x, y, eff6])
  simp only [List.take_succ_cons, List.take_zero, List.drop_succ_cons, List.drop_zero]
  repeat (first | (refine rWalk_skip (Eq.refl false) ?_; simp only [Act.put, List.setIfInBounds_toArray, List.set_cons_succ, List.set_cons_zero]) | (refine rWalk_step (fun K hK => ?_); go_simp; first | (refine hK _ ?_; clear hK K) | (apply Exists.intro; refine ⟨fun _ => ?_, hK _ ?_⟩; (first | fail); clear hK K)))
  refine rWalk_nil ⟨rfl, ?_⟩
  intro w5 bks0 hb h1b h2b Bs0
  have lts0 := Bt.lt
  have les0 := Be.lt
  have lMs0 := BM.lt
  have hw0z := hw.size
  clear gt ge gM
  replace Bt := Bt.ext hb rfl
  replace Be := Be.ext hb rfl
  replace BM := BM.ext hb rfl
  replace hw := hw.trans (hb.mono hw.size)
  have fs0 := h1b
  have hwz : w.heap.size ≤ W4.heap.size := hw0z
  clear hb h1b h2b hw0z
  simp only [Act.put]
  clear hl
  obtain ⟨xt, yt, zt, vt⟩ := Bt.facts
  obtain ⟨xe, ye, ze, ve⟩ := Be.facts
  obtain ⟨xM, yM, zM, vM⟩ := BM.facts
  obtain ⟨xs0, ys0, zs0, vs0⟩ := Bs0.facts
  go_wp2_with fail
  clear xt yt zt vt xe ye ze ve xM yM zM vM xs0 ys0 zs0 vs0
  clear Bs0
  try rw [rounds_succ]
  obtain ⟨xt, yt, zt, vt⟩ := Bt.facts
  obtain ⟨xe, ye, ze, ve⟩ := Be.facts
  obtain ⟨xM, yM, zM, vM⟩ := BM.facts
  go_wp2_with fail
  refine at_world fun W6 hW => ?_
  replace hw : Below w.heap.size w W6 := by rw [hW]; exact hw
  replace Bt : Box W6 (w.heap.size) [.int .i64 T.A.x, .int .i64 T.A.y, .int .i64 T.B.x, .int .i64 T.B.y, .int .i64 T.C.x, .int .i64 T.C.y] 25 := by rw [hW]; exact Bt
  replace Be : Box W6 (bke) [.int .i64 T.A.x, .int .i64 T.A.y, .int .i64 T.B.x, .int .i64 T.B.y, .int .i64 T.B.x, .int .i64 T.B.y, .int .i64 T.C.x, .int .i64 T.C.y, .int .i64 T.C.x, .int .i64 T.C.y, .int .i64 T.A.x, .int .i64 T.A.y] 86 := by rw [hW]; exact Be
  replace BM : Box W6 (mb) [.map (some b)] 69 := by rw [hW]; exact BM
  clear hW
  clear xt yt zt vt xe ye ze ve xM yM zM vM
  have hl : ∀ d os, (Instr.lookup 67 (.map (some b)) (.agg #[.int .i64 T.B.x, .int .i64 T.B.y, .int .i64 T.C.x, .int .i64 T.C.y]) true).run Try.prog (grow (redrawn W6 d) os) = .ok (.tuple #[.agg #[.int .i64 0, .int .i64 0, .int .i64 0, .int .i64 0, .int .i64 0, .int .i64 0], .bool false]) (grow (redrawn W6 d) os) := fun d os => ((Hm.ext hw rfl).ext (below_regrown W6 d os) rfl).look_none kvR zero_tri (okT_w hk).2.1 hg1
  clear hg1
  have gt := Bt.cells
  have ge := Be.cells
  have gM := BM.cells
  refine wp_region_lateG2 11 7 25 [.int .i64 0, .int .i64 0, .int .i64 0, .int .i64 0, .int .i64 0, .int .i64 0] (zs := [.int .i64 0, .int .i64 0, .int .i64 0, .int .i64 0, .int .i64 0, .int .i64 0]) (eff := eff6 (.int .i64 0) (.int .i64 0) (.int .i64 0) (.int .i64 0) (.int .i64 0) (.int .i64 0)) eff6_spec rfl rfl rfl rfl rfl rfl rfl (by simp) (fun ρ W => by simp [execOp, go_sem]; rfl) (by kernel_rfl) (by as_aux_lemma => kernel_rfl) (C := fun w' => ∃ p : Regrown, w' = grow (redrawn W6 p.d) p.os) (fun w' h => regrown_of_below h) ?_ (fun ρ W b e1 e2 hB => by obtain ⟨x, y, _, _⟩ := hB.facts; simp [execOp, go_sem, e1, e2, x, y, eff6])
  simp only [List.take_succ_cons, List.take_zero, List.drop_succ_cons, List.drop_zero]
  repeat (first | (refine rWalk_skip (Eq.refl false) ?_; simp only [Act.put, List.setIfInBounds_toArray, List.set_cons_succ, List.set_cons_zero]) | (refine rWalk_step (fun K hK => ?_); go_simp; first | (refine hK _ ?_; clear hK K) | (apply Exists.intro; refine ⟨fun _ => ?_, hK _ ?_⟩; (first | fail); clear hK K)))
  refine rWalk_nil ⟨rfl, ?_⟩
  intro w7 bks1 hb h1b h2b Bs1
  have lts1 := Bt.lt
  have les1 := Be.lt
  have lMs1 := BM.lt
  have hw0z := hw.size
  clear gt ge gM
  replace Bt := Bt.ext hb rfl
  replace Be := Be.ext hb rfl
  replace BM := BM.ext hb rfl
  replace hw := hw.trans (hb.mono hw.size)
  have fs1 := h1b
  have hwz : w.heap.size ≤ W6.heap.size := hw0z
  clear hb h1b h2b hw0z
  simp only [Act.put]
  clear hl
  obtain ⟨xt, yt, zt, vt⟩ := Bt.facts
  obtain ⟨xe, ye, ze, ve⟩ := Be.facts
  obtain ⟨xM, yM, zM, vM⟩ := BM.facts
  obtain ⟨xs1, ys1, zs1, vs1⟩ := Bs1.facts
  go_wp2_with fail
  clear xt yt zt vt xe ye ze ve xM yM zM vM xs1 ys1 zs1 vs1
  clear Bs1
  try rw [rounds_succ]
  obtain ⟨xt, yt, zt, vt⟩ := Bt.facts
  obtain ⟨xe, ye, ze, ve⟩ := Be.facts
  obtain ⟨xM, yM, zM, vM⟩ := BM.facts
  go_wp2_with fail
  refine at_world fun W8 hW => ?_
  replace hw : Below w.heap.size w W8 := by rw [hW]; exact hw
  replace Bt : Box W8 (w.heap.size) [.int .i64 T.A.x, .int .i64 T.A.y, .int .i64 T.B.x, .int .i64 T.B.y, .int .i64 T.C.x, .int .i64 T.C.y] 25 := by rw [hW]; exact Bt
  replace Be : Box W8 (bke) [.int .i64 T.A.x, .int .i64 T.A.y, .int .i64 T.B.x, .int .i64 T.B.y, .int .i64 T.B.x, .int .i64 T.B.y, .int .i64 T.C.x, .int .i64 T.C.y, .int .i64 T.C.x, .int .i64 T.C.y, .int .i64 T.A.x, .int .i64 T.A.y] 86 := by rw [hW]; exact Be
  replace BM : Box W8 (mb) [.map (some b)] 69 := by rw [hW]; exact BM
  clear hW
  clear xt yt zt vt xe ye ze ve xM yM zM vM
  have hl : ∀ d os, (Instr.lookup 67 (.map (some b)) (.agg #[.int .i64 T.C.x, .int .i64 T.C.y, .int .i64 T.A.x, .int .i64 T.A.y]) true).run Try.prog (grow (redrawn W8 d) os) = .ok (.tuple #[.agg #[.int .i64 S.A.x, .int .i64 S.A.y, .int .i64 S.B.x, .int .i64 S.B.y, .int .i64 S.C.x, .int .i64 S.C.y], .bool true]) (grow (redrawn W8 d) os) := fun d os => ((Hm.ext hw rfl).ext (below_regrown W8 d os) rfl).look_some kvR zero_tri (okT_w hk).2.2 hg2
  clear hg2
  have gt := Bt.cells
  have ge := Be.cells
  have gM := BM.cells
  refine wp_region_lateG2 11 7 25 [.int .i64 S.A.x, .int .i64 S.A.y, .int .i64 S.B.x, .int .i64 S.B.y, .int .i64 S.C.x, .int .i64 S.C.y] (zs := [.int .i64 0, .int .i64 0, .int .i64 0, .int .i64 0, .int .i64 0, .int .i64 0]) (eff := eff6 (.int .i64 S.A.x) (.int .i64 S.A.y) (.int .i64 S.B.x) (.int .i64 S.B.y) (.int .i64 S.C.x) (.int .i64 S.C.y)) eff6_spec rfl rfl rfl rfl rfl rfl rfl (by simp) (fun ρ W => by simp [execOp, go_sem]; rfl) (by kernel_rfl) (by as_aux_lemma => kernel_rfl) (C := fun w' => ∃ p : Regrown, w' = grow (redrawn W8 p.d) p.os) (fun w' h => regrown_of_below h) ?_ (fun ρ W b e1 e2 hB => by obtain ⟨x, y, _, _⟩ := hB.facts; simp [execOp, go_sem, e1, e2, x, y, eff6])
  simp only [List.take_succ_cons, List.take_zero, List.drop_succ_cons, List.drop_zero]
  repeat (first | (refine rWalk_skip (Eq.refl false) ?_; simp only [Act.put, List.setIfInBounds_toArray, List.set_cons_succ, List.set_cons_zero]) | (refine rWalk_step (fun K hK => ?_); go_simp; first | (refine hK _ ?_; clear hK K) | (apply Exists.intro; refine ⟨fun _ => ?_, hK _ ?_⟩; (first | fail); clear hK K)))
  refine rWalk_nil ⟨rfl, ?_⟩
  intro w9 bks2 hb h1b h2b Bs2
  have lts2 := Bt.lt
  have les2 := Be.lt
  have lMs2 := BM.lt
  have hw0z := hw.size
  clear gt ge gM
  replace Bt := Bt.ext hb rfl
  replace Be := Be.ext hb rfl
  replace BM := BM.ext hb rfl
  replace hw := hw.trans (hb.mono hw.size)
  have fs2 := h1b
  have hwz : w.heap.size ≤ W8.heap.size := hw0z
  clear hb h1b h2b hw0z
  simp only [Act.put]
  clear hl
  obtain ⟨xt, yt, zt, vt⟩ := Bt.facts
  obtain ⟨xe, ye, ze, ve⟩ := Be.facts
  obtain ⟨xM, yM, zM, vM⟩ := BM.facts
  obtain ⟨xs2, ys2, zs2, vs2⟩ := Bs2.facts
  go_wp2
  go_ret
  exact ⟨rfl, hw⟩

set_option maxRecDepth 100000 in
set_option maxHeartbeats 2000000 in
theorem rput_3 (mb b : Nat) (E : Es) (T : Tri3) (hg0 : getE E (T.A, T.B) = none) (hg1 : getE E (T.B, T.C) = none) (hg2 : getE E (T.C, T.A) = none) (hk : okT T) (w : World) (Bm : Box w mb [.map (some b)] 69) (Hm : HoldsMap eW eT okW w b E) :
    Calls Try.prog 42 #[.pointer (some ⟨mb, 0, none⟩), .agg #[.int .i64 T.A.x, .int .i64 T.A.y, .int .i64 T.B.x, .int .i64 T.B.y, .int .i64 T.C.x, .int .i64 T.C.y]] w fun e w' => e = .returned (.bool true) ∧ w.grownBy w' (some b) ∧ HoldsMap eW eT okW w' b (putT E T) := by
  have ce := redges_any T
  go_enter Try.func42, Try.ntmps42
  go_wp2_with fail
  refine at_call fun W1 hW => ?_
  have Bt : Box W1 (w.heap.size) [.int .i64 T.A.x, .int .i64 T.A.y, .int .i64 T.B.x, .int .i64 T.B.y, .int .i64 T.C.x, .int .i64 T.C.y] 25 := by rw [hW]; exact Box.new rfl
  have hw : Below w.heap.size w W1 := by rw [hW]; go_grown
  clear hW
  refine (ce _).mono ?_
  rintro e w2 ⟨rfl, hb⟩
  replace Bt := Bt.ext hb rfl
  replace hw := hw.trans (hb.mono hw.size)
  clear hb
  obtain ⟨xt, yt, zt, vt⟩ := Bt.facts
  go_wp2_with fail
  refine at_world fun W3 hW => ?_
  obtain ⟨bke, hbe⟩ : ∃ b, w2.heap.size = b := ⟨_, rfl⟩
  rw [hbe]
  have lte := Bt.lt
  rw [hbe] at lte
  have fe := hw.size
  rw [hbe] at fe
  have Be : Box W3 bke [.int .i64 T.A.x, .int .i64 T.A.y, .int .i64 T.B.x, .int .i64 T.B.y, .int .i64 T.B.x, .int .i64 T.B.y, .int .i64 T.C.x, .int .i64 T.C.y, .int .i64 T.C.x, .int .i64 T.C.y, .int .i64 T.A.x, .int .i64 T.A.y] 86 := by rw [hW]; exact Box.new hbe.symm
  replace Bt : Box W3 (w.heap.size) [.int .i64 T.A.x, .int .i64 T.A.y, .int .i64 T.B.x, .int .i64 T.B.y, .int .i64 T.C.x, .int .i64 T.C.y] 25 := by rw [hW]; exact Bt.old _
  replace hw : Below w.heap.size w W3 := by have hl := hw.size; rw [hW]; go_grown
  clear hW hbe
  have BM : Box W3 (mb) [.map (some b)] 69 := Bm.ext hw rfl
  refine wp_loop_rounds 5 ?_
  try rw [rounds_succ]
  obtain ⟨xt, yt, zt, vt⟩ := Bt.facts
  obtain ⟨xe, ye, ze, ve⟩ := Be.facts
  obtain ⟨xM, yM, zM, vM⟩ := BM.facts
  go_wp2_with fail
  refine at_world fun W4 hW => ?_
  replace hw : Below w.heap.size w W4 := by rw [hW]; exact hw
  replace Bt : Box W4 (w.heap.size) [.int .i64 T.A.x, .int .i64 T.A.y, .int .i64 T.B.x, .int .i64 T.B.y, .int .i64 T.C.x, .int .i64 T.C.y] 25 := by rw [hW]; exact Bt
  replace Be : Box W4 (bke) [.int .i64 T.A.x, .int .i64 T.A.y, .int .i64 T.B.x, .int .i64 T.B.y, .int .i64 T.B.x, .int .i64 T.B.y, .int .i64 T.C.x, .int .i64 T.C.y, .int .i64 T.C.x, .int .i64 T.C.y, .int .i64 T.A.x, .int .i64 T.A.y] 86 := by rw [hW]; exact Be
  replace BM : Box W4 (mb) [.map (some b)] 69 := by rw [hW]; exact BM
  clear hW
  clear xt yt zt vt xe ye ze ve xM yM zM vM
  have hl : ∀ d os, (Instr.lookup 67 (.map (some b)) (.agg #[.int .i64 T.A.x, .int .i64 T.A.y, .int .i64 T.B.x, .int .i64 T.B.y]) true).run Try.prog (grow (redrawn W4 d) os) = .ok (.tuple #[.agg #[.int .i64 0, .int .i64 0, .int .i64 0, .int .i64 0, .int .i64 0, .int .i64 0], .bool false]) (grow (redrawn W4 d) os) := fun d os => ((Hm.ext hw rfl).ext (below_regrown W4 d os) rfl).look_none kvR zero_tri (okT_w hk).1 hg0
  clear hg0
  have gt := Bt.cells
  have ge := Be.cells
  have gM := BM.cells
  refine wp_region_lateG2 11 7 25 [.int .i64 0, .int .i64 0, .int .i64 0, .int .i64 0, .int .i64 0, .int .i64 0] (zs := [.int .i64 0, .int .i64 0, .int .i64 0, .int .i64 0, .int .i64 0, .int .i64 0]) (eff := eff6 (.int .i64 0) (.int .i64 0) (.int .i64 0) (.int .i64 0) (.int .i64 0) (.int .i64 0)) eff6_spec rfl rfl rfl rfl rfl rfl rfl (by simp) (fun ρ W => by simp [execOp, go_sem]; rfl) (by kernel_rfl) (by as_aux_lemma => kernel_rfl) (C := fun w' => ∃ p : Regrown, w' = grow (redrawn W4 p.d) p.os) (fun w' h => regrown_of_below h) ?_ (fun ρ W b e1 e2 hB => by obtain ⟨x, y, _, _⟩ := hB.facts; simp [execOp, go_sem, e1, e2, x, y, eff6])
  simp only [List.take_succ_cons, List.take_zero, List.drop_succ_cons, List.drop_zero]
  repeat (first | (refine rWalk_skip (Eq.refl false) ?_; simp only [Act.put, List.setIfInBounds_toArray, List.set_cons_succ, List.set_cons_zero]) | (refine rWalk_step (fun K hK => ?_); go_simp; first | (refine hK _ ?_; clear hK K) | (apply Exists.intro; refine ⟨fun _ => ?_, hK _ ?_⟩; (first | fail); clear hK K)))
  refine rWalk_nil ⟨rfl, ?_⟩
  intro w5 bks0 hb h1b h2b Bs0
  have lts0 := Bt.lt
  have les0 := Be.lt
  have lMs0 := BM.lt
  have hw0z := hw.size
  clear gt ge gM
  replace Bt := Bt.ext hb rfl
  replace Be := Be.ext hb rfl
  replace BM := BM.ext hb rfl
  replace hw := hw.trans (hb.mono hw.size)
  have fs0 := h1b
  have hwz : w.heap.size ≤ W4.heap.size := hw0z
  clear hb h1b h2b hw0z
  simp only [Act.put]
  clear hl
  obtain ⟨xt, yt, zt, vt⟩ := Bt.facts
  obtain ⟨xe, ye, ze, ve⟩ := Be.facts
  obtain ⟨xM, yM, zM, vM⟩ := BM.facts
  obtain ⟨xs0, ys0, zs0, vs0⟩ := Bs0.facts
  go_wp2_with fail
  clear xt yt zt vt xe ye ze ve xM yM zM vM xs0 ys0 zs0 vs0
  clear Bs0
  try rw [rounds_succ]
  obtain ⟨xt, yt, zt, vt⟩ := Bt.facts
  obtain ⟨xe, ye, ze, ve⟩ := Be.facts
  obtain ⟨xM, yM, zM, vM⟩ := BM.facts
  go_wp2_with fail
  refine at_world fun W6 hW => ?_
  replace hw : Below w.heap.size w W6 := by rw [hW]; exact hw
  replace Bt : Box W6 (w.heap.size) [.int .i64 T.A.x, .int .i64 T.A.y, .int .i64 T.B.x, .int .i64 T.B.y, .int .i64 T.C.x, .int .i64 T.C.y] 25 := by rw [hW]; exact Bt
  replace Be : Box W6 (bke) [.int .i64 T.A.x, .int .i64 T.A.y, .int .i64 T.B.x, .int .i64 T.B.y, .int .i64 T.B.x, .int .i64 T.B.y, .int .i64 T.C.x, .int .i64 T.C.y, .int .i64 T.C.x, .int .i64 T.C.y, .int .i64 T.A.x, .int .i64 T.A.y] 86 := by rw [hW]; exact Be
  replace BM : Box W6 (mb) [.map (some b)] 69 := by rw [hW]; exact BM
  clear hW
  clear xt yt zt vt xe ye ze ve xM yM zM vM
  have hl : ∀ d os, (Instr.lookup 67 (.map (some b)) (.agg #[.int .i64 T.B.x, .int .i64 T.B.y, .int .i64 T.C.x, .int .i64 T.C.y]) true).run Try.prog (grow (redrawn W6 d) os) = .ok (.tuple #[.agg #[.int .i64 0, .int .i64 0, .int .i64 0, .int .i64 0, .int .i64 0, .int .i64 0], .bool false]) (grow (redrawn W6 d) os) := fun d os => ((Hm.ext hw rfl).ext (below_regrown W6 d os) rfl).look_none kvR zero_tri (okT_w hk).2.1 hg1
  clear hg1
  have gt := Bt.cells
  have ge := Be.cells
  have gM := BM.cells
  refine wp_region_lateG2 11 7 25 [.int .i64 0, .int .i64 0, .int .i64 0, .int .i64 0, .int .i64 0, .int .i64 0] (zs := [.int .i64 0, .int .i64 0, .int .i64 0, .int .i64 0, .int .i64 0, .int .i64 0]) (eff := eff6 (.int .i64 0) (.int .i64 0) (.int .i64 0) (.int .i64 0) (.int .i64 0) (.int .i64 0)) eff6_spec rfl rfl rfl rfl rfl rfl rfl (by simp) (fun ρ W => by simp [execOp, go_sem]; rfl) (by kernel_rfl) (by as_aux_lemma => kernel_rfl) (C := fun w' => ∃ p : Regrown, w' = grow (redrawn W6 p.d) p.os) (fun w' h => regrown_of_below h) ?_ (fun ρ W b e1 e2 hB => by obtain ⟨x, y, _, _⟩ := hB.facts; simp [execOp, go_sem, e1, e2, x, y, eff6])
  simp only [List.take_succ_cons, List.take_zero, List.drop_succ_cons, List.drop_zero]
  repeat (first | (refine rWalk_skip (Eq.refl false) ?_; simp only [Act.put, List.setIfInBounds_toArray, List.set_cons_succ, List.set_cons_zero]) | (refine rWalk_step (fun K hK => ?_); go_simp; first | (refine hK _ ?_; clear hK K) | (apply Exists.intro; refine ⟨fun _ => ?_, hK _ ?_⟩; (first | fail); clear hK K)))
  refine rWalk_nil ⟨rfl, ?_⟩
  intro w7 bks1 hb h1b h2b Bs1
  have lts1 := Bt.lt
  have les1 := Be.lt
  have lMs1 := BM.lt
  have hw0z := hw.size
  clear gt ge gM
  replace Bt := Bt.ext hb rfl
  replace Be := Be.ext hb rfl
  replace BM := BM.ext hb rfl
  replace hw := hw.trans (hb.mono hw.size)
  have fs1 := h1b
  have hwz : w.heap.size ≤ W6.heap.size := hw0z
  clear hb h1b h2b hw0z
  simp only [Act.put]
  clear hl
  obtain ⟨xt, yt, zt, vt⟩ := Bt.facts
  obtain ⟨xe, ye, ze, ve⟩ := Be.facts
  obtain ⟨xM, yM, zM, vM⟩ := BM.facts
  obtain ⟨xs1, ys1, zs1, vs1⟩ := Bs1.facts
  go_wp2_with fail
  clear xt yt zt vt xe ye ze ve xM yM zM vM xs1 ys1 zs1 vs1
  clear Bs1
  try rw [rounds_succ]
  obtain ⟨xt, yt, zt, vt⟩ := Bt.facts
  obtain ⟨xe, ye, ze, ve⟩ := Be.facts
  obtain ⟨xM, yM, zM, vM⟩ := BM.facts
  go_wp2_with fail
  refine at_world fun W8 hW => ?_
  replace hw : Below w.heap.size w W8 := by rw [hW]; exact hw
  replace Bt : Box W8 (w.heap.size) [.int .i64 T.A.x, .int .i64 T.A.y, .int .i64 T.B.x, .int .i64 T.B.y, .int .i64 T.C.x, .int .i64 T.C.y] 25 := by rw [hW]; exact Bt
  replace Be : Box W8 (bke) [.int .i64 T.A.x, .int .i64 T.A.y, .int .i64 T.B.x, .int .i64 T.B.y, .int .i64 T.B.x, .int .i64 T.B.y, .int .i64 T.C.x, .int .i64 T.C.y, .int .i64 T.C.x, .int .i64 T.C.y, .int .i64 T.A.x, .int .i64 T.A.y] 86 := by rw [hW]; exact Be
  replace BM : Box W8 (mb) [.map (some b)] 69 := by rw [hW]; exact BM
  clear hW
  clear xt yt zt vt xe ye ze ve xM yM zM vM
  have hl : ∀ d os, (Instr.lookup 67 (.map (some b)) (.agg #[.int .i64 T.C.x, .int .i64 T.C.y, .int .i64 T.A.x, .int .i64 T.A.y]) true).run Try.prog (grow (redrawn W8 d) os) = .ok (.tuple #[.agg #[.int .i64 0, .int .i64 0, .int .i64 0, .int .i64 0, .int .i64 0, .int .i64 0], .bool false]) (grow (redrawn W8 d) os) := fun d os => ((Hm.ext hw rfl).ext (below_regrown W8 d os) rfl).look_none kvR zero_tri (okT_w hk).2.2 hg2
  clear hg2
  have gt := Bt.cells
  have ge := Be.cells
  have gM := BM.cells
  refine wp_region_lateG2 11 7 25 [.int .i64 0, .int .i64 0, .int .i64 0, .int .i64 0, .int .i64 0, .int .i64 0] (zs := [.int .i64 0, .int .i64 0, .int .i64 0, .int .i64 0, .int .i64 0, .int .i64 0]) (eff := eff6 (.int .i64 0) (.int .i64 0) (.int .i64 0) (.int .i64 0) (.int .i64 0) (.int .i64 0)) eff6_spec rfl rfl rfl rfl rfl rfl rfl (by simp) (fun ρ W => by simp [execOp, go_sem]; rfl) (by kernel_rfl) (by as_aux_lemma => kernel_rfl) (C := fun w' => ∃ p : Regrown, w' = grow (redrawn W8 p.d) p.os) (fun w' h => regrown_of_below h) ?_ (fun ρ W b e1 e2 hB => by obtain ⟨x, y, _, _⟩ := hB.facts; simp [execOp, go_sem, e1, e2, x, y, eff6])
  simp only [List.take_succ_cons, List.take_zero, List.drop_succ_cons, List.drop_zero]
  repeat (first | (refine rWalk_skip (Eq.refl false) ?_; simp only [Act.put, List.setIfInBounds_toArray, List.set_cons_succ, List.set_cons_zero]) | (refine rWalk_step (fun K hK => ?_); go_simp; first | (refine hK _ ?_; clear hK K) | (apply Exists.intro; refine ⟨fun _ => ?_, hK _ ?_⟩; (first | fail); clear hK K)))
  refine rWalk_nil ⟨rfl, ?_⟩
  intro w9 bks2 hb h1b h2b Bs2
  have lts2 := Bt.lt
  have les2 := Be.lt
  have lMs2 := BM.lt
  have hw0z := hw.size
  clear gt ge gM
  replace Bt := Bt.ext hb rfl
  replace Be := Be.ext hb rfl
  replace BM := BM.ext hb rfl
  replace hw := hw.trans (hb.mono hw.size)
  have fs2 := h1b
  have hwz : w.heap.size ≤ W8.heap.size := hw0z
  clear hb h1b h2b hw0z
  simp only [Act.put]
  clear hl
  obtain ⟨xt, yt, zt, vt⟩ := Bt.facts
  obtain ⟨xe, ye, ze, ve⟩ := Be.facts
  obtain ⟨xM, yM, zM, vM⟩ := BM.facts
  obtain ⟨xs2, ys2, zs2, vs2⟩ := Bs2.facts
  go_wp2_with fail
  clear xt yt zt vt xe ye ze ve xM yM zM vM xs2 ys2 zs2 vs2
  clear Bs2
  try rw [rounds_succ]
  obtain ⟨xt, yt, zt, vt⟩ := Bt.facts
  obtain ⟨xe, ye, ze, ve⟩ := Be.facts
  obtain ⟨xM, yM, zM, vM⟩ := BM.facts
  go_wp2_with fail
  refine at_world fun W10 hW => ?_
  replace hw : Below w.heap.size w W10 := by rw [hW]; exact hw
  replace Bt : Box W10 (w.heap.size) [.int .i64 T.A.x, .int .i64 T.A.y, .int .i64 T.B.x, .int .i64 T.B.y, .int .i64 T.C.x, .int .i64 T.C.y] 25 := by rw [hW]; exact Bt
  replace Be : Box W10 (bke) [.int .i64 T.A.x, .int .i64 T.A.y, .int .i64 T.B.x, .int .i64 T.B.y, .int .i64 T.B.x, .int .i64 T.B.y, .int .i64 T.C.x, .int .i64 T.C.y, .int .i64 T.C.x, .int .i64 T.C.y, .int .i64 T.A.x, .int .i64 T.A.y] 86 := by rw [hW]; exact Be
  replace BM : Box W10 (mb) [.map (some b)] 69 := by rw [hW]; exact BM
  clear hW
  clear xt yt zt vt xe ye ze ve xM yM zM vM
  refine wp_loop_rounds 5 ?_
  have HF := Hm.ext hw rfl
  have hg : w.grownBy W10 (some b) := grown_of_below hw _
  clear hw
  try rw [rounds_succ]
  obtain ⟨xt, yt, zt, vt⟩ := Bt.facts
  obtain ⟨xe, ye, ze, ve⟩ := Be.facts
  obtain ⟨xM, yM, zM, vM⟩ := BM.facts
  go_wp2_with fail
  have hw : Below W10.heap.size W10 W10 := Below.refl _ _
  have gt := Bt.cells
  have ge := Be.cells
  have gM := BM.cells
  refine wp_region_tail 8 (by kernel_rfl) (by kernel_rfl) (C := fun w' => ∃ p : Regrown, w' = grow (redrawn W10 p.d) p.os) (fun w' h => regrown_of_below h) ?_
  simp only [List.take_succ_cons, List.take_zero, List.drop_succ_cons, List.drop_zero]
  repeat (first | (refine rWalk_skip (Eq.refl false) ?_; simp only [Act.put, List.setIfInBounds_toArray, List.set_cons_succ, List.set_cons_zero]) | (refine rWalk_step (fun K hK => ?_); go_simp; first | (refine hK _ ?_; clear hK K) | (apply Exists.intro; refine ⟨fun _ => ?_, hK _ ?_⟩; (first | fail); clear hK K)))
  refine rWalk_nil ?_
  intro w11 hb
  clear gt ge gM
  clear xt yt zt vt xe ye ze ve xM yM zM vM
  replace Bt := Bt.ext hb rfl
  replace Be := Be.ext hb rfl
  replace BM := BM.ext hb rfl
  replace hw := hw.trans (hb.mono hw.size)
  replace HF := HF.ext hw rfl
  replace hg := grown_below hg hw
  clear hw
  refine wpList_store _ rfl _ _ _ rfl kvR rfl HF (T.A, T.B) T rfl rfl (okT_w hk).1 ?_
  intro c0 HG hh hs
  replace Bt := Bt.turn HF hh
  replace Be := Be.turn HF hh
  replace BM := BM.turn HF hh
  replace hg := grown_trans hg hh
  clear HF hh hs
  have HF := HG
  clear HG
  obtain ⟨xt, yt, zt, vt⟩ := Bt.facts
  obtain ⟨xe, ye, ze, ve⟩ := Be.facts
  obtain ⟨xM, yM, zM, vM⟩ := BM.facts
  go_wp2_with fail
  clear xt yt zt vt xe ye ze ve xM yM zM vM
  try rw [rounds_succ]
  obtain ⟨xt, yt, zt, vt⟩ := Bt.facts
  obtain ⟨xe, ye, ze, ve⟩ := Be.facts
  obtain ⟨xM, yM, zM, vM⟩ := BM.facts
  go_wp2_with fail
  have hw : Below c0.heap.size c0 c0 := Below.refl _ _
  have gt := Bt.cells
  have ge := Be.cells
  have gM := BM.cells
  refine wp_region_tail 8 (by kernel_rfl) (by kernel_rfl) (C := fun w' => ∃ p : Regrown, w' = grow (redrawn c0 p.d) p.os) (fun w' h => regrown_of_below h) ?_
  simp only [List.take_succ_cons, List.take_zero, List.drop_succ_cons, List.drop_zero]
  repeat (first | (refine rWalk_skip (Eq.refl false) ?_; simp only [Act.put, List.setIfInBounds_toArray, List.set_cons_succ, List.set_cons_zero]) | (refine rWalk_step (fun K hK => ?_); go_simp; first | (refine hK _ ?_; clear hK K) | (apply Exists.intro; refine ⟨fun _ => ?_, hK _ ?_⟩; (first | fail); clear hK K)))
  refine rWalk_nil ?_
  intro w12 hb
  clear gt ge gM
  clear xt yt zt vt xe ye ze ve xM yM zM vM
  replace Bt := Bt.ext hb rfl
  replace Be := Be.ext hb rfl
  replace BM := BM.ext hb rfl
  replace hw := hw.trans (hb.mono hw.size)
  replace HF := HF.ext hw rfl
  replace hg := grown_below hg hw
  clear hw
  refine wpList_store _ rfl _ _ _ rfl kvR rfl HF (T.B, T.C) T rfl rfl (okT_w hk).2.1 ?_
  intro c1 HG hh hs
  replace Bt := Bt.turn HF hh
  replace Be := Be.turn HF hh
  replace BM := BM.turn HF hh
  replace hg := grown_trans hg hh
  clear HF hh hs
  have HF := HG
  clear HG
  obtain ⟨xt, yt, zt, vt⟩ := Bt.facts
  obtain ⟨xe, ye, ze, ve⟩ := Be.facts
  obtain ⟨xM, yM, zM, vM⟩ := BM.facts
  go_wp2_with fail
  clear xt yt zt vt xe ye ze ve xM yM zM vM
  try rw [rounds_succ]
  obtain ⟨xt, yt, zt, vt⟩ := Bt.facts
  obtain ⟨xe, ye, ze, ve⟩ := Be.facts
  obtain ⟨xM, yM, zM, vM⟩ := BM.facts
  go_wp2_with fail
  have hw : Below c1.heap.size c1 c1 := Below.refl _ _
  have gt := Bt.cells
  have ge := Be.cells
  have gM := BM.cells
  refine wp_region_tail 8 (by kernel_rfl) (by kernel_rfl) (C := fun w' => ∃ p : Regrown, w' = grow (redrawn c1 p.d) p.os) (fun w' h => regrown_of_below h) ?_
  simp only [List.take_succ_cons, List.take_zero, List.drop_succ_cons, List.drop_zero]
  repeat (first | (refine rWalk_skip (Eq.refl false) ?_; simp only [Act.put, List.setIfInBounds_toArray, List.set_cons_succ, List.set_cons_zero]) | (refine rWalk_step (fun K hK => ?_); go_simp; first | (refine hK _ ?_; clear hK K) | (apply Exists.intro; refine ⟨fun _ => ?_, hK _ ?_⟩; (first | fail); clear hK K)))
  refine rWalk_nil ?_
  intro w13 hb
  clear gt ge gM
  clear xt yt zt vt xe ye ze ve xM yM zM vM
  replace Bt := Bt.ext hb rfl
  replace Be := Be.ext hb rfl
  replace BM := BM.ext hb rfl
  replace hw := hw.trans (hb.mono hw.size)
  replace HF := HF.ext hw rfl
  replace hg := grown_below hg hw
  clear hw
  refine wpList_store _ rfl _ _ _ rfl kvR rfl HF (T.C, T.A) T rfl rfl (okT_w hk).2.2 ?_
  intro c2 HG hh hs
  replace Bt := Bt.turn HF hh
  replace Be := Be.turn HF hh
  replace BM := BM.turn HF hh
  replace hg := grown_trans hg hh
  clear HF hh hs
  have HF := HG
  clear HG
  obtain ⟨xt, yt, zt, vt⟩ := Bt.facts
  obtain ⟨xe, ye, ze, ve⟩ := Be.facts
  obtain ⟨xM, yM, zM, vM⟩ := BM.facts
  go_wp2_with fail
  clear xt yt zt vt xe ye ze ve xM yM zM vM
  try rw [rounds_succ]
  obtain ⟨xt, yt, zt, vt⟩ := Bt.facts
  obtain ⟨xe, ye, ze, ve⟩ := Be.facts
  obtain ⟨xM, yM, zM, vM⟩ := BM.facts
  go_wp2
  go_ret
  exact ⟨rfl, hg, HF⟩

/-- No edge is there yet. -/
def freeE (E : Es) (T : Tri3) : Bool := (getE E (T.A, T.B)).isNone && ((getE E (T.B, T.C)).isNone && (getE E (T.C, T.A)).isNone)
theorem fitsE_eq (E : Es) (T : Tri3) : fitsE E T = (freeE E T && valT T) := by unfold fitsE freeE; simp only [Bool.and_assoc]
theorem rput_no (mb b : Nat) (E : Es) (T : Tri3) (hf : freeE E T = false) (hk : okT T) (w : World) (Bm : Box w mb [.map (some b)] 69) (Hm : HoldsMap eW eT okW w b E) :
    Calls Try.prog 42 #[.pointer (some ⟨mb, 0, none⟩), .agg #[.int .i64 T.A.x, .int .i64 T.A.y, .int .i64 T.B.x, .int .i64 T.B.y, .int .i64 T.C.x, .int .i64 T.C.y]] w fun e w' => e = .returned (.bool false) ∧ Below w.heap.size w w' := by
  unfold freeE at hf
  cases h0 : getE E (T.A, T.B) with
  | some S => exact rput_0 mb b E T S h0 hk w Bm Hm
  | none =>
    cases h1 : getE E (T.B, T.C) with
    | some S => exact rput_1 mb b E T S h0 h1 hk w Bm Hm
    | none =>
      cases h2 : getE E (T.C, T.A) with
      | some S => exact rput_2 mb b E T S h0 h1 h2 hk w Bm Hm
      | none => rw [h0, h1, h2] at hf; simp at hf
theorem rput_yes (mb b : Nat) (E : Es) (T : Tri3) (hf : freeE E T = true) (hk : okT T) (w : World) (Bm : Box w mb [.map (some b)] 69) (Hm : HoldsMap eW eT okW w b E) :
    Calls Try.prog 42 #[.pointer (some ⟨mb, 0, none⟩), .agg #[.int .i64 T.A.x, .int .i64 T.A.y, .int .i64 T.B.x, .int .i64 T.B.y, .int .i64 T.C.x, .int .i64 T.C.y]] w fun e w' => e = .returned (.bool true) ∧ w.grownBy w' (some b) ∧ HoldsMap eW eT okW w' b (putT E T) := by
  unfold freeE at hf
  simp only [Bool.and_eq_true, Option.isNone_iff_eq_none] at hf
  exact rput_3 mb b E T hf.1 hf.2.1 hf.2.2 hk w Bm Hm
end Go.Proofs.Ytaegobkkcgheeaa

namespace Go.Proofs.Ytaegobkkcgheeaa
open Go.RowKit Go.Sort
attribute [local go_sem] rOper rAt rUpon cell_set sg_i64 sg_u64 alloc_cell alloc_frozen
attribute [local go_sem 10000] pt_eql pt_neq tri_eql
attribute [local irreducible] rWalk

attribute [local go_sem] rmap_nil run_makeMap
/-- A triangle's six cells at an address. -/
def Six (w : World) (A : Addr) (T : Tri3) : Prop := A.block < w.heap.size ∧ (w.cell? A = some (.int .i64 T.A.x) ∧ w.cell? ⟨A.block, A.off + 1, none⟩ = some (.int .i64 T.A.y) ∧ w.cell? ⟨A.block, A.off + 2, none⟩ = some (.int .i64 T.B.x) ∧
      w.cell? ⟨A.block, A.off + 3, none⟩ = some (.int .i64 T.B.y) ∧ w.cell? ⟨A.block, A.off + 4, none⟩ = some (.int .i64 T.C.x) ∧ w.cell? ⟨A.block, A.off + 5, none⟩ = some (.int .i64 T.C.y))
theorem RowAt.six {w : World} {a : Option Addr} {L : List Tri3} (h : RowAt cT 6 w a L) {j : Nat} (hj : j < L.length) : ∃ ad A, a = some ad ∧ ad.add (j * 6) = A ∧ Six w A L[j] := by
  obtain ⟨ad, A, h1, h2, _, h4, h5⟩ := h.tri hj
  exact ⟨ad, A, h1, h2, h4, h5⟩
theorem Six.ext {w w' : World} {A : Addr} {T : Tri3} {n : Nat} (h : Six w A T) (hb : Below n w w') (hn : n = w.heap.size) : Six w' A T := by
  obtain ⟨h0, h1, h2, h3, h4, h5, h6⟩ := h
  have e : ∀ p : Addr, p.block = A.block → w'.cell? p = w.cell? p := fun p hp => hb.cell (by rw [hp, hn]; exact h0)
  exact ⟨Nat.lt_of_lt_of_le h0 hb.size, (e A rfl).trans h1, (e ⟨A.block, A.off + 1, none⟩ rfl).trans h2, (e ⟨A.block, A.off + 2, none⟩ rfl).trans h3, (e ⟨A.block, A.off + 3, none⟩ rfl).trans h4, (e ⟨A.block, A.off + 4, none⟩ rfl).trans h5, (e ⟨A.block, A.off + 5, none⟩ rfl).trans h6⟩
theorem Six.facts {w : World} {A : Addr} {T : Tri3} (h : Six w A T) : (A.block = w.heap.size) = False ∧ w.cell? A = some (.int .i64 T.A.x) ∧ w.cell? ⟨A.block, A.off + 1, none⟩ = some (.int .i64 T.A.y) ∧ w.cell? ⟨A.block, A.off + 2, none⟩ = some (.int .i64 T.B.x) ∧
      w.cell? ⟨A.block, A.off + 3, none⟩ = some (.int .i64 T.B.y) ∧ w.cell? ⟨A.block, A.off + 4, none⟩ = some (.int .i64 T.C.x) ∧ w.cell? ⟨A.block, A.off + 5, none⟩ = some (.int .i64 T.C.y) := ⟨by simp; have := h.1; omega, h.2⟩
def RNewPost (w : World) (n : Nat) (L : List Tri3) (e : Ending) (w' : World) : Prop :=
  (∃ mb b, e = .returned (.pointer (some ⟨mb, 0, none⟩)) ∧ Box w' mb [.map (some b)] 69 ∧ HoldsMap eW eT okW w' b (putRun [] L).2 ∧ w.heap.size ≤ b ∧ w.heap.size ≤ mb ∧ Below w.heap.size w w' ∧ (putRun [] L).1 = n) ∨
  (e = .returned (.pointer none) ∧ Below w.heap.size w w' ∧ (putRun [] L).1 < n)
set_option maxRecDepth 100000 in
set_option maxHeartbeats 2000000 in
theorem rnew_any (a : Option Addr) (cap n : Nat) (L : List Tri3) (hn : Hid (L.length = n)) (hn1 : n ≤ 1000000) (hok : ∀ T ∈ L, okT T) (w : World) (Hr : RowAt cT 6 w a L) :
    Calls Try.prog 18 #[.slice a n cap] w (RNewPost w n L) := by
  go_enter Try.func18, Try.ntmps18
  go_wp2_with fail
  refine at_world fun W1 hW => ?_
  have BM : Box W1 (w.heap.size + 1) [.map (some w.heap.size)] 69 := by rw [hW]; exact Box.new (by simp)
  have HM : HoldsMap eW eT okW W1 w.heap.size ([] : Es) := by rw [hW]; exact (HoldsMap.made w).alloc _
  have hw : Below w.heap.size w W1 := by rw [hW]; go_grown
  clear hW
  go_loopw [4] (fun i wr => ∃ (k : Nat) (F : Es), k ≤ n ∧ i = .int .i64 k ∧ Hid (putRun [] L = (k + (putRun F (L.drop k)).1, (putRun F (L.drop k)).2)) ∧ Box wr (w.heap.size + 1) [.map (some w.heap.size)] 69 ∧ HoldsMap eW eT okW wr w.heap.size F ∧ Below w.heap.size w wr) (fun i _ => n - (intOf i).toNat)
  case atStart => exact ⟨0, [], Nat.zero_le _, rfl, Lib.hid (by simp), BM, HM, hw⟩
  case round =>
    clear BM HM hw
    obtain ⟨k, F, hk, rfl, hR, BM, HF, hw⟩ := hrel
    by_cases hlt : k < n
    · have hlk : k < L.length := hn.out ▸ hlt
      have hokk := hok L[k] (List.getElem_mem hlk)
      have hst := fun hf => putRun_step hlk hR.out hf
      have hsp := fun hf => putRun_stop hlk hR.out hf
      obtain ⟨ad, A, ea, eA, hA⟩ := (Hr.ext hw rfl).six hlk
      generalize L[k] = T at *
      have cv := rvalT_any T
      cases hv : valT T with
      | false =>
        have HP := Lib.hid (hsp (by rw [fitsE_eq, hv, Bool.and_false]))
        rw [hv] at cv
        clear hst hsp hv
        obtain ⟨zA, q0, q1, q2, q3, q4, q5⟩ := hA.facts
        go_wp2_with fail
        refine (cv _).mono ?_
        rintro e w2 ⟨rfl, hb⟩
        clear zA q0 q1 q2 q3 q4 q5
        go_wp2
        go_ret
        exact .inr ⟨rfl, hw.trans (hb.mono hw.size), by rw [HP.out]; exact hlt⟩
      | true =>
        rw [hv] at cv
        cases hf : freeE F T with
        | false =>
          have HP := Lib.hid (hsp (by rw [fitsE_eq, hf, Bool.false_and]))
          have cp := rput_no (w.heap.size + 1) w.heap.size F T hf hokk
          clear hst hsp hv hf
          obtain ⟨zA, q0, q1, q2, q3, q4, q5⟩ := hA.facts
          go_wp2_with fail
          refine (cv _).mono ?_
          rintro e w2 ⟨rfl, hb⟩
          clear zA q0 q1 q2 q3 q4 q5
          obtain ⟨zA, q0, q1, q2, q3, q4, q5⟩ := (hA.ext hb rfl).facts
          replace hw := hw.trans (hb.mono hw.size)
          go_wp2_with fail
          refine (cp _ (BM.ext hb rfl) (HF.ext hb rfl)).mono ?_
          rintro e w3 ⟨rfl, hb2⟩
          clear zA q0 q1 q2 q3 q4 q5
          go_wp2
          go_ret
          exact .inr ⟨rfl, hw.trans (hb2.mono hw.size), by rw [HP.out]; exact hlt⟩
        | true =>
          have HP := Lib.hid (hst (by rw [fitsE_eq, hf, hv]; rfl))
          have cp := rput_yes (w.heap.size + 1) w.heap.size F T hf hokk
          clear hst hsp hv hf
          obtain ⟨zA, q0, q1, q2, q3, q4, q5⟩ := hA.facts
          go_wp2_with fail
          refine (cv _).mono ?_
          rintro e w2 ⟨rfl, hb⟩
          clear zA q0 q1 q2 q3 q4 q5
          obtain ⟨zA, q0, q1, q2, q3, q4, q5⟩ := (hA.ext hb rfl).facts
          replace hw := hw.trans (hb.mono hw.size)
          replace BM := BM.ext hb rfl
          replace HF := HF.ext hb rfl
          go_wp2_with fail
          refine (cp _ BM HF).mono ?_
          rintro e w3 ⟨rfl, hg, HG⟩
          clear zA q0 q1 q2 q3 q4 q5
          replace BM := BM.turn HF hg
          replace hw := below_grown hw hg hw.size (Nat.le_refl _)
          clear HF hg hb hA
          go_wp2
          rw [← ea]
          go_roundw
          case rel => exact ⟨k + 1, putT F T, by omega, by go_num, HP, BM, HG, hw⟩
          case measure => simp [intOf]; omega
    · have HP := Lib.hid (putRun_end (by rw [hn.out]; omega) hR.out)
      go_wp2
      go_ret
      exact .inl ⟨_, _, rfl, BM, by rw [HP.out]; exact HF, Nat.le_refl _, by omega, hw, by rw [HP.out]; omega⟩
end Go.Proofs.Ytaegobkkcgheeaa

namespace Go.Proofs.Ytaegobkkcgheeaa
open Go.RowKit Go.Sort Go.Lib Go.Shelf

section
variable {α : Type} {c : α → List Value} {k : Nat}
theorem flatMap_len (hc : ∀ x, (c x).length = k) : ∀ L : List α, (L.flatMap c).length = L.length * k
  | [] => by simp
  | x :: L => by rw [List.flatMap_cons, List.length_append, hc, flatMap_len hc L, List.length_cons, Nat.add_mul]; omega
theorem flatMap_get (hc : ∀ x, (c x).length = k) : ∀ (L : List α) (j i : Nat) (x : α), L[j]? = some x → i < k → (L.flatMap c)[j * k + i]? = (c x)[i]?
  | [], j, i, x, h, _ => by simp at h
  | y :: L, 0, i, x, h, hi => by
    simp at h; subst h
    rw [List.flatMap_cons, Nat.zero_mul, Nat.zero_add, List.getElem?_append_left (by rw [hc]; exact hi)]
  | y :: L, j + 1, i, x, h, hi => by
    rw [List.flatMap_cons, List.getElem?_append_right (by rw [hc, Nat.add_mul]; omega), hc]
    rw [show (j + 1) * k + i - k = j * k + i by rw [Nat.add_mul]; omega]
    exact flatMap_get hc L j i x (by simpa using h) hi
theorem rowAt_of_owns {w : World} {B : Nat} {T : TypeId} {v : Value} {L : List α} (hc : ∀ x, (c x).length = k) (h : w.ownsRow B T k v L.length (L.flatMap c)) :
    ∃ a cap, v = .slice a L.length cap ∧ RowAt c k w a L := by
  rcases h.2 with ⟨rfl, h0⟩ | ⟨g, cap, cur, rfl, hB, hb, h1, h2, h3, h4⟩
  · have : L = [] := List.eq_nil_of_length_eq_zero h0
    subst this
    exact ⟨none, 0, rfl, RowAt.nil⟩
  · refine ⟨some ⟨g, 0, none⟩, cap, rfl, fun j x hj => ⟨_, rfl, (Array.getElem?_eq_some_iff.1 hb).1, fun i u hu => ?_⟩⟩
    have hi : i < k := by rw [← hc x]; exact (List.getElem?_eq_some_iff.1 hu).1
    have e := flatMap_get hc L j i x hj hi
    rw [hu, ← h4, List.getElem?_take] at e
    split at e
    · rw [Addr.add_lit, Addr.add_lit]
      simp only [World.cell?, hb, Nat.zero_add]
      simpa using e
    · cases e
end
section
variable {α : Type} [Inhabited α] {c : α → List Value} {k : Nat}
theorem holdsK_of_owns {w : World} {B g cap n : Nat} {T : TypeId} {L : List α} (hc : ∀ x, (c x).length = k) (h : w.ownsRow B T k (.slice (some ⟨g, 0, none⟩) n cap) L.length (L.flatMap c)) : HoldsK c k w g 0 L.toArray ∧ g < w.heap.size := by
  rcases h.2 with ⟨h0, _⟩ | ⟨g', cap', cur, h0, hB, hb, h1, h2, h3, h4⟩
  · cases h0
  · simp only [Value.slice.injEq, Option.some.injEq, Addr.mk.injEq, and_true] at h0
    obtain ⟨e1, e2, e3⟩ := h0
    subst e1 e3
    refine ⟨fun t ht => ⟨?_, by simp [World.frozen?, hb]⟩, (Array.getElem?_eq_some_iff.1 hb).1⟩
    have ht' : t < L.length * k := by simpa using ht
    rw [get_flatK _ _ _ _ (by simpa using ht')]
    have k0 : 0 < k := by rcases Nat.eq_zero_or_pos k with h | h; · subst h; simp at ht'
                          · exact h
    have hj : t / k < L.length := by rwa [Nat.div_lt_iff_lt_mul k0]
    have hi : t % k < k := Nat.mod_lt _ k0
    have e := flatMap_get hc L (t / k) (t % k) L[t / k] (List.getElem?_eq_getElem hj) hi
    rw [show t / k * k + t % k = t by rw [Nat.mul_comm]; exact Nat.div_add_mod t k, ← h4, List.getElem?_take] at e
    split at e
    · simp only [World.cell?, hb, Nat.zero_add]
      simp only [Option.isSome_none, Bool.false_eq_true, if_false]
      rw [← Array.getElem?_toList, e]
      simp [hj, hc, hi]
    · rename_i hh; exact absurd ht' hh
theorem rowAt_of_holdsK {w : World} {g : Nat} {L : List α} (hc : ∀ x, (c x).length = k) (h : HoldsK c k w g 0 L.toArray) (hg : g < w.heap.size) : RowAt c k w (some ⟨g, 0, none⟩) L := fun j x hj => by
  refine ⟨_, rfl, hg, fun i u hu => ?_⟩
  have hi : i < k := by rw [← hc x]; exact (List.getElem?_eq_some_iff.1 hu).1
  have hjl : j < L.length := (List.getElem?_eq_some_iff.1 hj).1
  have e := (h.cell (i := j) (c := i) (by simpa using hjl) hi).1
  rw [Addr.add_lit, Addr.add_lit, e]
  have e2 : L.toArray[j]! = x := by
    rw [getElem!_pos _ j (by simpa using hjl)]
    simpa using (List.getElem?_eq_some_iff.1 hj).2
  rw [e2, ← hu, List.getElem!_eq_getElem?_getD, List.getElem?_eq_getElem (by rw [hc]; exact hi)]
  rfl
theorem grownBy_sortK {w : World} {g n : Nat} {os : Array Obj} (d : Array α) : w.grownBy (sortWorldK c k w g 0 n d os) (some g) := by
  refine ⟨rfl, rfl, rfl, by simp [sortWorldK, putRowK], fun i hi hne => ?_⟩
  unfold sortWorldK putRowK
  rw [heap_grow_old _ _ (by simpa using hi)]
  have : g ≠ i := fun e => hne (by rw [e])
  simp [putRow, mapBlock, Sort.ahead, Array.getElem?_modify, this]
theorem holdsK_sortK {w : World} {g n : Nat} {os : Array Obj} {d d' : Array α} (h : HoldsK c k w g 0 d) (hg : g < w.heap.size) (hs : d'.size = d.size) : HoldsK c k (sortWorldK c k w g 0 n d' os) g 0 d' := by
  unfold sortWorldK
  refine holdsK_grow c k _ os g 0 d' (by simp [putRowK, Sort.ahead]; exact hg) ?_
  exact holdsK_putRowK c k _ g 0 d d' (holdsK_ahead c k w n g 0 d h) hs
end
theorem cT_len (x : Tri3) : (cT x).length = 6 := rfl
theorem cP_len (x : Pt) : (cP x).length = 2 := rfl
theorem cT_one (x : Tri3) : ∀ v ∈ cT x, v.oneCell' = true := by intro v hv; simp [cT] at hv; rcases hv with rfl | rfl | rfl | rfl | rfl | rfl <;> rfl
theorem cP_one (x : Pt) : ∀ v ∈ cP x, v.oneCell' = true := by intro v hv; simp [cP] at hv; rcases hv with rfl | rfl <;> rfl
theorem cmpLaysT (blk off size : Nat) (w : World) : CmpLays Try.prog 31 #[] cT 6 cmpT blk off size w := fun _ _ _ _ x y =>
  (dcmpT_any x y _).mono fun _ _ ⟨he, hx⟩ => ⟨he, hx.grown⟩
theorem cmpLaysP (blk off size : Nat) (w : World) : CmpLays Try.prog 48 #[] cP 2 cmpP blk off size w := fun _ _ _ _ x y =>
  (dcmp_pt x y _).mono fun _ _ ⟨he, hx⟩ => ⟨he, hx.grown⟩
theorem enterT : ∀ args w, (callFunc 31 args).run Try.prog w = .ok (.enter 31 args) w := enters_of Try.func31 (by kernel_rfl) rfl
theorem enterP : ∀ args w, (callFunc 48 args).run Try.prog w = .ok (.enter 48 args) w := enters_of Try.func48 (by kernel_rfl) rfl
theorem sortT_any (B : Nat) (v : Value) (L : List Tri3) (hL : L.length ≤ 3000000) (w : World) (h : w.ownsRow B 25 6 v L.length (L.flatMap cT)) :
    Calls Try.prog 67 #[v, .func (.func 31) #[] #[]] w fun e w' => e = .returned (.tuple #[]) ∧ w.grownBy w' v.ownBlock ∧ ∃ a cap, v = .slice a L.length cap ∧ RowAt cT 6 w' a (srt cmpT L) := by
  have h2 := h.2
  rcases h2 with ⟨rfl, h0⟩ | ⟨g, cap, cur, rfl, hB, hb, h1, h2, h3, h4⟩
  · have : L = [] := List.eq_nil_of_length_eq_zero h0
    subst this
    have hc := AnyF.slices_SortFunc_none { sortTri with } none 0 (.func (.func 31) #[] #[]) w
    change Calls Try.prog 67 _ _ _ at hc
    exact hc.mono fun e w' ⟨he, hw⟩ => ⟨he, hw ▸ grown_refl _ _, none, 0, rfl, by rw [show srt cmpT ([] : List Tri3) = [] by simp [srt]]; exact RowAt.nil⟩
  · obtain ⟨hH, hg⟩ := holdsK_of_owns cT_len h
    have hc := AnyQ.slices_SortFunc_total sortTri 6 Try.isAgg25 Try.sizeOf25 cT cT_len cT_one cmpT wholeT.swo 31 #[] g 0 cap L.toArray w enterT (cmpLaysT g 0 _ w) hH hg (by simp; omega) wholeT.one
    change Calls Try.prog 67 _ _ _ at hc
    rw [show L.toArray.size = L.length by simp] at hc
    refine hc.mono fun e w' ⟨he, n, os, hw⟩ => ⟨he, ?_, _, cap, rfl, ?_⟩
    · rw [hw]; exact grownBy_sortK _
    · rw [hw]
      exact rowAt_of_holdsK cT_len (holdsK_sortK hH hg (by simp)) (Nat.lt_of_lt_of_le hg (grownBy_sortK (c := cT) (k := 6) _).size)
theorem sortP_any (B : Nat) (g cap : Nat) (L : List Pt) (hL : L.length ≤ 3000000) (w : World) (h : w.ownsRow B 23 2 (.slice (some ⟨g, 0, none⟩) L.length cap) L.length (L.flatMap cP)) :
    Calls Try.prog 59 #[.slice (some ⟨g, 0, none⟩) L.length cap, .func (.func 48) #[] #[]] w fun e w' => e = .returned (.tuple #[]) ∧ w.grownBy w' (some g) ∧ HoldsK cP 2 w' g 0 (srt cmpP L).toArray ∧ g < w'.heap.size := by
  obtain ⟨hH, hg⟩ := holdsK_of_owns cP_len h
  have hc := AnyQ.slices_SortFunc_total sortPt 2 Try.isAgg23 Try.sizeOf23 cP cP_len cP_one cmpP wholeP.swo 48 #[] g 0 cap L.toArray w enterP (cmpLaysP g 0 _ w) hH hg (by simp; omega) wholeP.one
  change Calls Try.prog 59 _ _ _ at hc
  rw [show L.toArray.size = L.length by simp] at hc
  refine hc.mono fun e w' ⟨he, n, os, hw⟩ => ⟨he, ?_, ?_, ?_⟩
  · rw [hw]; exact grownBy_sortK _
  · rw [hw]; exact holdsK_sortK hH hg (by simp)
  · rw [hw]; exact Nat.lt_of_lt_of_le hg (grownBy_sortK (c := cP) (k := 2) _).size
end Go.Proofs.Ytaegobkkcgheeaa
