/- Put together: MesG. -/
import Derived.Test.YtaegobkkcgheeaaRows
import Derived.Test.YtaegobkkcgheeaaPut13
import Derived.Test.YtaegobkkcgheeaaPut16
import Derived.Test.YtaegobkkcgheeaaPut18
import Derived.Test.YtaegobkkcgheeaaPut1
import Derived.WalkKit
import Derived.WalkSpells
import Derived.WalkLawsBesides
import Derived.Laws.Externs
import Derived.Deep.QuietTactic
import Derived.BigQuiet
import Derived.Lib.Hide
import Derived.Handy
import Derived.LoopN
import Derived.RegionTactic
namespace Go.Proofs.Ytaegobkkcgheeaa
open Go.RowKit Go.Sort
attribute [local go_sem] rOper rAt rUpon cell_set sg_i64 sg_u64 alloc_cell alloc_frozen
attribute [local go_sem 10000] pt_eql pt_neq tri_eql
attribute [local irreducible] rWalk

attribute [local go_sem] rmap_nil
set_option maxRecDepth 100000 in
set_option maxHeartbeats 1000000 in
theorem redges_any (T : Tri3) (w : World) :
    Calls Try.prog 64 #[.agg #[.int .i64 T.A.x, .int .i64 T.A.y, .int .i64 T.B.x, .int .i64 T.B.y, .int .i64 T.C.x, .int .i64 T.C.y]] w fun e w' => e = .returned (.agg #[.int .i64 T.A.x, .int .i64 T.A.y, .int .i64 T.B.x, .int .i64 T.B.y, .int .i64 T.B.x, .int .i64 T.B.y, .int .i64 T.C.x, .int .i64 T.C.y, .int .i64 T.C.x, .int .i64 T.C.y, .int .i64 T.A.x, .int .i64 T.A.y]) ∧ Below w.heap.size w w' := by
  go_enter Try.func64, Try.ntmps64
  go_wp2_with fail
  refine bodyPost_ret (v := .agg #[.int .i64 T.A.x, .int .i64 T.A.y, .int .i64 T.B.x, .int .i64 T.B.y, .int .i64 T.B.x, .int .i64 T.B.y, .int .i64 T.C.x, .int .i64 T.C.y, .int .i64 T.C.x, .int .i64 T.C.y, .int .i64 T.A.x, .int .i64 T.A.y]) (by simp [results, Try.results64, go_sem]) rfl ⟨rfl, by go_grown⟩

set_option maxRecDepth 100000 in
set_option maxHeartbeats 1000000 in
theorem rleft_1 (mb b : Nat) (E : Es) (p q : Pt) (T : Tri3) (hg : getE E (p, q) = some T) (hk : okW (p, q)) (w : World) (Bm : Box w mb [.map (some b)] 69) (Hm : HoldsMap eW eT okW w b E) :
    Calls Try.prog 21 #[.pointer (some ⟨mb, 0, none⟩), .agg #[.int .i64 p.x, .int .i64 p.y], .agg #[.int .i64 q.x, .int .i64 q.y]] w fun e w' => e = .returned (.tuple #[.agg #[.int .i64 T.A.x, .int .i64 T.A.y, .int .i64 T.B.x, .int .i64 T.B.y, .int .i64 T.C.x, .int .i64 T.C.y], .bool true]) ∧ Below w.heap.size w w' := by
  go_enter Try.func21, Try.ntmps21
  go_wp2_with fail
  refine at_world fun W1 hW => ?_
  have Bp : Box W1 (w.heap.size) [.int .i64 p.x, .int .i64 p.y] 23 := by rw [hW]; exact ((Box.new rfl).old _).old _
  have Bq : Box W1 (w.heap.size + 1) [.int .i64 q.x, .int .i64 q.y] 23 := by rw [hW]; exact (Box.new (by simp)).old _
  have Br : Box W1 (w.heap.size + 1 + 1) [.int .i64 0, .int .i64 0, .int .i64 0, .int .i64 0, .int .i64 0, .int .i64 0] 25 := by rw [hW]; exact Box.new (by simp)
  have hw : Below w.heap.size w W1 := by rw [hW]; go_grown
  clear hW
  have BM : Box W1 (mb) [.map (some b)] 69 := Bm.ext hw rfl
  have hl : ∀ d os, (Instr.lookup 67 (.map (some b)) (.agg #[.int .i64 p.x, .int .i64 p.y, .int .i64 q.x, .int .i64 q.y]) true).run Try.prog (grow (redrawn W1 d) os) = .ok (.tuple #[.agg #[.int .i64 T.A.x, .int .i64 T.A.y, .int .i64 T.B.x, .int .i64 T.B.y, .int .i64 T.C.x, .int .i64 T.C.y], .bool true]) (grow (redrawn W1 d) os) := fun d os => ((Hm.ext hw rfl).ext (below_regrown W1 d os) rfl).look_some kvR zero_tri hk hg
  clear hg
  have gp := Bp.cells
  have gq := Bq.cells
  have gr := Br.cells
  have gM := BM.cells
  refine wp_region_lateG2 11 8 19 [.int .i64 T.A.x, .int .i64 T.A.y, .int .i64 T.B.x, .int .i64 T.B.y, .int .i64 T.C.x, .int .i64 T.C.y] (zs := [.int .i64 0, .int .i64 0, .int .i64 0, .int .i64 0, .int .i64 0, .int .i64 0]) (eff := eff6 (.int .i64 T.A.x) (.int .i64 T.A.y) (.int .i64 T.B.x) (.int .i64 T.B.y) (.int .i64 T.C.x) (.int .i64 T.C.y)) eff6_spec rfl rfl rfl rfl rfl rfl rfl (by simp) (fun ρ W => by simp [execOp, go_sem]; rfl) (by kernel_rfl) (by as_aux_lemma => kernel_rfl) (C := fun w' => ∃ p : Regrown, w' = grow (redrawn W1 p.d) p.os) (fun w' h => regrown_of_below h) ?_ (fun ρ W b e1 e2 hB => by obtain ⟨x, y, _, _⟩ := hB.facts; simp [execOp, go_sem, e1, e2, x, y, eff6])
  simp only [List.take_succ_cons, List.take_zero, List.drop_succ_cons, List.drop_zero]
  repeat (first | (refine rWalk_skip (Eq.refl false) ?_; simp only [Act.put, List.setIfInBounds_toArray, List.set_cons_succ, List.set_cons_zero]) | (refine rWalk_step (fun K hK => ?_); go_simp; first | (refine hK _ ?_; clear hK K) | (apply Exists.intro; refine ⟨fun _ => ?_, hK _ ?_⟩; (first | fail); clear hK K)))
  refine rWalk_nil ⟨rfl, ?_⟩
  intro w2 bks hb h1b h2b Bs
  have lps := Bp.lt
  have lqs := Bq.lt
  have lrs := Br.lt
  have lMs := BM.lt
  have hw0z := hw.size
  clear gp gq gr gM
  replace Bp := Bp.ext hb rfl
  replace Bq := Bq.ext hb rfl
  replace Br := Br.ext hb rfl
  replace BM := BM.ext hb rfl
  replace hw := hw.trans (hb.mono hw.size)
  have fs := h1b
  have hwz : w.heap.size ≤ W1.heap.size := hw0z
  clear hb h1b h2b hw0z
  simp only [Act.put]
  clear hl
  obtain ⟨xp, yp, zp, vp⟩ := Bp.facts
  obtain ⟨xq, yq, zq, vq⟩ := Bq.facts
  obtain ⟨xr, yr, zr, vr⟩ := Br.facts
  obtain ⟨xM, yM, zM, vM⟩ := BM.facts
  obtain ⟨xs, ys, zs, vs⟩ := Bs.facts
  go_wp2_with fail
  refine bodyPost_ret (v := .tuple #[.agg #[.int .i64 T.A.x, .int .i64 T.A.y, .int .i64 T.B.x, .int .i64 T.B.y, .int .i64 T.C.x, .int .i64 T.C.y], .bool true]) (by simp [results, Try.results21, go_sem, xr]) rfl ⟨rfl, by have hl := hw.size; go_grown⟩

set_option maxRecDepth 100000 in
set_option maxHeartbeats 1000000 in
theorem rleft_0 (mb b : Nat) (E : Es) (p q : Pt) (hg : getE E (p, q) = none) (hk : okW (p, q)) (w : World) (Bm : Box w mb [.map (some b)] 69) (Hm : HoldsMap eW eT okW w b E) :
    Calls Try.prog 21 #[.pointer (some ⟨mb, 0, none⟩), .agg #[.int .i64 p.x, .int .i64 p.y], .agg #[.int .i64 q.x, .int .i64 q.y]] w fun e w' => e = .returned (.tuple #[.agg #[.int .i64 0, .int .i64 0, .int .i64 0, .int .i64 0, .int .i64 0, .int .i64 0], .bool false]) ∧ Below w.heap.size w w' := by
  go_enter Try.func21, Try.ntmps21
  go_wp2_with fail
  refine at_world fun W1 hW => ?_
  have Bp : Box W1 (w.heap.size) [.int .i64 p.x, .int .i64 p.y] 23 := by rw [hW]; exact ((Box.new rfl).old _).old _
  have Bq : Box W1 (w.heap.size + 1) [.int .i64 q.x, .int .i64 q.y] 23 := by rw [hW]; exact (Box.new (by simp)).old _
  have Br : Box W1 (w.heap.size + 1 + 1) [.int .i64 0, .int .i64 0, .int .i64 0, .int .i64 0, .int .i64 0, .int .i64 0] 25 := by rw [hW]; exact Box.new (by simp)
  have hw : Below w.heap.size w W1 := by rw [hW]; go_grown
  clear hW
  have BM : Box W1 (mb) [.map (some b)] 69 := Bm.ext hw rfl
  have hl : ∀ d os, (Instr.lookup 67 (.map (some b)) (.agg #[.int .i64 p.x, .int .i64 p.y, .int .i64 q.x, .int .i64 q.y]) true).run Try.prog (grow (redrawn W1 d) os) = .ok (.tuple #[.agg #[.int .i64 0, .int .i64 0, .int .i64 0, .int .i64 0, .int .i64 0, .int .i64 0], .bool false]) (grow (redrawn W1 d) os) := fun d os => ((Hm.ext hw rfl).ext (below_regrown W1 d os) rfl).look_none kvR zero_tri hk hg
  clear hg
  have gp := Bp.cells
  have gq := Bq.cells
  have gr := Br.cells
  have gM := BM.cells
  refine wp_region_lateG2 11 8 19 [.int .i64 0, .int .i64 0, .int .i64 0, .int .i64 0, .int .i64 0, .int .i64 0] (zs := [.int .i64 0, .int .i64 0, .int .i64 0, .int .i64 0, .int .i64 0, .int .i64 0]) (eff := eff6 (.int .i64 0) (.int .i64 0) (.int .i64 0) (.int .i64 0) (.int .i64 0) (.int .i64 0)) eff6_spec rfl rfl rfl rfl rfl rfl rfl (by simp) (fun ρ W => by simp [execOp, go_sem]; rfl) (by kernel_rfl) (by as_aux_lemma => kernel_rfl) (C := fun w' => ∃ p : Regrown, w' = grow (redrawn W1 p.d) p.os) (fun w' h => regrown_of_below h) ?_ (fun ρ W b e1 e2 hB => by obtain ⟨x, y, _, _⟩ := hB.facts; simp [execOp, go_sem, e1, e2, x, y, eff6])
  simp only [List.take_succ_cons, List.take_zero, List.drop_succ_cons, List.drop_zero]
  repeat (first | (refine rWalk_skip (Eq.refl false) ?_; simp only [Act.put, List.setIfInBounds_toArray, List.set_cons_succ, List.set_cons_zero]) | (refine rWalk_step (fun K hK => ?_); go_simp; first | (refine hK _ ?_; clear hK K) | (apply Exists.intro; refine ⟨fun _ => ?_, hK _ ?_⟩; (first | fail); clear hK K)))
  refine rWalk_nil ⟨rfl, ?_⟩
  intro w2 bks hb h1b h2b Bs
  have lps := Bp.lt
  have lqs := Bq.lt
  have lrs := Br.lt
  have lMs := BM.lt
  have hw0z := hw.size
  clear gp gq gr gM
  replace Bp := Bp.ext hb rfl
  replace Bq := Bq.ext hb rfl
  replace Br := Br.ext hb rfl
  replace BM := BM.ext hb rfl
  replace hw := hw.trans (hb.mono hw.size)
  have fs := h1b
  have hwz : w.heap.size ≤ W1.heap.size := hw0z
  clear hb h1b h2b hw0z
  simp only [Act.put]
  clear hl
  obtain ⟨xp, yp, zp, vp⟩ := Bp.facts
  obtain ⟨xq, yq, zq, vq⟩ := Bq.facts
  obtain ⟨xr, yr, zr, vr⟩ := Br.facts
  obtain ⟨xM, yM, zM, vM⟩ := BM.facts
  obtain ⟨xs, ys, zs, vs⟩ := Bs.facts
  go_wp2_with fail
  refine bodyPost_ret (v := .tuple #[.agg #[.int .i64 0, .int .i64 0, .int .i64 0, .int .i64 0, .int .i64 0, .int .i64 0], .bool false]) (by simp [results, Try.results21, go_sem, xr]) rfl ⟨rfl, by have hl := hw.size; go_grown⟩

theorem rleft_any (mb b : Nat) (E : Es) (p q : Pt) (hk : okW (p, q)) (w : World) (Bm : Box w mb [.map (some b)] 69) (Hm : HoldsMap eW eT okW w b E) :
    Calls Try.prog 21 #[.pointer (some ⟨mb, 0, none⟩), .agg #[.int .i64 p.x, .int .i64 p.y], .agg #[.int .i64 q.x, .int .i64 q.y]] w fun e w' => e = .returned (.tuple #[eT (lftE E p q).1, .bool (lftE E p q).2]) ∧ Below w.heap.size w w' := by
  cases h : getE E (p, q) with
  | none => rw [lftE_none h]; exact rleft_0 mb b E p q h hk w Bm Hm
  | some t => rw [lftE_some h]; exact rleft_1 mb b E p q t h hk w Bm Hm
set_option maxRecDepth 100000 in
set_option maxHeartbeats 1000000 in
theorem rmhas_1 (mb b : Nat) (E : Es) (T : Tri3) (S : Tri3) (hg : getE E (T.A, T.B) = some S) (hk : okT T) (w : World) (Bm : Box w mb [.map (some b)] 69) (Hm : HoldsMap eW eT okW w b E) :
    Calls Try.prog 24 #[.pointer (some ⟨mb, 0, none⟩), .agg #[.int .i64 T.A.x, .int .i64 T.A.y, .int .i64 T.B.x, .int .i64 T.B.y, .int .i64 T.C.x, .int .i64 T.C.y]] w fun e w' => e = .returned (.bool (teq S T)) ∧ Below w.heap.size w w' := by
  go_enter Try.func24, Try.ntmps24
  go_wp2_with fail
  refine at_world fun W1 hW => ?_
  have Bt : Box W1 (w.heap.size) [.int .i64 T.A.x, .int .i64 T.A.y, .int .i64 T.B.x, .int .i64 T.B.y, .int .i64 T.C.x, .int .i64 T.C.y] 25 := by rw [hW]; exact Box.new rfl
  have hw : Below w.heap.size w W1 := by rw [hW]; go_grown
  clear hW
  have BM : Box W1 (mb) [.map (some b)] 69 := Bm.ext hw rfl
  have hl : ∀ d os, (Instr.lookup 67 (.map (some b)) (.agg #[.int .i64 T.A.x, .int .i64 T.A.y, .int .i64 T.B.x, .int .i64 T.B.y]) true).run Try.prog (grow (redrawn W1 d) os) = .ok (.tuple #[.agg #[.int .i64 S.A.x, .int .i64 S.A.y, .int .i64 S.B.x, .int .i64 S.B.y, .int .i64 S.C.x, .int .i64 S.C.y], .bool true]) (grow (redrawn W1 d) os) := fun d os => ((Hm.ext hw rfl).ext (below_regrown W1 d os) rfl).look_some kvR zero_tri (okT_w hk).1 hg
  clear hg
  have gt := Bt.cells
  have gM := BM.cells
  refine wp_region_lateG2 13 5 18 [.int .i64 S.A.x, .int .i64 S.A.y, .int .i64 S.B.x, .int .i64 S.B.y, .int .i64 S.C.x, .int .i64 S.C.y] (zs := [.int .i64 0, .int .i64 0, .int .i64 0, .int .i64 0, .int .i64 0, .int .i64 0]) (eff := eff6 (.int .i64 S.A.x) (.int .i64 S.A.y) (.int .i64 S.B.x) (.int .i64 S.B.y) (.int .i64 S.C.x) (.int .i64 S.C.y)) eff6_spec rfl rfl rfl rfl rfl rfl rfl (by simp) (fun ρ W => by simp [execOp, go_sem]; rfl) (by kernel_rfl) (by as_aux_lemma => kernel_rfl) (C := fun w' => ∃ p : Regrown, w' = grow (redrawn W1 p.d) p.os) (fun w' h => regrown_of_below h) ?_ (fun ρ W b e1 e2 hB => by obtain ⟨x, y, _, _⟩ := hB.facts; simp [execOp, go_sem, e1, e2, x, y, eff6])
  simp only [List.take_succ_cons, List.take_zero, List.drop_succ_cons, List.drop_zero]
  repeat (first | (refine rWalk_skip (Eq.refl false) ?_; simp only [Act.put, List.setIfInBounds_toArray, List.set_cons_succ, List.set_cons_zero]) | (refine rWalk_step (fun K hK => ?_); go_simp; first | (refine hK _ ?_; clear hK K) | (apply Exists.intro; refine ⟨fun _ => ?_, hK _ ?_⟩; (first | fail); clear hK K)))
  refine rWalk_nil ⟨rfl, ?_⟩
  intro w2 bks hb h1b h2b Bs
  have lts := Bt.lt
  have lMs := BM.lt
  have hw0z := hw.size
  clear gt gM
  replace Bt := Bt.ext hb rfl
  replace BM := BM.ext hb rfl
  replace hw := hw.trans (hb.mono hw.size)
  have fs := h1b
  have hwz : w.heap.size ≤ W1.heap.size := hw0z
  clear hb h1b h2b hw0z
  simp only [Act.put]
  clear hl hk
  obtain ⟨xt, yt, zt, vt⟩ := Bt.facts
  obtain ⟨xM, yM, zM, vM⟩ := BM.facts
  obtain ⟨xs, ys, zs, vs⟩ := Bs.facts
  go_wp2
  go_ret
  exact ⟨rfl, by have hl := hw.size; go_grown⟩

set_option maxRecDepth 100000 in
set_option maxHeartbeats 1000000 in
theorem rmhas_0 (mb b : Nat) (E : Es) (T : Tri3) (hg : getE E (T.A, T.B) = none) (hk : okT T) (w : World) (Bm : Box w mb [.map (some b)] 69) (Hm : HoldsMap eW eT okW w b E) :
    Calls Try.prog 24 #[.pointer (some ⟨mb, 0, none⟩), .agg #[.int .i64 T.A.x, .int .i64 T.A.y, .int .i64 T.B.x, .int .i64 T.B.y, .int .i64 T.C.x, .int .i64 T.C.y]] w fun e w' => e = .returned (.bool false) ∧ Below w.heap.size w w' := by
  go_enter Try.func24, Try.ntmps24
  go_wp2_with fail
  refine at_world fun W1 hW => ?_
  have Bt : Box W1 (w.heap.size) [.int .i64 T.A.x, .int .i64 T.A.y, .int .i64 T.B.x, .int .i64 T.B.y, .int .i64 T.C.x, .int .i64 T.C.y] 25 := by rw [hW]; exact Box.new rfl
  have hw : Below w.heap.size w W1 := by rw [hW]; go_grown
  clear hW
  have BM : Box W1 (mb) [.map (some b)] 69 := Bm.ext hw rfl
  have hl : ∀ d os, (Instr.lookup 67 (.map (some b)) (.agg #[.int .i64 T.A.x, .int .i64 T.A.y, .int .i64 T.B.x, .int .i64 T.B.y]) true).run Try.prog (grow (redrawn W1 d) os) = .ok (.tuple #[.agg #[.int .i64 0, .int .i64 0, .int .i64 0, .int .i64 0, .int .i64 0, .int .i64 0], .bool false]) (grow (redrawn W1 d) os) := fun d os => ((Hm.ext hw rfl).ext (below_regrown W1 d os) rfl).look_none kvR zero_tri (okT_w hk).1 hg
  clear hg
  have gt := Bt.cells
  have gM := BM.cells
  refine wp_region_lateG2 13 5 18 [.int .i64 0, .int .i64 0, .int .i64 0, .int .i64 0, .int .i64 0, .int .i64 0] (zs := [.int .i64 0, .int .i64 0, .int .i64 0, .int .i64 0, .int .i64 0, .int .i64 0]) (eff := eff6 (.int .i64 0) (.int .i64 0) (.int .i64 0) (.int .i64 0) (.int .i64 0) (.int .i64 0)) eff6_spec rfl rfl rfl rfl rfl rfl rfl (by simp) (fun ρ W => by simp [execOp, go_sem]; rfl) (by kernel_rfl) (by as_aux_lemma => kernel_rfl) (C := fun w' => ∃ p : Regrown, w' = grow (redrawn W1 p.d) p.os) (fun w' h => regrown_of_below h) ?_ (fun ρ W b e1 e2 hB => by obtain ⟨x, y, _, _⟩ := hB.facts; simp [execOp, go_sem, e1, e2, x, y, eff6])
  simp only [List.take_succ_cons, List.take_zero, List.drop_succ_cons, List.drop_zero]
  repeat (first | (refine rWalk_skip (Eq.refl false) ?_; simp only [Act.put, List.setIfInBounds_toArray, List.set_cons_succ, List.set_cons_zero]) | (refine rWalk_step (fun K hK => ?_); go_simp; first | (refine hK _ ?_; clear hK K) | (apply Exists.intro; refine ⟨fun _ => ?_, hK _ ?_⟩; (first | fail); clear hK K)))
  refine rWalk_nil ⟨rfl, ?_⟩
  intro w2 bks hb h1b h2b Bs
  have lts := Bt.lt
  have lMs := BM.lt
  have hw0z := hw.size
  clear gt gM
  replace Bt := Bt.ext hb rfl
  replace BM := BM.ext hb rfl
  replace hw := hw.trans (hb.mono hw.size)
  have fs := h1b
  have hwz : w.heap.size ≤ W1.heap.size := hw0z
  clear hb h1b h2b hw0z
  simp only [Act.put]
  clear hl hk
  obtain ⟨xt, yt, zt, vt⟩ := Bt.facts
  obtain ⟨xM, yM, zM, vM⟩ := BM.facts
  obtain ⟨xs, ys, zs, vs⟩ := Bs.facts
  go_wp2
  go_ret
  exact ⟨rfl, by have hl := hw.size; go_grown⟩

theorem rmhas_any (mb b : Nat) (E : Es) (T : Tri3) (hk : okT T) (w : World) (Bm : Box w mb [.map (some b)] 69) (Hm : HoldsMap eW eT okW w b E) :
    Calls Try.prog 24 #[.pointer (some ⟨mb, 0, none⟩), .agg #[.int .i64 T.A.x, .int .i64 T.A.y, .int .i64 T.B.x, .int .i64 T.B.y, .int .i64 T.C.x, .int .i64 T.C.y]] w fun e w' => e = .returned (.bool (hasE E T)) ∧ Below w.heap.size w w' := by
  cases h : getE E (T.A, T.B) with
  | none => rw [show hasE E T = false by unfold hasE; rw [h]]; exact rmhas_0 mb b E T h hk w Bm Hm
  | some S => rw [show hasE E T = teq S T by unfold hasE; rw [h]]; exact rmhas_1 mb b E T S h hk w Bm Hm
theorem toExtD {P : Program} {f : FuncId} {args : Array Value} {v : Value} {W : World} (c : ∀ d os, Calls P f args (grow (redrawn W d) os) fun e w' => e = .returned v ∧ Below (grow (redrawn W d) os).heap.size (grow (redrawn W d) os) w') :
    ∀ d os, Calls P f args (grow (redrawn W d) os) fun e w' => e = .returned v ∧ Ext (grow (redrawn W d) os) w' := c
set_option maxRecDepth 100000 in
set_option maxHeartbeats 1000000 in
theorem racross_1 (mb b : Nat) (E : Es) (T : Tri3) (i : Int) (hk : okT T) (hi0 : 0 ≤ i) (hi1 : i ≤ 100) (hh : hasE E T = true) (w : World) (Bm : Box w mb [.map (some b)] 69) (Hm : HoldsMap eW eT okW w b E) :
    Calls Try.prog 46 #[.pointer (some ⟨mb, 0, none⟩), .agg #[.int .i64 T.A.x, .int .i64 T.A.y, .int .i64 T.B.x, .int .i64 T.B.y, .int .i64 T.C.x, .int .i64 T.C.y], .int .i64 i] w fun e w' => e = .returned (.tuple #[eT (lftE E (crn T (i + 1)) (crn T i)).1, .bool (lftE E (crn T (i + 1)) (crn T i)).2]) ∧ Below w.heap.size w w' := by
  have ch := rmhas_any mb b E T hk
  rw [hh] at ch
  clear hh
  have cl0 := rleft_any mb b E (crn T (i + 1)) (crn T i) ⟨okP_crn hk _, okP_crn hk _⟩
  have c1 := rcorner_any T i
  have c2 := rcorner_any T (i + 1)
  have hi : IntKind.i64.wrap (i + 1) = i + 1 := by rw [IntKind.wrap_i64]; omega
  generalize lftE E (crn T (i + 1)) (crn T i) = sv at *
  obtain ⟨S, v⟩ := sv
  dsimp only at *
  generalize crn T i = P at *
  generalize crn T (i + 1) = Q at *
  clear hi0 hi1
  go_enter Try.func46, Try.ntmps46
  go_wp2_with fail
  refine at_call fun W1 hW => ?_
  have Bt : Box W1 (w.heap.size) [.int .i64 T.A.x, .int .i64 T.A.y, .int .i64 T.B.x, .int .i64 T.B.y, .int .i64 T.C.x, .int .i64 T.C.y] 25 := by rw [hW]; exact (Box.new rfl).old _
  have Br : Box W1 (w.heap.size + 1) [.int .i64 0, .int .i64 0, .int .i64 0, .int .i64 0, .int .i64 0, .int .i64 0] 25 := by rw [hW]; exact Box.new (by simp)
  have hw : Below w.heap.size w W1 := by rw [hW]; go_grown
  clear hW
  refine (ch _ (Bm.ext hw rfl) (Hm.ext hw rfl)).mono ?_
  rintro e w2 ⟨rfl, hb⟩
  replace Bt := Bt.ext hb rfl
  replace Br := Br.ext hb rfl
  replace hw := hw.trans (hb.mono hw.size)
  clear hb
  obtain ⟨xt, yt, zt, vt⟩ := Bt.facts
  obtain ⟨xr, yr, zr, vr⟩ := Br.facts
  go_wp2_with fail
  refine at_world fun W3 hW => ?_
  replace hw : Below w.heap.size w W3 := by rw [hW]; exact hw
  replace Bt : Box W3 (w.heap.size) [.int .i64 T.A.x, .int .i64 T.A.y, .int .i64 T.B.x, .int .i64 T.B.y, .int .i64 T.C.x, .int .i64 T.C.y] 25 := by rw [hW]; exact Bt
  replace Br : Box W3 (w.heap.size + 1) [.int .i64 0, .int .i64 0, .int .i64 0, .int .i64 0, .int .i64 0, .int .i64 0] 25 := by rw [hW]; exact Br
  clear hW
  clear xt yt zt vt xr yr zr vr
  have cl : ∀ d os, Calls Try.prog 21 #[.pointer (some ⟨mb, 0, none⟩), .agg #[.int .i64 Q.x, .int .i64 Q.y], .agg #[.int .i64 P.x, .int .i64 P.y]] (grow (redrawn W3 d) os) fun e w' => e = .returned (.tuple #[.agg #[.int .i64 S.A.x, .int .i64 S.A.y, .int .i64 S.B.x, .int .i64 S.B.y, .int .i64 S.C.x, .int .i64 S.C.y], .bool v]) ∧ Below (grow (redrawn W3 d) os).heap.size (grow (redrawn W3 d) os) w' := fun d os => cl0 _ ((Bm.ext hw rfl).ext (below_regrown W3 d os) rfl) ((Hm.ext hw rfl).ext (below_regrown W3 d os) rfl)
  have gt := Bt.cells
  have gr := Br.cells
  refine wp_region_tail 11 (by kernel_rfl) (by kernel_rfl) (C := fun w' => ∃ p : Regrown, w' = grow (redrawn W3 p.d) p.os) (fun w' h => regrown_of_below h) ?_
  simp only [List.take_succ_cons, List.take_zero, List.drop_succ_cons, List.drop_zero]
  repeat (first | (refine rWalk_skip (Eq.refl false) ?_; simp only [Act.put, List.setIfInBounds_toArray, List.set_cons_succ, List.set_cons_zero]) | (refine rWalk_step (fun K hK => ?_); go_simp; first | (refine hK _ ?_; clear hK K) | (apply Exists.intro; refine ⟨fun _ => ?_, hK _ ?_⟩; (first | with_reducible exact toExt c2 _ | with_reducible exact toExt c1 _ | with_reducible exact toExtD cl _ _); clear hK K)))
  refine rWalk_nil ?_
  intro w4 hb
  clear gt gr
  replace Bt := Bt.ext hb rfl
  replace Br := Br.ext hb rfl
  replace hw := hw.trans (hb.mono hw.size)
  obtain ⟨xt, yt, zt, vt⟩ := Bt.facts
  obtain ⟨xr, yr, zr, vr⟩ := Br.facts
  go_wp2_with fail
  refine bodyPost_ret (v := .tuple #[.agg #[.int .i64 S.A.x, .int .i64 S.A.y, .int .i64 S.B.x, .int .i64 S.B.y, .int .i64 S.C.x, .int .i64 S.C.y], .bool v]) (by simp [results, Try.results46, go_sem, xr]) rfl ⟨rfl, by have hl := hw.size; go_grown⟩

set_option maxRecDepth 100000 in
set_option maxHeartbeats 1000000 in
theorem racross_0 (mb b : Nat) (E : Es) (T : Tri3) (i : Int) (hk : okT T) (hh : hasE E T = false) (w : World) (Bm : Box w mb [.map (some b)] 69) (Hm : HoldsMap eW eT okW w b E) :
    Calls Try.prog 46 #[.pointer (some ⟨mb, 0, none⟩), .agg #[.int .i64 T.A.x, .int .i64 T.A.y, .int .i64 T.B.x, .int .i64 T.B.y, .int .i64 T.C.x, .int .i64 T.C.y], .int .i64 i] w fun e w' => e = .returned (.tuple #[.agg #[.int .i64 0, .int .i64 0, .int .i64 0, .int .i64 0, .int .i64 0, .int .i64 0], .bool false]) ∧ Below w.heap.size w w' := by
  have ch := rmhas_any mb b E T hk
  rw [hh] at ch
  clear hh
  go_enter Try.func46, Try.ntmps46
  go_wp2_with fail
  refine at_call fun W1 hW => ?_
  have Bt : Box W1 (w.heap.size) [.int .i64 T.A.x, .int .i64 T.A.y, .int .i64 T.B.x, .int .i64 T.B.y, .int .i64 T.C.x, .int .i64 T.C.y] 25 := by rw [hW]; exact (Box.new rfl).old _
  have Br : Box W1 (w.heap.size + 1) [.int .i64 0, .int .i64 0, .int .i64 0, .int .i64 0, .int .i64 0, .int .i64 0] 25 := by rw [hW]; exact Box.new (by simp)
  have hw : Below w.heap.size w W1 := by rw [hW]; go_grown
  clear hW
  refine (ch _ (Bm.ext hw rfl) (Hm.ext hw rfl)).mono ?_
  rintro e w2 ⟨rfl, hb⟩
  replace Bt := Bt.ext hb rfl
  replace Br := Br.ext hb rfl
  replace hw := hw.trans (hb.mono hw.size)
  clear hb
  obtain ⟨xt, yt, zt, vt⟩ := Bt.facts
  obtain ⟨xr, yr, zr, vr⟩ := Br.facts
  go_wp2_with fail
  refine bodyPost_ret (v := .tuple #[.agg #[.int .i64 0, .int .i64 0, .int .i64 0, .int .i64 0, .int .i64 0, .int .i64 0], .bool false]) (by simp [results, Try.results46, go_sem, xr]) rfl ⟨rfl, by have hl := hw.size; go_grown⟩

theorem racross_any (mb b : Nat) (E : Es) (T : Tri3) (i : Int) (hk : okT T) (hi0 : 0 ≤ i) (hi1 : i ≤ 100) (w : World) (Bm : Box w mb [.map (some b)] 69) (Hm : HoldsMap eW eT okW w b E) :
    Calls Try.prog 46 #[.pointer (some ⟨mb, 0, none⟩), .agg #[.int .i64 T.A.x, .int .i64 T.A.y, .int .i64 T.B.x, .int .i64 T.B.y, .int .i64 T.C.x, .int .i64 T.C.y], .int .i64 i] w fun e w' => e = .returned (.tuple #[eT (acrE E T i).1, .bool (acrE E T i).2]) ∧ Below w.heap.size w w' := by
  unfold acrE
  cases hh : hasE E T with
  | true => rw [if_pos rfl]; exact racross_1 mb b E T i hk hi0 hi1 hh w Bm Hm
  | false => rw [if_neg (by decide)]; exact racross_0 mb b E T i hk hh w Bm Hm
end Go.Proofs.Ytaegobkkcgheeaa
