/- Put together: MesC, MesD, MesE, MesF, MesU. -/
import Derived.Test.YtmobnmjjmafibaaGreatRows
import Derived.Test.YtmobnmjjmafibaaGreatPum5
import Derived.Test.YtmobnmjjmafibaaGreatPum0
import Derived.WalkKit
import Derived.WalkSpells
import Derived.WalkLawsBesides
import Derived.Laws.Externs
import Derived.Deep.QuietTactic
import Derived.BigQuiet
import Derived.Lib.Hide
import Derived.Handy
import Derived.LoopN
import Derived.RegionTactic
import Derived.Laws.Cover3
import Derived.Maps.OwnSet
import Derived.Maps.OwnOps
set_option maxRecDepth 100000
set_option maxHeartbeats 8000000
namespace Go.Proofs.YtmobnmjjmafibaaGreat
open Go.RowKit Go.Sort
attribute [local go_sem] rOper rAt rUpon cell_set sg_i64 sg_u64 alloc_cell alloc_frozen
attribute [local go_sem 10000] pt_eql pt_neq tri_eql
attribute [local irreducible] rWalk
def hasE (E : List ((Pt × Pt) × Tri3)) (T : Tri3) : Bool := match getE E (T.A, T.B) with | some s => teq s T | none => false
def fitsE (E : List ((Pt × Pt) × Tri3)) (T : Tri3) : Bool := (getE E (T.A, T.B)).isNone && ((getE E (T.B, T.C)).isNone && ((getE E (T.C, T.A)).isNone && valT T))
theorem okT_w {T : Tri3} (h : okT T) : okW (T.A, T.B) ∧ okW (T.B, T.C) ∧ okW (T.C, T.A) := ⟨⟨h.1, h.2.1⟩, ⟨h.2.1, h.2.2⟩, ⟨h.2.2, h.1⟩⟩
theorem way_0 (T : Tri3) (w : World) : Calls Tryz.prog 116 #[.agg #[.int .i64 T.A.x, .int .i64 T.A.y, .int .i64 T.B.x, .int .i64 T.B.y, .int .i64 T.C.x, .int .i64 T.C.y], .int .i64 0] w fun e w' => e = .returned (.agg #[.int .i64 T.A.x, .int .i64 T.A.y, .int .i64 T.B.x, .int .i64 T.B.y]) ∧ Below w.heap.size w w' := zI5 T 0 w
theorem way_1 (T : Tri3) (w : World) : Calls Tryz.prog 116 #[.agg #[.int .i64 T.A.x, .int .i64 T.A.y, .int .i64 T.B.x, .int .i64 T.B.y, .int .i64 T.C.x, .int .i64 T.C.y], .int .i64 1] w fun e w' => e = .returned (.agg #[.int .i64 T.B.x, .int .i64 T.B.y, .int .i64 T.C.x, .int .i64 T.C.y]) ∧ Below w.heap.size w w' := zI5 T 1 w
theorem way_2 (T : Tri3) (w : World) : Calls Tryz.prog 116 #[.agg #[.int .i64 T.A.x, .int .i64 T.A.y, .int .i64 T.B.x, .int .i64 T.B.y, .int .i64 T.C.x, .int .i64 T.C.y], .int .i64 2] w fun e w' => e = .returned (.agg #[.int .i64 T.C.x, .int .i64 T.C.y, .int .i64 T.A.x, .int .i64 T.A.y]) ∧ Below w.heap.size w w' := zI5 T 2 w
theorem mhas_1 (mb b : Nat) (E : List ((Pt × Pt) × Tri3)) (T : Tri3) (S : Tri3) (hg : getE E (T.A, T.B) = some S) (hk : okT T) (w : World) (Bm : Box w mb [.map (some b)] 89) (Hm : HoldsMap eW eT okW w b E) :
    Calls Tryz.prog 37 #[.pointer (some ⟨mb, 0, none⟩), .agg #[.int .i64 T.A.x, .int .i64 T.A.y, .int .i64 T.B.x, .int .i64 T.B.y, .int .i64 T.C.x, .int .i64 T.C.y]] w fun e w' => e = .returned (.bool (teq S T)) ∧ Below w.heap.size w w' := by
 go_enter Tryz.func37, Tryz.ntmps37
 go_wp2_with fail
 refine zA1 fun W1 hW => ?_
 have Bt : Box W1 (w.heap.size) [.int .i64 T.A.x, .int .i64 T.A.y, .int .i64 T.B.x, .int .i64 T.B.y, .int .i64 T.C.x, .int .i64 T.C.y] 38 := by rw [hW]; exact Box.new rfl
 have hw : Below w.heap.size w W1 := by rw [hW]; go_grown
 clear hW
 refine (zJ7 mb b E T.A T.B S hg (okT_w hk).1 _ (Bm.ee hw) (Hm.ee hw)).mono ?_
 rintro e w2 ⟨rfl, hb⟩
 replace Bt := Bt.ee hb
 replace hw := upB hw hb
 clear hb
 clear hg hk
 have Ft := Bt.facts
 go_wp2
 go_ret
 exact ⟨rfl, by have hl := hw.size; go_grown⟩
theorem mhas_0 (mb b : Nat) (E : List ((Pt × Pt) × Tri3)) (T : Tri3) (hg : getE E (T.A, T.B) = none) (hk : okT T) (w : World) (Bm : Box w mb [.map (some b)] 89) (Hm : HoldsMap eW eT okW w b E) :
    Calls Tryz.prog 37 #[.pointer (some ⟨mb, 0, none⟩), .agg #[.int .i64 T.A.x, .int .i64 T.A.y, .int .i64 T.B.x, .int .i64 T.B.y, .int .i64 T.C.x, .int .i64 T.C.y]] w fun e w' => e = .returned (.bool false) ∧ Below w.heap.size w w' := by
 go_enter Tryz.func37, Tryz.ntmps37
 go_wp2_with fail
 refine zA1 fun W1 hW => ?_
 have Bt : Box W1 (w.heap.size) [.int .i64 T.A.x, .int .i64 T.A.y, .int .i64 T.B.x, .int .i64 T.B.y, .int .i64 T.C.x, .int .i64 T.C.y] 38 := by rw [hW]; exact Box.new rfl
 have hw : Below w.heap.size w W1 := by rw [hW]; go_grown
 clear hW
 refine (zJv mb b E T.A T.B hg (okT_w hk).1 _ (Bm.ee hw) (Hm.ee hw)).mono ?_
 rintro e w2 ⟨rfl, hb⟩
 replace Bt := Bt.ee hb
 replace hw := upB hw hb
 clear hb
 clear hg hk
 have Ft := Bt.facts
 go_wp2
 go_ret
 exact ⟨rfl, by have hl := hw.size; go_grown⟩
theorem zD1 (mb b : Nat) (E : List ((Pt × Pt) × Tri3)) (T : Tri3) (hk : okT T) (w : World) (Bm : Box w mb [.map (some b)] 89) (Hm : HoldsMap eW eT okW w b E) :
    Calls Tryz.prog 37 #[.pointer (some ⟨mb, 0, none⟩), .agg #[.int .i64 T.A.x, .int .i64 T.A.y, .int .i64 T.B.x, .int .i64 T.B.y, .int .i64 T.C.x, .int .i64 T.C.y]] w fun e w' => e = .returned (.bool (hasE E T)) ∧ Below w.heap.size w w' := by
 cases h : getE E (T.A, T.B) with
 | none => rw [show hasE E T = false by unfold hasE; rw [h]]; exact mhas_0 mb b E T h hk w Bm Hm
 | some S => rw [show hasE E T = teq S T by unfold hasE; rw [h]]; exact mhas_1 mb b E T S h hk w Bm Hm
theorem fits_0 (mb b : Nat) (E : List ((Pt × Pt) × Tri3)) (T : Tri3) (S : Tri3) (hg0 : getE E (T.A, T.B) = some S) (hk : okT T) (w : World) (Bm : Box w mb [.map (some b)] 89) (Hm : HoldsMap eW eT okW w b E) :
    Calls Tryz.prog 115 #[.pointer (some ⟨mb, 0, none⟩), .agg #[.int .i64 T.A.x, .int .i64 T.A.y, .int .i64 T.B.x, .int .i64 T.B.y, .int .i64 T.C.x, .int .i64 T.C.y]] w fun e w' => e = .returned (.bool false) ∧ Below w.heap.size w w' := by
 go_enter Tryz.func115, Tryz.ntmps115
 go_wp2_with fail
 refine zA2 fun W1 hW => ?_
 have Bt : Box W1 (w.heap.size) [.int .i64 T.A.x, .int .i64 T.A.y, .int .i64 T.B.x, .int .i64 T.B.y, .int .i64 T.C.x, .int .i64 T.C.y] 38 := by rw [hW]; exact Box.new rfl
 have hw : Below w.heap.size w W1 := by rw [hW]; go_grown
 clear hW
 have BM : Box W1 (mb) [.map (some b)] 89 := Bm.ee hw
 refine wp_loop_rounds 5 ?_
 try rw [rounds_succ]
 have Ft := Bt.facts
 have FM := BM.facts
 go_wp2_with fail
 have hl : ∀ d os, (Instr.lookup 87 (.map (some b)) (.agg #[.int .i64 T.A.x, .int .i64 T.A.y, .int .i64 T.B.x, .int .i64 T.B.y]) true).run Tryz.prog (grow (redrawn W1 d) os) = .ok (.tuple #[.agg #[.int .i64 S.A.x, .int .i64 S.A.y, .int .i64 S.B.x, .int .i64 S.B.y, .int .i64 S.C.x, .int .i64 S.C.y], .bool true]) (grow (redrawn W1 d) os) := fun d os => ((Hm.ee hw).ext (below_regrown W1 d os) rfl).look_some kvM zAm (okT_w hk).1 hg0
 clear hg0
 have gt := Bt.cells
 have gM := BM.cells
 refine zA3 11 6 20 [.int .i64 S.A.x, .int .i64 S.A.y, .int .i64 S.B.x, .int .i64 S.B.y, .int .i64 S.C.x, .int .i64 S.C.y] (zs := [.int .i64 0, .int .i64 0, .int .i64 0, .int .i64 0, .int .i64 0, .int .i64 0]) (eff := eff6 (.int .i64 S.A.x) (.int .i64 S.A.y) (.int .i64 S.B.x) (.int .i64 S.B.y) (.int .i64 S.C.x) (.int .i64 S.C.y)) zAe rfl rfl rfl rfl rfl rfl rfl (by simp) (fun ρ W => by simp [execOp, go_sem]; rfl) (by kernel_rfl) (by as_aux_lemma => kernel_rfl) (C := fun w' => ∃ p : Regrown, w' = grow (redrawn W1 p.d) p.os) rgB ?_ (fun ρ W b e1 e2 hB => by obtain ⟨x, y, _, _⟩ := hB.facts; simp [execOp, go_sem, e1, e2, x, y, eff6])
 simp only [tK1, tK0, dP1, dP0]
 repeat (first | (refine zA0 (Eq.refl false) ?_; simp only [Act.put, sT2, sT1, sT0]) | (refine rWalk_step (fun K hK => ?_); go_simp; first | (refine hK _ ?_; clear hK K) | (apply Exists.intro; refine ⟨fun _ => ?_, hK _ ?_⟩; (first | with_reducible exact toExt (way_0 T) _); clear hK K)))
 refine rWalk_nil ⟨rfl, ?_⟩
 intro w2 bks0 hb h1b h2b Bs0
 have lts0 := Bt.lt
 have lMs0 := BM.lt
 have hw0z := hw.size
 clear gt gM
 clear Ft FM
 replace Bt := Bt.ee hb
 replace BM := BM.ee hb
 replace hw := upB hw hb
 have fs0 := h1b
 have hwz : w.heap.size ≤ W1.heap.size := hw0z
 clear hb h1b h2b hw0z
 simp only [Act.put]
 clear hl
 have Ft := Bt.facts
 have FM := BM.facts
 have Fs0 := Bs0.facts
 go_wp2
 go_ret
 exact ⟨rfl, hw⟩
theorem fits_1 (mb b : Nat) (E : List ((Pt × Pt) × Tri3)) (T : Tri3) (S : Tri3) (hg0 : getE E (T.A, T.B) = none) (hg1 : getE E (T.B, T.C) = some S) (hk : okT T) (w : World) (Bm : Box w mb [.map (some b)] 89) (Hm : HoldsMap eW eT okW w b E) :
    Calls Tryz.prog 115 #[.pointer (some ⟨mb, 0, none⟩), .agg #[.int .i64 T.A.x, .int .i64 T.A.y, .int .i64 T.B.x, .int .i64 T.B.y, .int .i64 T.C.x, .int .i64 T.C.y]] w fun e w' => e = .returned (.bool false) ∧ Below w.heap.size w w' := by
 go_enter Tryz.func115, Tryz.ntmps115
 go_wp2_with fail
 refine zA2 fun W1 hW => ?_
 have Bt : Box W1 (w.heap.size) [.int .i64 T.A.x, .int .i64 T.A.y, .int .i64 T.B.x, .int .i64 T.B.y, .int .i64 T.C.x, .int .i64 T.C.y] 38 := by rw [hW]; exact Box.new rfl
 have hw : Below w.heap.size w W1 := by rw [hW]; go_grown
 clear hW
 have BM : Box W1 (mb) [.map (some b)] 89 := Bm.ee hw
 refine wp_loop_rounds 5 ?_
 try rw [rounds_succ]
 have Ft := Bt.facts
 have FM := BM.facts
 go_wp2_with fail
 have hl : ∀ d os, (Instr.lookup 87 (.map (some b)) (.agg #[.int .i64 T.A.x, .int .i64 T.A.y, .int .i64 T.B.x, .int .i64 T.B.y]) true).run Tryz.prog (grow (redrawn W1 d) os) = .ok (.tuple #[.agg #[.int .i64 0, .int .i64 0, .int .i64 0, .int .i64 0, .int .i64 0, .int .i64 0], .bool false]) (grow (redrawn W1 d) os) := fun d os => ((Hm.ee hw).ext (below_regrown W1 d os) rfl).look_none kvM zAm (okT_w hk).1 hg0
 clear hg0
 have gt := Bt.cells
 have gM := BM.cells
 refine zA3 11 6 20 [.int .i64 0, .int .i64 0, .int .i64 0, .int .i64 0, .int .i64 0, .int .i64 0] (zs := [.int .i64 0, .int .i64 0, .int .i64 0, .int .i64 0, .int .i64 0, .int .i64 0]) (eff := eff6 (.int .i64 0) (.int .i64 0) (.int .i64 0) (.int .i64 0) (.int .i64 0) (.int .i64 0)) zAe rfl rfl rfl rfl rfl rfl rfl (by simp) (fun ρ W => by simp [execOp, go_sem]; rfl) (by kernel_rfl) (by as_aux_lemma => kernel_rfl) (C := fun w' => ∃ p : Regrown, w' = grow (redrawn W1 p.d) p.os) rgB ?_ (fun ρ W b e1 e2 hB => by obtain ⟨x, y, _, _⟩ := hB.facts; simp [execOp, go_sem, e1, e2, x, y, eff6])
 simp only [tK1, tK0, dP1, dP0]
 repeat (first | (refine zA0 (Eq.refl false) ?_; simp only [Act.put, sT2, sT1, sT0]) | (refine rWalk_step (fun K hK => ?_); go_simp; first | (refine hK _ ?_; clear hK K) | (apply Exists.intro; refine ⟨fun _ => ?_, hK _ ?_⟩; (first | with_reducible exact toExt (way_0 T) _); clear hK K)))
 refine rWalk_nil ⟨rfl, ?_⟩
 intro w2 bks0 hb h1b h2b Bs0
 have lts0 := Bt.lt
 have lMs0 := BM.lt
 have hw0z := hw.size
 clear gt gM
 clear Ft FM
 replace Bt := Bt.ee hb
 replace BM := BM.ee hb
 replace hw := upB hw hb
 have fs0 := h1b
 have hwz : w.heap.size ≤ W1.heap.size := hw0z
 clear hb h1b h2b hw0z
 simp only [Act.put]
 clear hl
 have Ft := Bt.facts
 have FM := BM.facts
 have Fs0 := Bs0.facts
 go_wp2_with fail
 clear Ft FM Fs0
 try rw [rounds_succ]
 have Ft := Bt.facts
 have FM := BM.facts
 have Fs0 := Bs0.facts
 go_wp2_with fail
 refine zA2 fun W3 hW => ?_
 replace hw : Below w.heap.size w W3 := by rw [hW]; exact hw
 replace Bt : Box W3 (w.heap.size) [.int .i64 T.A.x, .int .i64 T.A.y, .int .i64 T.B.x, .int .i64 T.B.y, .int .i64 T.C.x, .int .i64 T.C.y] 38 := by rw [hW]; exact Bt
 replace BM : Box W3 (mb) [.map (some b)] 89 := by rw [hW]; exact BM
 replace Bs0 : Box W3 (bks0) [.int .i64 0, .int .i64 0, .int .i64 0, .int .i64 0, .int .i64 0, .int .i64 0] 38 := by rw [hW]; exact Bs0
 clear hW
 clear Ft FM Fs0
 have hl : ∀ d os, (Instr.lookup 87 (.map (some b)) (.agg #[.int .i64 T.B.x, .int .i64 T.B.y, .int .i64 T.C.x, .int .i64 T.C.y]) true).run Tryz.prog (grow (redrawn W3 d) os) = .ok (.tuple #[.agg #[.int .i64 S.A.x, .int .i64 S.A.y, .int .i64 S.B.x, .int .i64 S.B.y, .int .i64 S.C.x, .int .i64 S.C.y], .bool true]) (grow (redrawn W3 d) os) := fun d os => ((Hm.ee hw).ext (below_regrown W3 d os) rfl).look_some kvM zAm (okT_w hk).2.1 hg1
 clear hg1
 have gt := Bt.cells
 have gM := BM.cells
 have gs0 := Bs0.cells
 refine zA3 11 6 20 [.int .i64 S.A.x, .int .i64 S.A.y, .int .i64 S.B.x, .int .i64 S.B.y, .int .i64 S.C.x, .int .i64 S.C.y] (zs := [.int .i64 0, .int .i64 0, .int .i64 0, .int .i64 0, .int .i64 0, .int .i64 0]) (eff := eff6 (.int .i64 S.A.x) (.int .i64 S.A.y) (.int .i64 S.B.x) (.int .i64 S.B.y) (.int .i64 S.C.x) (.int .i64 S.C.y)) zAe rfl rfl rfl rfl rfl rfl rfl (by simp) (fun ρ W => by simp [execOp, go_sem]; rfl) (by kernel_rfl) (by as_aux_lemma => kernel_rfl) (C := fun w' => ∃ p : Regrown, w' = grow (redrawn W3 p.d) p.os) rgB ?_ (fun ρ W b e1 e2 hB => by obtain ⟨x, y, _, _⟩ := hB.facts; simp [execOp, go_sem, e1, e2, x, y, eff6])
 simp only [tK1, tK0, dP1, dP0]
 repeat (first | (refine zA0 (Eq.refl false) ?_; simp only [Act.put, sT2, sT1, sT0]) | (refine rWalk_step (fun K hK => ?_); go_simp; first | (refine hK _ ?_; clear hK K) | (apply Exists.intro; refine ⟨fun _ => ?_, hK _ ?_⟩; (first | with_reducible exact toExt (way_1 T) _); clear hK K)))
 refine rWalk_nil ⟨rfl, ?_⟩
 intro w4 bks1 hb h1b h2b Bs1
 have lts1 := Bt.lt
 have lMs1 := BM.lt
 have ls0s1 := Bs0.lt
 have hw0z := hw.size
 clear gt gM gs0
 replace Bt := Bt.ee hb
 replace BM := BM.ee hb
 replace Bs0 := Bs0.ee hb
 replace hw := upB hw hb
 have fs1 := h1b
 have hwz : w.heap.size ≤ W3.heap.size := hw0z
 clear hb h1b h2b hw0z
 simp only [Act.put]
 clear hl
 have Ft := Bt.facts
 have FM := BM.facts
 have Fs0 := Bs0.facts
 have Fs1 := Bs1.facts
 go_wp2
 go_ret
 exact ⟨rfl, hw⟩
theorem fits_2 (mb b : Nat) (E : List ((Pt × Pt) × Tri3)) (T : Tri3) (S : Tri3) (hg0 : getE E (T.A, T.B) = none) (hg1 : getE E (T.B, T.C) = none) (hg2 : getE E (T.C, T.A) = some S) (hk : okT T) (w : World) (Bm : Box w mb [.map (some b)] 89) (Hm : HoldsMap eW eT okW w b E) :
    Calls Tryz.prog 115 #[.pointer (some ⟨mb, 0, none⟩), .agg #[.int .i64 T.A.x, .int .i64 T.A.y, .int .i64 T.B.x, .int .i64 T.B.y, .int .i64 T.C.x, .int .i64 T.C.y]] w fun e w' => e = .returned (.bool false) ∧ Below w.heap.size w w' := by
 go_enter Tryz.func115, Tryz.ntmps115
 go_wp2_with fail
 refine zA2 fun W1 hW => ?_
 have Bt : Box W1 (w.heap.size) [.int .i64 T.A.x, .int .i64 T.A.y, .int .i64 T.B.x, .int .i64 T.B.y, .int .i64 T.C.x, .int .i64 T.C.y] 38 := by rw [hW]; exact Box.new rfl
 have hw : Below w.heap.size w W1 := by rw [hW]; go_grown
 clear hW
 have BM : Box W1 (mb) [.map (some b)] 89 := Bm.ee hw
 refine wp_loop_rounds 5 ?_
 try rw [rounds_succ]
 have Ft := Bt.facts
 have FM := BM.facts
 go_wp2_with fail
 have hl : ∀ d os, (Instr.lookup 87 (.map (some b)) (.agg #[.int .i64 T.A.x, .int .i64 T.A.y, .int .i64 T.B.x, .int .i64 T.B.y]) true).run Tryz.prog (grow (redrawn W1 d) os) = .ok (.tuple #[.agg #[.int .i64 0, .int .i64 0, .int .i64 0, .int .i64 0, .int .i64 0, .int .i64 0], .bool false]) (grow (redrawn W1 d) os) := fun d os => ((Hm.ee hw).ext (below_regrown W1 d os) rfl).look_none kvM zAm (okT_w hk).1 hg0
 clear hg0
 have gt := Bt.cells
 have gM := BM.cells
 refine zA3 11 6 20 [.int .i64 0, .int .i64 0, .int .i64 0, .int .i64 0, .int .i64 0, .int .i64 0] (zs := [.int .i64 0, .int .i64 0, .int .i64 0, .int .i64 0, .int .i64 0, .int .i64 0]) (eff := eff6 (.int .i64 0) (.int .i64 0) (.int .i64 0) (.int .i64 0) (.int .i64 0) (.int .i64 0)) zAe rfl rfl rfl rfl rfl rfl rfl (by simp) (fun ρ W => by simp [execOp, go_sem]; rfl) (by kernel_rfl) (by as_aux_lemma => kernel_rfl) (C := fun w' => ∃ p : Regrown, w' = grow (redrawn W1 p.d) p.os) rgB ?_ (fun ρ W b e1 e2 hB => by obtain ⟨x, y, _, _⟩ := hB.facts; simp [execOp, go_sem, e1, e2, x, y, eff6])
 simp only [tK1, tK0, dP1, dP0]
 repeat (first | (refine zA0 (Eq.refl false) ?_; simp only [Act.put, sT2, sT1, sT0]) | (refine rWalk_step (fun K hK => ?_); go_simp; first | (refine hK _ ?_; clear hK K) | (apply Exists.intro; refine ⟨fun _ => ?_, hK _ ?_⟩; (first | with_reducible exact toExt (way_0 T) _); clear hK K)))
 refine rWalk_nil ⟨rfl, ?_⟩
 intro w2 bks0 hb h1b h2b Bs0
 have lts0 := Bt.lt
 have lMs0 := BM.lt
 have hw0z := hw.size
 clear gt gM
 clear Ft FM
 replace Bt := Bt.ee hb
 replace BM := BM.ee hb
 replace hw := upB hw hb
 have fs0 := h1b
 have hwz : w.heap.size ≤ W1.heap.size := hw0z
 clear hb h1b h2b hw0z
 simp only [Act.put]
 clear hl
 have Ft := Bt.facts
 have FM := BM.facts
 have Fs0 := Bs0.facts
 go_wp2_with fail
 clear Ft FM Fs0
 try rw [rounds_succ]
 have Ft := Bt.facts
 have FM := BM.facts
 have Fs0 := Bs0.facts
 go_wp2_with fail
 refine zA2 fun W3 hW => ?_
 replace hw : Below w.heap.size w W3 := by rw [hW]; exact hw
 replace Bt : Box W3 (w.heap.size) [.int .i64 T.A.x, .int .i64 T.A.y, .int .i64 T.B.x, .int .i64 T.B.y, .int .i64 T.C.x, .int .i64 T.C.y] 38 := by rw [hW]; exact Bt
 replace BM : Box W3 (mb) [.map (some b)] 89 := by rw [hW]; exact BM
 replace Bs0 : Box W3 (bks0) [.int .i64 0, .int .i64 0, .int .i64 0, .int .i64 0, .int .i64 0, .int .i64 0] 38 := by rw [hW]; exact Bs0
 clear hW
 clear Ft FM Fs0
 have hl : ∀ d os, (Instr.lookup 87 (.map (some b)) (.agg #[.int .i64 T.B.x, .int .i64 T.B.y, .int .i64 T.C.x, .int .i64 T.C.y]) true).run Tryz.prog (grow (redrawn W3 d) os) = .ok (.tuple #[.agg #[.int .i64 0, .int .i64 0, .int .i64 0, .int .i64 0, .int .i64 0, .int .i64 0], .bool false]) (grow (redrawn W3 d) os) := fun d os => ((Hm.ee hw).ext (below_regrown W3 d os) rfl).look_none kvM zAm (okT_w hk).2.1 hg1
 clear hg1
 have gt := Bt.cells
 have gM := BM.cells
 have gs0 := Bs0.cells
 refine zA3 11 6 20 [.int .i64 0, .int .i64 0, .int .i64 0, .int .i64 0, .int .i64 0, .int .i64 0] (zs := [.int .i64 0, .int .i64 0, .int .i64 0, .int .i64 0, .int .i64 0, .int .i64 0]) (eff := eff6 (.int .i64 0) (.int .i64 0) (.int .i64 0) (.int .i64 0) (.int .i64 0) (.int .i64 0)) zAe rfl rfl rfl rfl rfl rfl rfl (by simp) (fun ρ W => by simp [execOp, go_sem]; rfl) (by kernel_rfl) (by as_aux_lemma => kernel_rfl) (C := fun w' => ∃ p : Regrown, w' = grow (redrawn W3 p.d) p.os) rgB ?_ (fun ρ W b e1 e2 hB => by obtain ⟨x, y, _, _⟩ := hB.facts; simp [execOp, go_sem, e1, e2, x, y, eff6])
 simp only [tK1, tK0, dP1, dP0]
 repeat (first | (refine zA0 (Eq.refl false) ?_; simp only [Act.put, sT2, sT1, sT0]) | (refine rWalk_step (fun K hK => ?_); go_simp; first | (refine hK _ ?_; clear hK K) | (apply Exists.intro; refine ⟨fun _ => ?_, hK _ ?_⟩; (first | with_reducible exact toExt (way_1 T) _); clear hK K)))
 refine rWalk_nil ⟨rfl, ?_⟩
 intro w4 bks1 hb h1b h2b Bs1
 have lts1 := Bt.lt
 have lMs1 := BM.lt
 have ls0s1 := Bs0.lt
 have hw0z := hw.size
 clear gt gM gs0
 replace Bt := Bt.ee hb
 replace BM := BM.ee hb
 replace Bs0 := Bs0.ee hb
 replace hw := upB hw hb
 have fs1 := h1b
 have hwz : w.heap.size ≤ W3.heap.size := hw0z
 clear hb h1b h2b hw0z
 simp only [Act.put]
 clear hl
 have Ft := Bt.facts
 have FM := BM.facts
 have Fs0 := Bs0.facts
 have Fs1 := Bs1.facts
 go_wp2_with fail
 clear Ft FM Fs0 Fs1
 try rw [rounds_succ]
 have Ft := Bt.facts
 have FM := BM.facts
 have Fs0 := Bs0.facts
 have Fs1 := Bs1.facts
 go_wp2_with fail
 refine zA2 fun W5 hW => ?_
 replace hw : Below w.heap.size w W5 := by rw [hW]; exact hw
 replace Bt : Box W5 (w.heap.size) [.int .i64 T.A.x, .int .i64 T.A.y, .int .i64 T.B.x, .int .i64 T.B.y, .int .i64 T.C.x, .int .i64 T.C.y] 38 := by rw [hW]; exact Bt
 replace BM : Box W5 (mb) [.map (some b)] 89 := by rw [hW]; exact BM
 replace Bs0 : Box W5 (bks0) [.int .i64 0, .int .i64 0, .int .i64 0, .int .i64 0, .int .i64 0, .int .i64 0] 38 := by rw [hW]; exact Bs0
 replace Bs1 : Box W5 (bks1) [.int .i64 0, .int .i64 0, .int .i64 0, .int .i64 0, .int .i64 0, .int .i64 0] 38 := by rw [hW]; exact Bs1
 clear hW
 clear Ft FM Fs0 Fs1
 have hl : ∀ d os, (Instr.lookup 87 (.map (some b)) (.agg #[.int .i64 T.C.x, .int .i64 T.C.y, .int .i64 T.A.x, .int .i64 T.A.y]) true).run Tryz.prog (grow (redrawn W5 d) os) = .ok (.tuple #[.agg #[.int .i64 S.A.x, .int .i64 S.A.y, .int .i64 S.B.x, .int .i64 S.B.y, .int .i64 S.C.x, .int .i64 S.C.y], .bool true]) (grow (redrawn W5 d) os) := fun d os => ((Hm.ee hw).ext (below_regrown W5 d os) rfl).look_some kvM zAm (okT_w hk).2.2 hg2
 clear hg2
 have gt := Bt.cells
 have gM := BM.cells
 have gs0 := Bs0.cells
 have gs1 := Bs1.cells
 refine zA3 11 6 20 [.int .i64 S.A.x, .int .i64 S.A.y, .int .i64 S.B.x, .int .i64 S.B.y, .int .i64 S.C.x, .int .i64 S.C.y] (zs := [.int .i64 0, .int .i64 0, .int .i64 0, .int .i64 0, .int .i64 0, .int .i64 0]) (eff := eff6 (.int .i64 S.A.x) (.int .i64 S.A.y) (.int .i64 S.B.x) (.int .i64 S.B.y) (.int .i64 S.C.x) (.int .i64 S.C.y)) zAe rfl rfl rfl rfl rfl rfl rfl (by simp) (fun ρ W => by simp [execOp, go_sem]; rfl) (by kernel_rfl) (by as_aux_lemma => kernel_rfl) (C := fun w' => ∃ p : Regrown, w' = grow (redrawn W5 p.d) p.os) rgB ?_ (fun ρ W b e1 e2 hB => by obtain ⟨x, y, _, _⟩ := hB.facts; simp [execOp, go_sem, e1, e2, x, y, eff6])
 simp only [tK1, tK0, dP1, dP0]
 repeat (first | (refine zA0 (Eq.refl false) ?_; simp only [Act.put, sT2, sT1, sT0]) | (refine rWalk_step (fun K hK => ?_); go_simp; first | (refine hK _ ?_; clear hK K) | (apply Exists.intro; refine ⟨fun _ => ?_, hK _ ?_⟩; (first | with_reducible exact toExt (way_2 T) _); clear hK K)))
 refine rWalk_nil ⟨rfl, ?_⟩
 intro w6 bks2 hb h1b h2b Bs2
 have lts2 := Bt.lt
 have lMs2 := BM.lt
 have ls0s2 := Bs0.lt
 have ls1s2 := Bs1.lt
 have hw0z := hw.size
 clear gt gM gs0 gs1
 replace Bt := Bt.ee hb
 replace BM := BM.ee hb
 replace Bs0 := Bs0.ee hb
 replace Bs1 := Bs1.ee hb
 replace hw := upB hw hb
 have fs2 := h1b
 have hwz : w.heap.size ≤ W5.heap.size := hw0z
 clear hb h1b h2b hw0z
 simp only [Act.put]
 clear hl
 have Ft := Bt.facts
 have FM := BM.facts
 have Fs0 := Bs0.facts
 have Fs1 := Bs1.facts
 have Fs2 := Bs2.facts
 go_wp2
 go_ret
 exact ⟨rfl, hw⟩
theorem fits_3 (mb b : Nat) (E : List ((Pt × Pt) × Tri3)) (T : Tri3) (hg0 : getE E (T.A, T.B) = none) (hg1 : getE E (T.B, T.C) = none) (hg2 : getE E (T.C, T.A) = none) (hk : okT T) (w : World) (Bm : Box w mb [.map (some b)] 89) (Hm : HoldsMap eW eT okW w b E) :
    Calls Tryz.prog 115 #[.pointer (some ⟨mb, 0, none⟩), .agg #[.int .i64 T.A.x, .int .i64 T.A.y, .int .i64 T.B.x, .int .i64 T.B.y, .int .i64 T.C.x, .int .i64 T.C.y]] w fun e w' => e = .returned (.bool (valT T)) ∧ Below w.heap.size w w' := by
 have cv := zB1 T
 generalize valT T = v at *
 go_enter Tryz.func115, Tryz.ntmps115
 go_wp2_with fail
 refine zA2 fun W1 hW => ?_
 have Bt : Box W1 (w.heap.size) [.int .i64 T.A.x, .int .i64 T.A.y, .int .i64 T.B.x, .int .i64 T.B.y, .int .i64 T.C.x, .int .i64 T.C.y] 38 := by rw [hW]; exact Box.new rfl
 have hw : Below w.heap.size w W1 := by rw [hW]; go_grown
 clear hW
 have BM : Box W1 (mb) [.map (some b)] 89 := Bm.ee hw
 refine wp_loop_rounds 5 ?_
 try rw [rounds_succ]
 have Ft := Bt.facts
 have FM := BM.facts
 go_wp2_with fail
 have hl : ∀ d os, (Instr.lookup 87 (.map (some b)) (.agg #[.int .i64 T.A.x, .int .i64 T.A.y, .int .i64 T.B.x, .int .i64 T.B.y]) true).run Tryz.prog (grow (redrawn W1 d) os) = .ok (.tuple #[.agg #[.int .i64 0, .int .i64 0, .int .i64 0, .int .i64 0, .int .i64 0, .int .i64 0], .bool false]) (grow (redrawn W1 d) os) := fun d os => ((Hm.ee hw).ext (below_regrown W1 d os) rfl).look_none kvM zAm (okT_w hk).1 hg0
 clear hg0
 have gt := Bt.cells
 have gM := BM.cells
 refine zA3 11 6 20 [.int .i64 0, .int .i64 0, .int .i64 0, .int .i64 0, .int .i64 0, .int .i64 0] (zs := [.int .i64 0, .int .i64 0, .int .i64 0, .int .i64 0, .int .i64 0, .int .i64 0]) (eff := eff6 (.int .i64 0) (.int .i64 0) (.int .i64 0) (.int .i64 0) (.int .i64 0) (.int .i64 0)) zAe rfl rfl rfl rfl rfl rfl rfl (by simp) (fun ρ W => by simp [execOp, go_sem]; rfl) (by kernel_rfl) (by as_aux_lemma => kernel_rfl) (C := fun w' => ∃ p : Regrown, w' = grow (redrawn W1 p.d) p.os) rgB ?_ (fun ρ W b e1 e2 hB => by obtain ⟨x, y, _, _⟩ := hB.facts; simp [execOp, go_sem, e1, e2, x, y, eff6])
 simp only [tK1, tK0, dP1, dP0]
 repeat (first | (refine zA0 (Eq.refl false) ?_; simp only [Act.put, sT2, sT1, sT0]) | (refine rWalk_step (fun K hK => ?_); go_simp; first | (refine hK _ ?_; clear hK K) | (apply Exists.intro; refine ⟨fun _ => ?_, hK _ ?_⟩; (first | with_reducible exact toExt (way_0 T) _); clear hK K)))
 refine rWalk_nil ⟨rfl, ?_⟩
 intro w2 bks0 hb h1b h2b Bs0
 have lts0 := Bt.lt
 have lMs0 := BM.lt
 have hw0z := hw.size
 clear gt gM
 clear Ft FM
 replace Bt := Bt.ee hb
 replace BM := BM.ee hb
 replace hw := upB hw hb
 have fs0 := h1b
 have hwz : w.heap.size ≤ W1.heap.size := hw0z
 clear hb h1b h2b hw0z
 simp only [Act.put]
 clear hl
 have Ft := Bt.facts
 have FM := BM.facts
 have Fs0 := Bs0.facts
 go_wp2_with fail
 clear Ft FM Fs0
 try rw [rounds_succ]
 have Ft := Bt.facts
 have FM := BM.facts
 have Fs0 := Bs0.facts
 go_wp2_with fail
 refine zA2 fun W3 hW => ?_
 replace hw : Below w.heap.size w W3 := by rw [hW]; exact hw
 replace Bt : Box W3 (w.heap.size) [.int .i64 T.A.x, .int .i64 T.A.y, .int .i64 T.B.x, .int .i64 T.B.y, .int .i64 T.C.x, .int .i64 T.C.y] 38 := by rw [hW]; exact Bt
 replace BM : Box W3 (mb) [.map (some b)] 89 := by rw [hW]; exact BM
 replace Bs0 : Box W3 (bks0) [.int .i64 0, .int .i64 0, .int .i64 0, .int .i64 0, .int .i64 0, .int .i64 0] 38 := by rw [hW]; exact Bs0
 clear hW
 clear Ft FM Fs0
 have hl : ∀ d os, (Instr.lookup 87 (.map (some b)) (.agg #[.int .i64 T.B.x, .int .i64 T.B.y, .int .i64 T.C.x, .int .i64 T.C.y]) true).run Tryz.prog (grow (redrawn W3 d) os) = .ok (.tuple #[.agg #[.int .i64 0, .int .i64 0, .int .i64 0, .int .i64 0, .int .i64 0, .int .i64 0], .bool false]) (grow (redrawn W3 d) os) := fun d os => ((Hm.ee hw).ext (below_regrown W3 d os) rfl).look_none kvM zAm (okT_w hk).2.1 hg1
 clear hg1
 have gt := Bt.cells
 have gM := BM.cells
 have gs0 := Bs0.cells
 refine zA3 11 6 20 [.int .i64 0, .int .i64 0, .int .i64 0, .int .i64 0, .int .i64 0, .int .i64 0] (zs := [.int .i64 0, .int .i64 0, .int .i64 0, .int .i64 0, .int .i64 0, .int .i64 0]) (eff := eff6 (.int .i64 0) (.int .i64 0) (.int .i64 0) (.int .i64 0) (.int .i64 0) (.int .i64 0)) zAe rfl rfl rfl rfl rfl rfl rfl (by simp) (fun ρ W => by simp [execOp, go_sem]; rfl) (by kernel_rfl) (by as_aux_lemma => kernel_rfl) (C := fun w' => ∃ p : Regrown, w' = grow (redrawn W3 p.d) p.os) rgB ?_ (fun ρ W b e1 e2 hB => by obtain ⟨x, y, _, _⟩ := hB.facts; simp [execOp, go_sem, e1, e2, x, y, eff6])
 simp only [tK1, tK0, dP1, dP0]
 repeat (first | (refine zA0 (Eq.refl false) ?_; simp only [Act.put, sT2, sT1, sT0]) | (refine rWalk_step (fun K hK => ?_); go_simp; first | (refine hK _ ?_; clear hK K) | (apply Exists.intro; refine ⟨fun _ => ?_, hK _ ?_⟩; (first | with_reducible exact toExt (way_1 T) _); clear hK K)))
 refine rWalk_nil ⟨rfl, ?_⟩
 intro w4 bks1 hb h1b h2b Bs1
 have lts1 := Bt.lt
 have lMs1 := BM.lt
 have ls0s1 := Bs0.lt
 have hw0z := hw.size
 clear gt gM gs0
 replace Bt := Bt.ee hb
 replace BM := BM.ee hb
 replace Bs0 := Bs0.ee hb
 replace hw := upB hw hb
 have fs1 := h1b
 have hwz : w.heap.size ≤ W3.heap.size := hw0z
 clear hb h1b h2b hw0z
 simp only [Act.put]
 clear hl
 have Ft := Bt.facts
 have FM := BM.facts
 have Fs0 := Bs0.facts
 have Fs1 := Bs1.facts
 go_wp2_with fail
 clear Ft FM Fs0 Fs1
 try rw [rounds_succ]
 have Ft := Bt.facts
 have FM := BM.facts
 have Fs0 := Bs0.facts
 have Fs1 := Bs1.facts
 go_wp2_with fail
 refine zA2 fun W5 hW => ?_
 replace hw : Below w.heap.size w W5 := by rw [hW]; exact hw
 replace Bt : Box W5 (w.heap.size) [.int .i64 T.A.x, .int .i64 T.A.y, .int .i64 T.B.x, .int .i64 T.B.y, .int .i64 T.C.x, .int .i64 T.C.y] 38 := by rw [hW]; exact Bt
 replace BM : Box W5 (mb) [.map (some b)] 89 := by rw [hW]; exact BM
 replace Bs0 : Box W5 (bks0) [.int .i64 0, .int .i64 0, .int .i64 0, .int .i64 0, .int .i64 0, .int .i64 0] 38 := by rw [hW]; exact Bs0
 replace Bs1 : Box W5 (bks1) [.int .i64 0, .int .i64 0, .int .i64 0, .int .i64 0, .int .i64 0, .int .i64 0] 38 := by rw [hW]; exact Bs1
 clear hW
 clear Ft FM Fs0 Fs1
 have hl : ∀ d os, (Instr.lookup 87 (.map (some b)) (.agg #[.int .i64 T.C.x, .int .i64 T.C.y, .int .i64 T.A.x, .int .i64 T.A.y]) true).run Tryz.prog (grow (redrawn W5 d) os) = .ok (.tuple #[.agg #[.int .i64 0, .int .i64 0, .int .i64 0, .int .i64 0, .int .i64 0, .int .i64 0], .bool false]) (grow (redrawn W5 d) os) := fun d os => ((Hm.ee hw).ext (below_regrown W5 d os) rfl).look_none kvM zAm (okT_w hk).2.2 hg2
 clear hg2
 have gt := Bt.cells
 have gM := BM.cells
 have gs0 := Bs0.cells
 have gs1 := Bs1.cells
 refine zA3 11 6 20 [.int .i64 0, .int .i64 0, .int .i64 0, .int .i64 0, .int .i64 0, .int .i64 0] (zs := [.int .i64 0, .int .i64 0, .int .i64 0, .int .i64 0, .int .i64 0, .int .i64 0]) (eff := eff6 (.int .i64 0) (.int .i64 0) (.int .i64 0) (.int .i64 0) (.int .i64 0) (.int .i64 0)) zAe rfl rfl rfl rfl rfl rfl rfl (by simp) (fun ρ W => by simp [execOp, go_sem]; rfl) (by kernel_rfl) (by as_aux_lemma => kernel_rfl) (C := fun w' => ∃ p : Regrown, w' = grow (redrawn W5 p.d) p.os) rgB ?_ (fun ρ W b e1 e2 hB => by obtain ⟨x, y, _, _⟩ := hB.facts; simp [execOp, go_sem, e1, e2, x, y, eff6])
 simp only [tK1, tK0, dP1, dP0]
 repeat (first | (refine zA0 (Eq.refl false) ?_; simp only [Act.put, sT2, sT1, sT0]) | (refine rWalk_step (fun K hK => ?_); go_simp; first | (refine hK _ ?_; clear hK K) | (apply Exists.intro; refine ⟨fun _ => ?_, hK _ ?_⟩; (first | with_reducible exact toExt (way_2 T) _); clear hK K)))
 refine rWalk_nil ⟨rfl, ?_⟩
 intro w6 bks2 hb h1b h2b Bs2
 have lts2 := Bt.lt
 have lMs2 := BM.lt
 have ls0s2 := Bs0.lt
 have ls1s2 := Bs1.lt
 have hw0z := hw.size
 clear gt gM gs0 gs1
 replace Bt := Bt.ee hb
 replace BM := BM.ee hb
 replace Bs0 := Bs0.ee hb
 replace Bs1 := Bs1.ee hb
 replace hw := upB hw hb
 have fs2 := h1b
 have hwz : w.heap.size ≤ W5.heap.size := hw0z
 clear hb h1b h2b hw0z
 simp only [Act.put]
 clear hl
 have Ft := Bt.facts
 have FM := BM.facts
 have Fs0 := Bs0.facts
 have Fs1 := Bs1.facts
 have Fs2 := Bs2.facts
 go_wp2_with fail
 clear Ft FM Fs0 Fs1 Fs2
 try rw [rounds_succ]
 have Ft := Bt.facts
 have FM := BM.facts
 have Fs0 := Bs0.facts
 have Fs1 := Bs1.facts
 have Fs2 := Bs2.facts
 go_wp2_with fail
 refine (cv _).mono ?_
 rintro e w9 ⟨rfl, hb⟩
 replace hw := upB hw hb
 clear Ft FM Fs0 Fs1 Fs2
 clear hb
 go_wp2
 go_ret
 exact ⟨rfl, hw⟩
theorem fits_any (mb b : Nat) (E : List ((Pt × Pt) × Tri3)) (T : Tri3) (hk : okT T) (w : World) (Bm : Box w mb [.map (some b)] 89) (Hm : HoldsMap eW eT okW w b E) :
    Calls Tryz.prog 115 #[.pointer (some ⟨mb, 0, none⟩), .agg #[.int .i64 T.A.x, .int .i64 T.A.y, .int .i64 T.B.x, .int .i64 T.B.y, .int .i64 T.C.x, .int .i64 T.C.y]] w fun e w' => e = .returned (.bool (Option.isNone (getE E (T.A, T.B)) && (Option.isNone (getE E (T.B, T.C)) && (Option.isNone (getE E (T.C, T.A)) && valT T)))) ∧ Below w.heap.size w w' := by
 cases h0 : getE E (T.A, T.B) with
 | some S => exact fits_0 mb b E T S h0 hk w Bm Hm
 | none =>
  cases h1 : getE E (T.B, T.C) with
  | some S => exact fits_1 mb b E T S h0 h1 hk w Bm Hm
  | none =>
   cases h2 : getE E (T.C, T.A) with
   | some S => exact fits_2 mb b E T S h0 h1 h2 hk w Bm Hm
   | none => exact fits_3 mb b E T h0 h1 h2 hk w Bm Hm
theorem zHo (mb b : Nat) (E : List ((Pt × Pt) × Tri3)) (T : Tri3) (hk : okT T) (w : World) (Bm : Box w mb [.map (some b)] 89) (Hm : HoldsMap eW eT okW w b E) :
    Calls Tryz.prog 115 #[.pointer (some ⟨mb, 0, none⟩), .agg #[.int .i64 T.A.x, .int .i64 T.A.y, .int .i64 T.B.x, .int .i64 T.B.y, .int .i64 T.C.x, .int .i64 T.C.y]] w fun e w' => e = .returned (.bool (fitsE E T)) ∧ Below w.heap.size w w' := fits_any mb b E T hk w Bm Hm
end Go.Proofs.YtmobnmjjmafibaaGreat
namespace Go.Proofs.YtmobnmjjmafibaaGreat
open Go.RowKit Go.Sort
theorem zA9 {w w' : World} (h : Below w.heap.size w w') (row : Option Nat) : w.grownBy w' row := ⟨h.os, h.tape, h.output, h.size, fun i hi _ => h.block i hi⟩
theorem zC5 {w w' : World} (h : w.grownBy w' none) : Below w.heap.size w w' := ⟨h.os, h.tape, h.output, h.size, fun i hi => h.block i hi (by simp)⟩
theorem zB9 {B : Nat} {w w' w2 : World} {b : Nat} (h : Below B w w') (hg : w'.grownBy w2 (some b)) (hB : B ≤ w'.heap.size) (hb : B ≤ b) : Below B w w2 :=
 ⟨hg.os.trans h.os, hg.tape.trans h.tape, hg.output.trans h.output, Nat.le_trans h.size hg.size, fun i hi => (hg.block i (by omega) (fun e => by cases e; omega)).trans (h.block i hi)⟩
theorem zA8 {a b c : World} {r : Nat} (h : a.grownBy b (some r)) (k : b.grownBy c (some r)) : a.grownBy c (some r) := h.andThen k (fun _ hj => .inr hj)
theorem zAa {a b c : World} {r : Nat} (h : a.grownBy b (some r)) (k : Below b.heap.size b c) : a.grownBy c (some r) := zA8 h (zA9 k _)
theorem below_then {a b c : World} {r : Nat} (h : Below a.heap.size a b) (k : b.grownBy c (some r)) : a.grownBy c (some r) := zA8 (zA9 h _) k
theorem zBx (w : World) (row : Option Nat) : w.grownBy w row := ⟨rfl, rfl, rfl, Nat.le_refl _, fun _ _ _ => rfl⟩
theorem Box.ne_map {w : World} {x b : Nat} {cs : List Value} {T : TypeId} {E : List ((Pt × Pt) × Tri3)} (h : Box w x cs T) (H : HoldsMap eW eT okW w b E) : x ≠ b := by
 obtain ⟨es, clock, hb, _⟩ := H
 intro e
 unfold Box at h
 rw [e, hb] at h
 cases h
theorem Box.turn {w w' : World} {x b : Nat} {cs : List Value} {T : TypeId} {E : List ((Pt × Pt) × Tri3)} (h : Box w x cs T) (H : HoldsMap eW eT okW w b E) (hg : w.grownBy w' (some b)) : Box w' x cs T := by
 have hne := h.ne_map H
 have hl := h.lt
 unfold Box at *
 rw [hg.block x hl (by simpa using hne)]; exact h
theorem RowAt.turn {α : Type} {c : α → List Value} {k : Nat} {w w' : World} {a : Option Addr} {L : List α} {b : Nat} {E : List ((Pt × Pt) × Tri3)} (h : RowAt c k w a L) (hc : ∀ x, c x ≠ []) (H : HoldsMap eW eT okW w b E) (hg : w.grownBy w' (some b)) : RowAt c k w' a L := fun j x hx => by
 obtain ⟨ad, h1, h2, h3⟩ := h j x hx
 have hne : ad.block ≠ b := by
  obtain ⟨es, clock, hb, _⟩ := H
  cases hcx : c x with
  | nil => exact absurd hcx (hc x)
  | cons v l =>
   have h4 := h3 0 v (by rw [hcx]; rfl)
   intro e
   unfold World.cell? at h4
   rw [zAl, zAl, e, hb] at h4
   cases h4
 refine ⟨ad, h1, Nat.lt_of_lt_of_le h2 hg.size, fun i u hu => ?_⟩
 exact hg.cell (h3 i u hu) (by rw [zAl, zAl]; simpa using hne)
theorem cT_ne (x : Tri3) : cT x ≠ [] := by simp [cT]
abbrev Es := List ((Pt × Pt) × Tri3)
def putT (E : Es) (T : Tri3) : Es := putE (putE (putE E (T.A, T.B) T) (T.B, T.C) T) (T.C, T.A) T
def takeT (E : Es) (T : Tri3) : Es := delE (delE (delE E (T.A, T.B)) (T.B, T.C)) (T.C, T.A)
def putRun (E : Es) : List Tri3 → Nat × Es
 | [] => (0, E)
 | T :: l => if fitsE E T = true then ((putRun (putT E T) l).1 + 1, (putRun (putT E T) l).2) else (0, E)
def takeRun (E : Es) : List Tri3 → Nat × Es
 | [] => (0, E)
 | T :: l => if hasE E T = true then ((takeRun (takeT E T) l).1 + 1, (takeRun (takeT E T) l).2) else (0, E)
theorem zF6 {E F : Es} {L : List Tri3} {k : Nat} (hk : k < L.length) (h : putRun E L = (k + (putRun F (L.drop k)).1, (putRun F (L.drop k)).2)) (hf : fitsE F L[k] = true) :
    putRun E L = (k + 1 + (putRun (putT F L[k]) (L.drop (k + 1))).1, (putRun (putT F L[k]) (L.drop (k + 1))).2) := by
 rw [h, List.drop_eq_getElem_cons hk, putRun, if_pos hf]
 simp only [Prod.mk.injEq, and_true]
 omega
theorem zF5 {E F : Es} {L : List Tri3} {k : Nat} (hk : k < L.length) (h : putRun E L = (k + (putRun F (L.drop k)).1, (putRun F (L.drop k)).2)) (hf : fitsE F L[k] = false) : putRun E L = (k, F) := by
 rw [h, List.drop_eq_getElem_cons hk, putRun, if_neg (by rw [hf]; decide)]; rfl
theorem zGf {E F : Es} {L : List Tri3} {k : Nat} (hk : L.length ≤ k) (h : putRun E L = (k + (putRun F (L.drop k)).1, (putRun F (L.drop k)).2)) : putRun E L = (k, F) := by
 rw [h, List.drop_eq_nil_of_le hk]; rfl
theorem takeRun_step {E F : Es} {L : List Tri3} {k : Nat} (hk : k < L.length) (h : takeRun E L = (k + (takeRun F (L.drop k)).1, (takeRun F (L.drop k)).2)) (hf : hasE F L[k] = true) :
    takeRun E L = (k + 1 + (takeRun (takeT F L[k]) (L.drop (k + 1))).1, (takeRun (takeT F L[k]) (L.drop (k + 1))).2) := by
 rw [h, List.drop_eq_getElem_cons hk, takeRun, if_pos hf]
 simp only [Prod.mk.injEq, and_true]
 omega
theorem takeRun_stop {E F : Es} {L : List Tri3} {k : Nat} (hk : k < L.length) (h : takeRun E L = (k + (takeRun F (L.drop k)).1, (takeRun F (L.drop k)).2)) (hf : hasE F L[k] = false) : takeRun E L = (k, F) := by
 rw [h, List.drop_eq_getElem_cons hk, takeRun, if_neg (by rw [hf]; decide)]; rfl
theorem takeRun_end {E F : Es} {L : List Tri3} {k : Nat} (hk : L.length ≤ k) (h : takeRun E L = (k + (takeRun F (L.drop k)).1, (takeRun F (L.drop k)).2)) : takeRun E L = (k, F) := by
 rw [h, List.drop_eq_nil_of_le hk]; rfl
attribute [local go_sem] rOper rAt rUpon cell_set sg_i64 sg_u64 alloc_cell alloc_frozen
attribute [local go_sem 10000] pt_eql pt_neq tri_eql
attribute [local irreducible] rWalk
theorem map_nil (b : Nat) (w : World) : (binOp .eql 87 (.map (some b)) (.map none)).run Tryz.prog w = .ok (.bool false) w := by
 simp only [binOp]
 simp [run_equal_map_nil w 87 _ _ (some b) Tryz.underlying87]
theorem rmap_nil (b : Nat) (w : World) : (binOp .eql 39 (.map (some b)) (.map none)).run Tryz.prog w = .ok (.bool false) w := by
 simp only [binOp]
 simp [run_equal_map_nil w 39 _ _ (some b) Tryz.underlying39]
attribute [local go_sem] map_nil rmap_nil
theorem zDx (mb b : Nat) (E : Es) (a : Option Addr) (cap n : Nat) (L : List Tri3) (hn : Hid (L.length = n)) (hn1 : n ≤ 1000000) (hok : ∀ T ∈ L, okT T) (w : World) (Bm : Box w mb [.map (some b)] 89) (Hm : HoldsMap eW eT okW w b E) (Hr : RowAt cT 6 w a L) :
    Calls Tryz.prog 73 #[.pointer (some ⟨mb, 0, none⟩), .slice a n cap] w fun e w' => e = .returned (.int .i64 (putRun E L).1) ∧ w.grownBy w' (some b) ∧ HoldsMap eW eT okW w' b (putRun E L).2 := by
 have hmb := Bm.ne_map Hm
 have Fm := Bm.facts
 go_enter Tryz.func73, Tryz.ntmps73
 go_wp2
 clear Fm
 go_loopw [19] (fun i wr => ∃ (k : Nat) (F : Es), k ≤ n ∧ i = .int .i64 k ∧ Hid (putRun E L = (k + (putRun F (L.drop k)).1, (putRun F (L.drop k)).2)) ∧ HoldsMap eW eT okW wr b F ∧ w.grownBy wr (some b)) (fun i _ => n - (intOf i).toNat)
 case atStart => exact ⟨0, E, Nat.zero_le _, rfl, Lib.hid (by simp), Hm, zBx _ _⟩
 case round =>
  obtain ⟨k, F, hk, rfl, hR, HF, hg⟩ := hrel
  have BM := Bm.turn Hm hg
  by_cases hlt : k < n
  ·have hlk : k < L.length := hn.out ▸ hlt
   have hokk := hok L[k] (List.getElem_mem hlk)
   have hst := fun hf => zF6 hlk hR.out hf
   have hsp := fun hf => zF5 hlk hR.out hf
   obtain ⟨ad, A, ea, eA, zA, _, q0, q1, q2, q3, q4, q5⟩ := (Hr.turn cT_ne Hm hg).tri hlk
   generalize L[k] = T at *
   cases hf : fitsE F T with
   | false =>
    have HP := Lib.hid (hsp hf)
    clear hst hsp
    have cf := zHo mb b F T hokk
    rw [hf] at cf
    clear hf
    have FM := BM.facts
    go_wp2_with fail
    refine zA1 fun W1 hW => ?_
    have Bt : Box W1 wr.heap.size [.int .i64 T.A.x, .int .i64 T.A.y, .int .i64 T.B.x, .int .i64 T.B.y, .int .i64 T.C.x, .int .i64 T.C.y] 38 := by rw [hW]; exact Box.new rfl
    have hw : Below wr.heap.size wr W1 := by rw [hW]; go_grown
    clear hW
    clear FM
    replace BM := BM.ee hw
    clear q0 q1 q2 q3 q4 q5 ea eA zA
    refine (cf _ BM (HF.ee hw)).mono ?_
    rintro e w2 ⟨rfl, hb⟩
    replace BM := BM.ee hb
    replace Bt := Bt.ee hb
    replace hw := upB hw hb
    clear hb
    have FM := BM.facts
    have Ft := Bt.facts
    go_wp2
    go_ret
    exact ⟨zAi (by rw [HP.out]), zAa hg hw, by rw [HP.out]; exact HF.ee hw⟩
   | true =>
    have HP := Lib.hid (hst hf)
    clear hst hsp
    have cf := zHo mb b F T hokk
    rw [hf] at cf
    clear hf
    have FM := BM.facts
    go_wp2_with fail
    refine zA1 fun W1 hW => ?_
    have Bt : Box W1 wr.heap.size [.int .i64 T.A.x, .int .i64 T.A.y, .int .i64 T.B.x, .int .i64 T.B.y, .int .i64 T.C.x, .int .i64 T.C.y] 38 := by rw [hW]; exact Box.new rfl
    have hw : Below wr.heap.size wr W1 := by rw [hW]; go_grown
    clear hW
    clear FM
    replace BM := BM.ee hw
    clear q0 q1 q2 q3 q4 q5 ea eA zA
    refine (cf _ BM (HF.ee hw)).mono ?_
    rintro e w2 ⟨rfl, hb⟩
    replace BM := BM.ee hb
    replace Bt := Bt.ee hb
    replace hw := upB hw hb
    clear hb
    have FM := BM.facts
    have Ft := Bt.facts
    go_wp2_with fail
    clear FM Ft
    refine wp_loop_rounds 5 ?_
    try rw [rounds_succ]
    have FM := BM.facts
    have Ft := Bt.facts
    go_wp2_with fail
    replace HF := HF.ee hw
    replace hg := zAa hg hw
    have hw : Below w2.heap.size w2 w2 := Below.refl _ _
    have gM := BM.cells
    have gt := Bt.cells
    refine wp_region_tail 8 (by kernel_rfl) (by kernel_rfl) (C := fun w' => ∃ p : Regrown, w' = grow (redrawn w2 p.d) p.os) rgB ?_
    simp only [tK1, tK0, dP1, dP0]
    repeat (first | (refine zA0 (Eq.refl false) ?_; simp only [Act.put, sT2, sT1, sT0]) | (refine rWalk_step (fun K hK => ?_); go_simp; first | (refine hK _ ?_; clear hK K) | (apply Exists.intro; refine ⟨fun _ => ?_, hK _ ?_⟩; (first | with_reducible exact toExt (way_0 T) _); clear hK K)))
    refine rWalk_nil ?_
    intro w3 hb
    clear gM gt
    clear FM Ft
    replace BM := BM.ee hb
    replace Bt := Bt.ee hb
    replace hw := upB hw hb
    replace HF := HF.ee hw
    replace hg := zAa hg hw
    clear hw
    refine zBe _ rfl _ _ _ rfl kvM rfl HF (T.A, T.B) T rfl rfl (okT_w hokk).1 ?_
    intro c0 HG hh hs
    replace BM := BM.turn HF hh
    replace Bt := Bt.turn HF hh
    replace hg := zA8 hg hh
    clear HF hh hs
    have HF := HG
    clear HG
    have FM := BM.facts
    have Ft := Bt.facts
    go_wp2_with fail
    clear FM Ft
    try rw [rounds_succ]
    have FM := BM.facts
    have Ft := Bt.facts
    go_wp2_with fail
    have hw : Below c0.heap.size c0 c0 := Below.refl _ _
    have gM := BM.cells
    have gt := Bt.cells
    refine wp_region_tail 8 (by kernel_rfl) (by kernel_rfl) (C := fun w' => ∃ p : Regrown, w' = grow (redrawn c0 p.d) p.os) rgB ?_
    simp only [tK1, tK0, dP1, dP0]
    repeat (first | (refine zA0 (Eq.refl false) ?_; simp only [Act.put, sT2, sT1, sT0]) | (refine rWalk_step (fun K hK => ?_); go_simp; first | (refine hK _ ?_; clear hK K) | (apply Exists.intro; refine ⟨fun _ => ?_, hK _ ?_⟩; (first | with_reducible exact toExt (way_1 T) _); clear hK K)))
    refine rWalk_nil ?_
    intro w4 hb
    clear gM gt
    clear FM Ft
    replace BM := BM.ee hb
    replace Bt := Bt.ee hb
    replace hw := upB hw hb
    replace HF := HF.ee hw
    replace hg := zAa hg hw
    clear hw
    refine zBe _ rfl _ _ _ rfl kvM rfl HF (T.B, T.C) T rfl rfl (okT_w hokk).2.1 ?_
    intro c1 HG hh hs
    replace BM := BM.turn HF hh
    replace Bt := Bt.turn HF hh
    replace hg := zA8 hg hh
    clear HF hh hs
    have HF := HG
    clear HG
    have FM := BM.facts
    have Ft := Bt.facts
    go_wp2_with fail
    clear FM Ft
    try rw [rounds_succ]
    have FM := BM.facts
    have Ft := Bt.facts
    go_wp2_with fail
    have hw : Below c1.heap.size c1 c1 := Below.refl _ _
    have gM := BM.cells
    have gt := Bt.cells
    refine wp_region_tail 8 (by kernel_rfl) (by kernel_rfl) (C := fun w' => ∃ p : Regrown, w' = grow (redrawn c1 p.d) p.os) rgB ?_
    simp only [tK1, tK0, dP1, dP0]
    repeat (first | (refine zA0 (Eq.refl false) ?_; simp only [Act.put, sT2, sT1, sT0]) | (refine rWalk_step (fun K hK => ?_); go_simp; first | (refine hK _ ?_; clear hK K) | (apply Exists.intro; refine ⟨fun _ => ?_, hK _ ?_⟩; (first | with_reducible exact toExt (way_2 T) _); clear hK K)))
    refine rWalk_nil ?_
    intro w5 hb
    clear gM gt
    clear FM Ft
    replace BM := BM.ee hb
    replace Bt := Bt.ee hb
    replace hw := upB hw hb
    replace HF := HF.ee hw
    replace hg := zAa hg hw
    clear hw
    refine zBe _ rfl _ _ _ rfl kvM rfl HF (T.C, T.A) T rfl rfl (okT_w hokk).2.2 ?_
    intro c2 HG hh hs
    replace BM := BM.turn HF hh
    replace Bt := Bt.turn HF hh
    replace hg := zA8 hg hh
    clear HF hh hs
    have HF := HG
    clear HG
    have FM := BM.facts
    have Ft := Bt.facts
    go_wp2_with fail
    clear FM Ft
    try rw [rounds_succ]
    have FM := BM.facts
    have Ft := Bt.facts
    go_wp2
    go_roundw
    case rel => exact ⟨k + 1, putT F T, by omega, by go_num, HP, HF, hg⟩
    case measure => simp [intOf]; omega
  ·have HP := Lib.hid (zGf (by rw [hn.out]; omega) hR.out)
   have Fm := BM.facts
   go_wp2
   go_ret
   exact ⟨zAi (by rw [HP.out]; omega), hg, by rw [HP.out]; exact HF⟩
theorem zEh (mb b : Nat) (E : Es) (a : Option Addr) (cap n : Nat) (L : List Tri3) (hn : Hid (L.length = n)) (hn1 : n ≤ 1000000) (hok : ∀ T ∈ L, okT T) (w : World) (Bm : Box w mb [.map (some b)] 89) (Hm : HoldsMap eW eT okW w b E) (Hr : RowAt cT 6 w a L) :
    Calls Tryz.prog 74 #[.pointer (some ⟨mb, 0, none⟩), .slice a n cap] w fun e w' => e = .returned (.int .i64 (takeRun E L).1) ∧ w.grownBy w' (some b) ∧ HoldsMap eW eT okW w' b (takeRun E L).2 := by
 have hmb := Bm.ne_map Hm
 have Fm := Bm.facts
 go_enter Tryz.func74, Tryz.ntmps74
 go_wp2
 clear Fm
 go_loopw [10] (fun i wr => ∃ (k : Nat) (F : Es), k ≤ n ∧ i = .int .i64 k ∧ Hid (takeRun E L = (k + (takeRun F (L.drop k)).1, (takeRun F (L.drop k)).2)) ∧ HoldsMap eW eT okW wr b F ∧ w.grownBy wr (some b)) (fun i _ => n - (intOf i).toNat)
 case atStart => exact ⟨0, E, Nat.zero_le _, rfl, Lib.hid (by simp), Hm, zBx _ _⟩
 case round =>
  obtain ⟨k, F, hk, rfl, hR, HF, hg⟩ := hrel
  have BM := Bm.turn Hm hg
  by_cases hlt : k < n
  ·have hlk : k < L.length := hn.out ▸ hlt
   have hokk := hok L[k] (List.getElem_mem hlk)
   have hst := fun hf => takeRun_step hlk hR.out hf
   have hsp := fun hf => takeRun_stop hlk hR.out hf
   obtain ⟨ad, A, ea, eA, zA, _, q0, q1, q2, q3, q4, q5⟩ := (Hr.turn cT_ne Hm hg).tri hlk
   generalize L[k] = T at *
   cases hf : hasE F T with
   | false =>
    have HP := Lib.hid (hsp hf)
    clear hst hsp
    have cf := zD1 mb b F T hokk
    rw [hf] at cf
    clear hf
    have FM := BM.facts
    go_wp2_with fail
    refine zA1 fun W1 hW => ?_
    have Bt : Box W1 wr.heap.size [.int .i64 T.A.x, .int .i64 T.A.y, .int .i64 T.B.x, .int .i64 T.B.y, .int .i64 T.C.x, .int .i64 T.C.y] 38 := by rw [hW]; exact Box.new rfl
    have hw : Below wr.heap.size wr W1 := by rw [hW]; go_grown
    clear hW
    clear FM
    replace BM := BM.ee hw
    clear q0 q1 q2 q3 q4 q5 ea eA zA
    refine (cf _ BM (HF.ee hw)).mono ?_
    rintro e w2 ⟨rfl, hb⟩
    replace BM := BM.ee hb
    replace Bt := Bt.ee hb
    replace hw := upB hw hb
    clear hb
    have FM := BM.facts
    have Ft := Bt.facts
    go_wp2
    go_ret
    exact ⟨zAi (by rw [HP.out]), zAa hg hw, by rw [HP.out]; exact HF.ee hw⟩
   | true =>
    have HP := Lib.hid (hst hf)
    clear hst hsp
    have cf := zD1 mb b F T hokk
    rw [hf] at cf
    clear hf
    have FM := BM.facts
    go_wp2_with fail
    refine zA1 fun W1 hW => ?_
    have Bt : Box W1 wr.heap.size [.int .i64 T.A.x, .int .i64 T.A.y, .int .i64 T.B.x, .int .i64 T.B.y, .int .i64 T.C.x, .int .i64 T.C.y] 38 := by rw [hW]; exact Box.new rfl
    have hw : Below wr.heap.size wr W1 := by rw [hW]; go_grown
    clear hW
    clear FM
    replace BM := BM.ee hw
    clear q0 q1 q2 q3 q4 q5 ea eA zA
    refine (cf _ BM (HF.ee hw)).mono ?_
    rintro e w2 ⟨rfl, hb⟩
    replace BM := BM.ee hb
    replace Bt := Bt.ee hb
    replace hw := upB hw hb
    clear hb
    have FM := BM.facts
    have Ft := Bt.facts
    go_wp2_with fail
    clear FM Ft
    refine wp_loop_rounds 5 ?_
    try rw [rounds_succ]
    have FM := BM.facts
    have Ft := Bt.facts
    go_wp2_with fail
    replace HF := HF.ee hw
    replace hg := zAa hg hw
    have hw : Below w2.heap.size w2 w2 := Below.refl _ _
    have gM := BM.cells
    have gt := Bt.cells
    refine wp_region_tail 7 (by kernel_rfl) (by kernel_rfl) (C := fun w' => ∃ p : Regrown, w' = grow (redrawn w2 p.d) p.os) rgB ?_
    simp only [tK1, tK0, dP1, dP0]
    repeat (first | (refine zA0 (Eq.refl false) ?_; simp only [Act.put, sT2, sT1, sT0]) | (refine rWalk_step (fun K hK => ?_); go_simp; first | (refine hK _ ?_; clear hK K) | (apply Exists.intro; refine ⟨fun _ => ?_, hK _ ?_⟩; (first | with_reducible exact toExt (way_0 T) _); clear hK K)))
    refine rWalk_nil ?_
    intro w3 hb
    clear gM gt
    clear FM Ft
    replace BM := BM.ee hb
    replace Bt := Bt.ee hb
    replace hw := upB hw hb
    replace HF := HF.ee hw
    replace hg := zAa hg hw
    clear hw
    refine zBl _ rfl _ _ rfl kvM rfl HF (T.A, T.B) rfl (okT_w hokk).1 ?_
    intro c0 HG hh hs
    replace BM := BM.turn HF hh
    replace Bt := Bt.turn HF hh
    replace hg := zA8 hg hh
    clear HF hh hs
    have HF := HG
    clear HG
    have FM := BM.facts
    have Ft := Bt.facts
    go_wp2_with fail
    clear FM Ft
    try rw [rounds_succ]
    have FM := BM.facts
    have Ft := Bt.facts
    go_wp2_with fail
    have hw : Below c0.heap.size c0 c0 := Below.refl _ _
    have gM := BM.cells
    have gt := Bt.cells
    refine wp_region_tail 7 (by kernel_rfl) (by kernel_rfl) (C := fun w' => ∃ p : Regrown, w' = grow (redrawn c0 p.d) p.os) rgB ?_
    simp only [tK1, tK0, dP1, dP0]
    repeat (first | (refine zA0 (Eq.refl false) ?_; simp only [Act.put, sT2, sT1, sT0]) | (refine rWalk_step (fun K hK => ?_); go_simp; first | (refine hK _ ?_; clear hK K) | (apply Exists.intro; refine ⟨fun _ => ?_, hK _ ?_⟩; (first | with_reducible exact toExt (way_1 T) _); clear hK K)))
    refine rWalk_nil ?_
    intro w4 hb
    clear gM gt
    clear FM Ft
    replace BM := BM.ee hb
    replace Bt := Bt.ee hb
    replace hw := upB hw hb
    replace HF := HF.ee hw
    replace hg := zAa hg hw
    clear hw
    refine zBl _ rfl _ _ rfl kvM rfl HF (T.B, T.C) rfl (okT_w hokk).2.1 ?_
    intro c1 HG hh hs
    replace BM := BM.turn HF hh
    replace Bt := Bt.turn HF hh
    replace hg := zA8 hg hh
    clear HF hh hs
    have HF := HG
    clear HG
    have FM := BM.facts
    have Ft := Bt.facts
    go_wp2_with fail
    clear FM Ft
    try rw [rounds_succ]
    have FM := BM.facts
    have Ft := Bt.facts
    go_wp2_with fail
    have hw : Below c1.heap.size c1 c1 := Below.refl _ _
    have gM := BM.cells
    have gt := Bt.cells
    refine wp_region_tail 7 (by kernel_rfl) (by kernel_rfl) (C := fun w' => ∃ p : Regrown, w' = grow (redrawn c1 p.d) p.os) rgB ?_
    simp only [tK1, tK0, dP1, dP0]
    repeat (first | (refine zA0 (Eq.refl false) ?_; simp only [Act.put, sT2, sT1, sT0]) | (refine rWalk_step (fun K hK => ?_); go_simp; first | (refine hK _ ?_; clear hK K) | (apply Exists.intro; refine ⟨fun _ => ?_, hK _ ?_⟩; (first | with_reducible exact toExt (way_2 T) _); clear hK K)))
    refine rWalk_nil ?_
    intro w5 hb
    clear gM gt
    clear FM Ft
    replace BM := BM.ee hb
    replace Bt := Bt.ee hb
    replace hw := upB hw hb
    replace HF := HF.ee hw
    replace hg := zAa hg hw
    clear hw
    refine zBl _ rfl _ _ rfl kvM rfl HF (T.C, T.A) rfl (okT_w hokk).2.2 ?_
    intro c2 HG hh hs
    replace BM := BM.turn HF hh
    replace Bt := Bt.turn HF hh
    replace hg := zA8 hg hh
    clear HF hh hs
    have HF := HG
    clear HG
    have FM := BM.facts
    have Ft := Bt.facts
    go_wp2_with fail
    clear FM Ft
    try rw [rounds_succ]
    have FM := BM.facts
    have Ft := Bt.facts
    go_wp2
    go_roundw
    case rel => exact ⟨k + 1, takeT F T, by omega, by go_num, HP, HF, hg⟩
    case measure => simp [intOf]; omega
  ·have HP := Lib.hid (takeRun_end (by rw [hn.out]; omega) hR.out)
   have Fm := BM.facts
   go_wp2
   go_ret
   exact ⟨zAi (by rw [HP.out]; omega), hg, by rw [HP.out]; exact HF⟩
end Go.Proofs.YtmobnmjjmafibaaGreat
namespace Go.Proofs.YtmobnmjjmafibaaGreat
open Go.RowKit Go.Sort
attribute [local go_sem] rOper rAt rUpon cell_set sg_i64 sg_u64 alloc_cell alloc_frozen
attribute [local go_sem 10000] pt_eql pt_neq tri_eql
attribute [local irreducible] rWalk
theorem mk_map (n : Int) (w : World) : (Instr.makeMap 87 (some (.int .i64 n))).run Tryz.prog w = .ok (.map (some w.heap.size)) (w.alloc (.map #[] 0)) := by
 unfold Instr.makeMap
 simp [asIntOf, go_sem]
attribute [local go_sem] mk_map map_nil
theorem HoldsMap.box {w : World} {b : Nat} {E : Es} (H : HoldsMap eW eT okW w b E) {cs : List Value} {T : TypeId} : HoldsMap eW eT okW (w.alloc (.cells cs.toArray T)) b E := H.alloc _
theorem mnew_1 (a : Option Addr) (cap n : Nat) (L : List Tri3) (hn : Hid (L.length = n)) (hn1 : n ≤ 1000000) (hok : ∀ T ∈ L, okT T) (hx : (putRun [] L).1 = n) (w : World) (Hr : RowAt cT 6 w a L) :
    Calls Tryz.prog 33 #[.slice a n cap] w fun e w' => ∃ mb b, e = .returned (.tuple #[.pointer (some ⟨mb, 0, none⟩), .int .i64 0]) ∧ Box w' mb [.map (some b)] 89 ∧ HoldsMap eW eT okW w' b (putRun [] L).2 ∧ w.heap.size ≤ b ∧ w.heap.size ≤ mb ∧ Below w.heap.size w w' := by
 have cp := fun w' B H R => zDx (w.heap.size + 1) w.heap.size [] a cap n L hn hn1 hok w' B H R
 obtain ⟨r, E, hr⟩ : ∃ r E, putRun [] L = (r, E) := ⟨_, _, rfl⟩
 rw [hr] at cp hx
 dsimp only at cp hx
 have HR := Lib.hid hr
 clear hr
 subst hx
 have hd : decide ((r : Int) < (r : Int)) = false := by simp
 go_enter Tryz.func33, Tryz.ntmps33
 go_wp2_with fail
 refine zA1 fun W1 hW => ?_
 have BM : Box W1 (w.heap.size + 1) [.map (some w.heap.size)] 89 := by rw [hW]; exact Box.new (by simp)
 have HM : HoldsMap eW eT okW W1 w.heap.size ([] : Es) := by rw [hW]; exact (HoldsMap.made w).alloc _
 have hw : Below w.heap.size w W1 := by rw [hW]; go_grown
 clear hW
 refine (cp _ BM HM (Hr.ee hw)).mono ?_
 rintro e w2 ⟨rfl, hg, H2⟩
 have B2 := BM.turn HM hg
 replace hw := zB9 hw hg hw.size (Nat.le_refl _)
 clear hg HM BM
 go_wp2
 go_ret2
 exact ⟨_, _, rfl, B2, by rw [HR.out]; exact H2, Nat.le_refl _, by omega, hw⟩
theorem mnew_0 (a : Option Addr) (cap n : Nat) (L : List Tri3) (hn : Hid (L.length = n)) (hn1 : n ≤ 1000000) (hok : ∀ T ∈ L, okT T) (hx : (putRun [] L).1 < n) (w : World) (Hr : RowAt cT 6 w a L) :
    Calls Tryz.prog 33 #[.slice a n cap] w fun e w' => e = .returned (.tuple #[.pointer none, .int .i64 2]) ∧ Below w.heap.size w w' := by
 have cp := fun w' B H R => zDx (w.heap.size + 1) w.heap.size [] a cap n L hn hn1 hok w' B H R
 obtain ⟨r, E, hr⟩ : ∃ r E, putRun [] L = (r, E) := ⟨_, _, rfl⟩
 rw [hr] at cp hx
 dsimp only at cp hx
 have HR := Lib.hid hr
 clear hr
 have hd : decide (r < n) = true := by simp; omega
 clear hx
 go_enter Tryz.func33, Tryz.ntmps33
 go_wp2_with fail
 refine zA1 fun W1 hW => ?_
 have BM : Box W1 (w.heap.size + 1) [.map (some w.heap.size)] 89 := by rw [hW]; exact Box.new (by simp)
 have HM : HoldsMap eW eT okW W1 w.heap.size ([] : Es) := by rw [hW]; exact (HoldsMap.made w).alloc _
 have hw : Below w.heap.size w W1 := by rw [hW]; go_grown
 clear hW
 refine (cp _ BM HM (Hr.ee hw)).mono ?_
 rintro e w2 ⟨rfl, hg, H2⟩
 have B2 := BM.turn HM hg
 replace hw := zB9 hw hg hw.size (Nat.le_refl _)
 clear hg HM BM
 go_wp2
 go_ret2
 exact ⟨rfl, hw⟩
theorem zIh (mb b : Nat) (E : Es) (k : Nat) (hE : Hid (E.length = 3 * k)) (hk : k ≤ 1000000) (w : World) (Bm : Box w mb [.map (some b)] 89) (Hm : HoldsMap eW eT okW w b E) :
    Calls Tryz.prog 20 #[.pointer (some ⟨mb, 0, none⟩)] w fun e w' => e = .returned (.int .i64 k) ∧ Below w.heap.size w w' := by
 have Fm := Bm.facts
 go_enter Tryz.func20, Tryz.ntmps20
 go_wp2_with (at_len; refine zEw _ rfl _ rfl kvM rfl Hm ?_; rw [hE.out])
 go_ret
 exact ⟨zAi (by first | omega | (push_cast; omega)), Below.refl _ _⟩
theorem zJd {T : Tri3} (h : okT T) (i : Int) : okP (crn T i) := by
 unfold crn; split
 ·exact h.1
 ·split
  ·exact h.2.1
  ·exact h.2.2
theorem across_1 (mb b : Nat) (E : Es) (T : Tri3) (i : Int) (hk : okT T) (hh : hasE E T = true) (w : World) (Bm : Box w mb [.map (some b)] 89) (Hm : HoldsMap eW eT okW w b E) :
    Calls Tryz.prog 66 #[.pointer (some ⟨mb, 0, none⟩), .agg #[.int .i64 T.A.x, .int .i64 T.A.y, .int .i64 T.B.x, .int .i64 T.B.y, .int .i64 T.C.x, .int .i64 T.C.y], .int .i64 i] w fun e w' => e = .returned (.tuple #[eT (lftE E (crn T (i + 1)) (crn T i)).1, .bool (lftE E (crn T (i + 1)) (crn T i)).2]) ∧ Below w.heap.size w w' := by
 have ch := zD1 mb b E T hk
 rw [hh] at ch
 clear hh
 have cl := left_any mb b E (crn T (i + 1)) (crn T i) ⟨zJd hk _, zJd hk _⟩
 have ce := zIu T i
 generalize lftE E (crn T (i + 1)) (crn T i) = sv at *
 obtain ⟨S, v⟩ := sv
 dsimp only at *
 generalize crn T i = P at *
 generalize crn T (i + 1) = Q at *
 go_enter Tryz.func66, Tryz.ntmps66
 go_wp2_with fail
 refine zA1 fun W1 hW => ?_
 have Bt : Box W1 (w.heap.size) [.int .i64 T.A.x, .int .i64 T.A.y, .int .i64 T.B.x, .int .i64 T.B.y, .int .i64 T.C.x, .int .i64 T.C.y] 38 := by rw [hW]; exact (Box.new rfl).old _
 have Br : Box W1 (w.heap.size + 1) [.int .i64 0, .int .i64 0, .int .i64 0, .int .i64 0, .int .i64 0, .int .i64 0] 38 := by rw [hW]; exact Box.new (by simp)
 have hw : Below w.heap.size w W1 := by rw [hW]; go_grown
 clear hW
 refine (ch _ (Bm.ee hw) (Hm.ee hw)).mono ?_
 rintro e w2 ⟨rfl, hb⟩
 replace Bt := Bt.ee hb
 replace Br := Br.ee hb
 replace hw := upB hw hb
 clear hb
 have Ft := Bt.facts
 have Fr := Br.facts
 go_wp2_with fail
 refine (ce _).mono ?_
 rintro e w3 ⟨rfl, hb⟩
 clear Ft Fr
 replace Bt := Bt.ee hb
 replace Br := Br.ee hb
 replace hw := upB hw hb
 clear hb
 have Ft := Bt.facts
 have Fr := Br.facts
 go_wp2_with fail
 refine zA1 fun W4 hW => ?_
 obtain ⟨bkp, hbp⟩ : ∃ b, w3.heap.size = b := ⟨_, rfl⟩
 rw [hbp]
 have ltp := Bt.lt
 rw [hbp] at ltp
 have lrp := Br.lt
 rw [hbp] at lrp
 have fp := hw.size
 rw [hbp] at fp
 have Bp : Box W4 (bkp) [.int .i64 P.x, .int .i64 P.y] 30 := by rw [hW, ← hbp]; exact (Box.new rfl).old _
 have Bq : Box W4 (bkp + 1) [.int .i64 Q.x, .int .i64 Q.y] 30 := by rw [hW, ← hbp]; exact Box.new (by simp)
 replace Bt : Box W4 (w.heap.size) [.int .i64 T.A.x, .int .i64 T.A.y, .int .i64 T.B.x, .int .i64 T.B.y, .int .i64 T.C.x, .int .i64 T.C.y] 38 := by rw [hW]; exact ((Bt).old _).old _
 replace Br : Box W4 (w.heap.size + 1) [.int .i64 0, .int .i64 0, .int .i64 0, .int .i64 0, .int .i64 0, .int .i64 0] 38 := by rw [hW]; exact ((Br).old _).old _
 replace hw : Below w.heap.size w W4 := by have hl := hw.size; rw [hW]; go_grown
 clear hW hbp
 refine (cl _ (Bm.ee hw) (Hm.ee hw)).mono ?_
 rintro e w5 ⟨rfl, hb⟩
 clear Ft Fr
 replace Bt := Bt.ee hb
 replace Br := Br.ee hb
 replace Bp := Bp.ee hb
 replace Bq := Bq.ee hb
 replace hw := upB hw hb
 clear hb
 have Ft := Bt.facts
 have Fr := Br.facts
 have Fp := Bp.facts
 have Fq := Bq.facts
 go_wp2_with fail
 refine bodyPost_ret (v := .tuple #[.agg #[.int .i64 S.A.x, .int .i64 S.A.y, .int .i64 S.B.x, .int .i64 S.B.y, .int .i64 S.C.x, .int .i64 S.C.y], .bool v]) (by simp [results, Tryz.results66, go_sem, Fr]) rfl ⟨rfl, by have hl := hw.size; go_grown⟩
theorem across_0 (mb b : Nat) (E : Es) (T : Tri3) (i : Int) (hk : okT T) (hh : hasE E T = false) (w : World) (Bm : Box w mb [.map (some b)] 89) (Hm : HoldsMap eW eT okW w b E) :
    Calls Tryz.prog 66 #[.pointer (some ⟨mb, 0, none⟩), .agg #[.int .i64 T.A.x, .int .i64 T.A.y, .int .i64 T.B.x, .int .i64 T.B.y, .int .i64 T.C.x, .int .i64 T.C.y], .int .i64 i] w fun e w' => e = .returned (.tuple #[.agg #[.int .i64 0, .int .i64 0, .int .i64 0, .int .i64 0, .int .i64 0, .int .i64 0], .bool false]) ∧ Below w.heap.size w w' := by
 have ch := zD1 mb b E T hk
 rw [hh] at ch
 clear hh
 go_enter Tryz.func66, Tryz.ntmps66
 go_wp2_with fail
 refine zA1 fun W1 hW => ?_
 have Bt : Box W1 (w.heap.size) [.int .i64 T.A.x, .int .i64 T.A.y, .int .i64 T.B.x, .int .i64 T.B.y, .int .i64 T.C.x, .int .i64 T.C.y] 38 := by rw [hW]; exact (Box.new rfl).old _
 have Br : Box W1 (w.heap.size + 1) [.int .i64 0, .int .i64 0, .int .i64 0, .int .i64 0, .int .i64 0, .int .i64 0] 38 := by rw [hW]; exact Box.new (by simp)
 have hw : Below w.heap.size w W1 := by rw [hW]; go_grown
 clear hW
 refine (ch _ (Bm.ee hw) (Hm.ee hw)).mono ?_
 rintro e w2 ⟨rfl, hb⟩
 replace Bt := Bt.ee hb
 replace Br := Br.ee hb
 replace hw := upB hw hb
 clear hb
 have Ft := Bt.facts
 have Fr := Br.facts
 go_wp2_with fail
 refine bodyPost_ret (v := .tuple #[.agg #[.int .i64 0, .int .i64 0, .int .i64 0, .int .i64 0, .int .i64 0, .int .i64 0], .bool false]) (by simp [results, Tryz.results66, go_sem, Fr]) rfl ⟨rfl, by have hl := hw.size; go_grown⟩
def acrE (E : Es) (T : Tri3) (i : Int) : Tri3 × Bool := if hasE E T = true then lftE E (crn T (i + 1)) (crn T i) else (⟨⟨0, 0⟩, ⟨0, 0⟩, ⟨0, 0⟩⟩, false)
theorem zGt (mb b : Nat) (E : Es) (T : Tri3) (i : Int) (hk : okT T) (w : World) (Bm : Box w mb [.map (some b)] 89) (Hm : HoldsMap eW eT okW w b E) :
    Calls Tryz.prog 66 #[.pointer (some ⟨mb, 0, none⟩), .agg #[.int .i64 T.A.x, .int .i64 T.A.y, .int .i64 T.B.x, .int .i64 T.B.y, .int .i64 T.C.x, .int .i64 T.C.y], .int .i64 i] w fun e w' => e = .returned (.tuple #[eT (acrE E T i).1, .bool (acrE E T i).2]) ∧ Below w.heap.size w w' := by
 unfold acrE
 cases hh : hasE E T with
 | true => rw [if_pos rfl]; exact across_1 mb b E T i hk hh w Bm Hm
 | false => rw [if_neg (by decide)]; exact across_0 mb b E T i hk hh w Bm Hm
end Go.Proofs.YtmobnmjjmafibaaGreat
namespace Go.Proofs.YtmobnmjjmafibaaGreat
open Go.RowKit Go.Sort
attribute [local go_sem] rOper rAt rUpon cell_set sg_i64 sg_u64 alloc_cell alloc_frozen
attribute [local go_sem 10000] pt_eql pt_neq tri_eql
attribute [local irreducible] rWalk
def apx (T : Tri3) (a b : Pt) : Pt := if peqI T.A.x T.A.y a.x a.y = false ∧ peqI T.A.x T.A.y b.x b.y = false then T.A else if peqI T.B.x T.B.y a.x a.y = false ∧ peqI T.B.x T.B.y b.x b.y = false then T.B else T.C
theorem cor_0 (T : Tri3) (w : World) : Calls Tryz.prog 117 #[.agg #[.int .i64 T.A.x, .int .i64 T.A.y, .int .i64 T.B.x, .int .i64 T.B.y, .int .i64 T.C.x, .int .i64 T.C.y], .int .i64 0] w fun e w' => e = .returned (.agg #[.int .i64 T.A.x, .int .i64 T.A.y]) ∧ Below w.heap.size w w' := zDo T 0 w
theorem cor_1 (T : Tri3) (w : World) : Calls Tryz.prog 117 #[.agg #[.int .i64 T.A.x, .int .i64 T.A.y, .int .i64 T.B.x, .int .i64 T.B.y, .int .i64 T.C.x, .int .i64 T.C.y], .int .i64 1] w fun e w' => e = .returned (.agg #[.int .i64 T.B.x, .int .i64 T.B.y]) ∧ Below w.heap.size w w' := zDo T 1 w
theorem apex_0 (T : Tri3) (a b : Pt) (ha0 : peqI T.A.x T.A.y a.x a.y = false) (hb0 : peqI T.A.x T.A.y b.x b.y = false) (w : World) :
    Calls Tryz.prog 76 #[.agg #[.int .i64 T.A.x, .int .i64 T.A.y, .int .i64 T.B.x, .int .i64 T.B.y, .int .i64 T.C.x, .int .i64 T.C.y], .agg #[.int .i64 a.x, .int .i64 a.y], .agg #[.int .i64 b.x, .int .i64 b.y]] w fun e w' => e = .returned (.agg #[.int .i64 T.A.x, .int .i64 T.A.y]) ∧ Below w.heap.size w w' := by
 have cc0 := cor_0 T
 go_enter Tryz.func76, Tryz.ntmps76
 go_wp2_with fail
 refine zA2 fun W1 hW => ?_
 have Bt : Box W1 (w.heap.size) [.int .i64 T.A.x, .int .i64 T.A.y, .int .i64 T.B.x, .int .i64 T.B.y, .int .i64 T.C.x, .int .i64 T.C.y] 38 := by rw [hW]; exact (((Box.new rfl).old _).old _).old _
 have Ba : Box W1 (w.heap.size + 1) [.int .i64 a.x, .int .i64 a.y] 30 := by rw [hW]; exact ((Box.new (by simp)).old _).old _
 have Bb : Box W1 (w.heap.size + 1 + 1) [.int .i64 b.x, .int .i64 b.y] 30 := by rw [hW]; exact (Box.new (by simp)).old _
 have Br : Box W1 (w.heap.size + 1 + 1 + 1) [.int .i64 0, .int .i64 0] 30 := by rw [hW]; exact Box.new (by simp)
 have hw : Below w.heap.size w W1 := by rw [hW]; go_grown
 clear hW
 refine wp_loop_rounds 4 ?_
 try rw [rounds_succ]
 obtain ⟨xt, yt, zt, vt⟩ := Bt.facts
 obtain ⟨xa, ya, za, va⟩ := Ba.facts
 obtain ⟨xb, yb, zb, vb⟩ := Bb.facts
 obtain ⟨xr, yr, zr, vr⟩ := Br.facts
 go_wp2_with fail
 refine (cc0 _).mono ?_
 rintro e w2 ⟨rfl, hb⟩
 clear xt yt zt vt xa ya za va xb yb zb vb xr yr zr vr
 replace Bt := Bt.ee hb
 replace Ba := Ba.ee hb
 replace Bb := Bb.ee hb
 replace Br := Br.ee hb
 replace hw := upB hw hb
 clear hb
 obtain ⟨xt, yt, zt, vt⟩ := Bt.facts
 obtain ⟨xa, ya, za, va⟩ := Ba.facts
 obtain ⟨xb, yb, zb, vb⟩ := Bb.facts
 obtain ⟨xr, yr, zr, vr⟩ := Br.facts
 go_wp2_with fail
 refine bodyPost_ret (v := .agg #[.int .i64 T.A.x, .int .i64 T.A.y]) (by simp [results, Tryz.results76, go_sem, xr, zr]) rfl ⟨rfl, by have hl := hw.size; go_grown⟩
theorem apex_10 (T : Tri3) (a b : Pt) (ha0 : peqI T.A.x T.A.y a.x a.y = true) (ha1 : peqI T.B.x T.B.y a.x a.y = false) (hb1 : peqI T.B.x T.B.y b.x b.y = false) (w : World) :
    Calls Tryz.prog 76 #[.agg #[.int .i64 T.A.x, .int .i64 T.A.y, .int .i64 T.B.x, .int .i64 T.B.y, .int .i64 T.C.x, .int .i64 T.C.y], .agg #[.int .i64 a.x, .int .i64 a.y], .agg #[.int .i64 b.x, .int .i64 b.y]] w fun e w' => e = .returned (.agg #[.int .i64 T.B.x, .int .i64 T.B.y]) ∧ Below w.heap.size w w' := by
 have cc0 := cor_0 T
 have cc1 := cor_1 T
 go_enter Tryz.func76, Tryz.ntmps76
 go_wp2_with fail
 refine zA2 fun W1 hW => ?_
 have Bt : Box W1 (w.heap.size) [.int .i64 T.A.x, .int .i64 T.A.y, .int .i64 T.B.x, .int .i64 T.B.y, .int .i64 T.C.x, .int .i64 T.C.y] 38 := by rw [hW]; exact (((Box.new rfl).old _).old _).old _
 have Ba : Box W1 (w.heap.size + 1) [.int .i64 a.x, .int .i64 a.y] 30 := by rw [hW]; exact ((Box.new (by simp)).old _).old _
 have Bb : Box W1 (w.heap.size + 1 + 1) [.int .i64 b.x, .int .i64 b.y] 30 := by rw [hW]; exact (Box.new (by simp)).old _
 have Br : Box W1 (w.heap.size + 1 + 1 + 1) [.int .i64 0, .int .i64 0] 30 := by rw [hW]; exact Box.new (by simp)
 have hw : Below w.heap.size w W1 := by rw [hW]; go_grown
 clear hW
 refine wp_loop_rounds 4 ?_
 try rw [rounds_succ]
 obtain ⟨xt, yt, zt, vt⟩ := Bt.facts
 obtain ⟨xa, ya, za, va⟩ := Ba.facts
 obtain ⟨xb, yb, zb, vb⟩ := Bb.facts
 obtain ⟨xr, yr, zr, vr⟩ := Br.facts
 go_wp2_with fail
 refine (cc0 _).mono ?_
 rintro e w2 ⟨rfl, hb⟩
 clear xt yt zt vt xa ya za va xb yb zb vb xr yr zr vr
 replace Bt := Bt.ee hb
 replace Ba := Ba.ee hb
 replace Bb := Bb.ee hb
 replace Br := Br.ee hb
 replace hw := upB hw hb
 clear hb
 obtain ⟨xt, yt, zt, vt⟩ := Bt.facts
 obtain ⟨xa, ya, za, va⟩ := Ba.facts
 obtain ⟨xb, yb, zb, vb⟩ := Bb.facts
 obtain ⟨xr, yr, zr, vr⟩ := Br.facts
 go_wp2_with fail
 clear xt yt zt vt xa ya za va xb yb zb vb xr yr zr vr
 refine zA2 fun W3 hW => ?_
 obtain ⟨bkp0, hbp0⟩ : ∃ b, w2.heap.size = b := ⟨_, rfl⟩
 rw [hbp0]
 have ltp0 := Bt.lt
 rw [hbp0] at ltp0
 have lap0 := Ba.lt
 rw [hbp0] at lap0
 have lbp0 := Bb.lt
 rw [hbp0] at lbp0
 have lrp0 := Br.lt
 rw [hbp0] at lrp0
 have fp0 := hw.size
 rw [hbp0] at fp0
 have Bp0 : Box W3 bkp0 [.int .i64 T.A.x, .int .i64 T.A.y] 30 := by rw [hW]; exact Box.new hbp0.symm
 replace Bt : Box W3 (w.heap.size) [.int .i64 T.A.x, .int .i64 T.A.y, .int .i64 T.B.x, .int .i64 T.B.y, .int .i64 T.C.x, .int .i64 T.C.y] 38 := by rw [hW]; exact Bt.old _
 replace Ba : Box W3 (w.heap.size + 1) [.int .i64 a.x, .int .i64 a.y] 30 := by rw [hW]; exact Ba.old _
 replace Bb : Box W3 (w.heap.size + 1 + 1) [.int .i64 b.x, .int .i64 b.y] 30 := by rw [hW]; exact Bb.old _
 replace Br : Box W3 (w.heap.size + 1 + 1 + 1) [.int .i64 0, .int .i64 0] 30 := by rw [hW]; exact Br.old _
 replace hw : Below w.heap.size w W3 := by have hl := hw.size; rw [hW]; go_grown
 clear hW hbp0
 obtain ⟨xt, yt, zt, vt⟩ := Bt.facts
 obtain ⟨xa, ya, za, va⟩ := Ba.facts
 obtain ⟨xb, yb, zb, vb⟩ := Bb.facts
 obtain ⟨xr, yr, zr, vr⟩ := Br.facts
 obtain ⟨xp0, yp0, zp0, vp0⟩ := Bp0.facts
 go_wp2_with fail
 clear xt yt zt vt xa ya za va xb yb zb vb xr yr zr vr xp0 yp0 zp0 vp0
 try rw [rounds_succ]
 obtain ⟨xt, yt, zt, vt⟩ := Bt.facts
 obtain ⟨xa, ya, za, va⟩ := Ba.facts
 obtain ⟨xb, yb, zb, vb⟩ := Bb.facts
 obtain ⟨xr, yr, zr, vr⟩ := Br.facts
 obtain ⟨xp0, yp0, zp0, vp0⟩ := Bp0.facts
 go_wp2_with fail
 refine (cc1 _).mono ?_
 rintro e w4 ⟨rfl, hb⟩
 clear xt yt zt vt xa ya za va xb yb zb vb xr yr zr vr xp0 yp0 zp0 vp0
 replace Bt := Bt.ee hb
 replace Ba := Ba.ee hb
 replace Bb := Bb.ee hb
 replace Br := Br.ee hb
 replace Bp0 := Bp0.ee hb
 replace hw := upB hw hb
 clear hb
 obtain ⟨xt, yt, zt, vt⟩ := Bt.facts
 obtain ⟨xa, ya, za, va⟩ := Ba.facts
 obtain ⟨xb, yb, zb, vb⟩ := Bb.facts
 obtain ⟨xr, yr, zr, vr⟩ := Br.facts
 obtain ⟨xp0, yp0, zp0, vp0⟩ := Bp0.facts
 go_wp2_with fail
 refine bodyPost_ret (v := .agg #[.int .i64 T.B.x, .int .i64 T.B.y]) (by simp [results, Tryz.results76, go_sem, xr, zr]) rfl ⟨rfl, by have hl := hw.size; go_grown⟩
theorem apex_11 (T : Tri3) (a b : Pt) (ha0 : peqI T.A.x T.A.y a.x a.y = true) (ha1 : peqI T.B.x T.B.y a.x a.y = true) (w : World) :
    Calls Tryz.prog 76 #[.agg #[.int .i64 T.A.x, .int .i64 T.A.y, .int .i64 T.B.x, .int .i64 T.B.y, .int .i64 T.C.x, .int .i64 T.C.y], .agg #[.int .i64 a.x, .int .i64 a.y], .agg #[.int .i64 b.x, .int .i64 b.y]] w fun e w' => e = .returned (.agg #[.int .i64 T.C.x, .int .i64 T.C.y]) ∧ Below w.heap.size w w' := by
 have cc0 := cor_0 T
 have cc1 := cor_1 T
 go_enter Tryz.func76, Tryz.ntmps76
 go_wp2_with fail
 refine zA2 fun W1 hW => ?_
 have Bt : Box W1 (w.heap.size) [.int .i64 T.A.x, .int .i64 T.A.y, .int .i64 T.B.x, .int .i64 T.B.y, .int .i64 T.C.x, .int .i64 T.C.y] 38 := by rw [hW]; exact (((Box.new rfl).old _).old _).old _
 have Ba : Box W1 (w.heap.size + 1) [.int .i64 a.x, .int .i64 a.y] 30 := by rw [hW]; exact ((Box.new (by simp)).old _).old _
 have Bb : Box W1 (w.heap.size + 1 + 1) [.int .i64 b.x, .int .i64 b.y] 30 := by rw [hW]; exact (Box.new (by simp)).old _
 have Br : Box W1 (w.heap.size + 1 + 1 + 1) [.int .i64 0, .int .i64 0] 30 := by rw [hW]; exact Box.new (by simp)
 have hw : Below w.heap.size w W1 := by rw [hW]; go_grown
 clear hW
 refine wp_loop_rounds 4 ?_
 try rw [rounds_succ]
 have Ft := Bt.facts
 have Fa := Ba.facts
 have Fb := Bb.facts
 have Fr := Br.facts
 go_wp2_with fail
 refine (cc0 _).mono ?_
 rintro e w2 ⟨rfl, hb⟩
 clear Ft Fa Fb Fr
 replace Bt := Bt.ee hb
 replace Ba := Ba.ee hb
 replace Bb := Bb.ee hb
 replace Br := Br.ee hb
 replace hw := upB hw hb
 clear hb
 have Ft := Bt.facts
 have Fa := Ba.facts
 have Fb := Bb.facts
 have Fr := Br.facts
 go_wp2_with fail
 clear Ft Fa Fb Fr
 refine zA2 fun W3 hW => ?_
 obtain ⟨bkp0, hbp0⟩ : ∃ b, w2.heap.size = b := ⟨_, rfl⟩
 rw [hbp0]
 have ltp0 := Bt.lt
 rw [hbp0] at ltp0
 have lap0 := Ba.lt
 rw [hbp0] at lap0
 have lbp0 := Bb.lt
 rw [hbp0] at lbp0
 have lrp0 := Br.lt
 rw [hbp0] at lrp0
 have fp0 := hw.size
 rw [hbp0] at fp0
 have Bp0 : Box W3 bkp0 [.int .i64 T.A.x, .int .i64 T.A.y] 30 := by rw [hW]; exact Box.new hbp0.symm
 replace Bt : Box W3 (w.heap.size) [.int .i64 T.A.x, .int .i64 T.A.y, .int .i64 T.B.x, .int .i64 T.B.y, .int .i64 T.C.x, .int .i64 T.C.y] 38 := by rw [hW]; exact Bt.old _
 replace Ba : Box W3 (w.heap.size + 1) [.int .i64 a.x, .int .i64 a.y] 30 := by rw [hW]; exact Ba.old _
 replace Bb : Box W3 (w.heap.size + 1 + 1) [.int .i64 b.x, .int .i64 b.y] 30 := by rw [hW]; exact Bb.old _
 replace Br : Box W3 (w.heap.size + 1 + 1 + 1) [.int .i64 0, .int .i64 0] 30 := by rw [hW]; exact Br.old _
 replace hw : Below w.heap.size w W3 := by have hl := hw.size; rw [hW]; go_grown
 clear hW hbp0
 have Ft := Bt.facts
 have Fa := Ba.facts
 have Fb := Bb.facts
 have Fr := Br.facts
 have Fp0 := Bp0.facts
 go_wp2_with fail
 clear Ft Fa Fb Fr Fp0
 try rw [rounds_succ]
 have Ft := Bt.facts
 have Fa := Ba.facts
 have Fb := Bb.facts
 have Fr := Br.facts
 have Fp0 := Bp0.facts
 go_wp2_with fail
 refine (cc1 _).mono ?_
 rintro e w4 ⟨rfl, hb⟩
 clear Ft Fa Fb Fr Fp0
 replace Bt := Bt.ee hb
 replace Ba := Ba.ee hb
 replace Bb := Bb.ee hb
 replace Br := Br.ee hb
 replace Bp0 := Bp0.ee hb
 replace hw := upB hw hb
 clear hb
 have Ft := Bt.facts
 have Fa := Ba.facts
 have Fb := Bb.facts
 have Fr := Br.facts
 have Fp0 := Bp0.facts
 go_wp2_with fail
 clear Ft Fa Fb Fr Fp0
 refine zA2 fun W5 hW => ?_
 obtain ⟨bkp1, hbp1⟩ : ∃ b, w4.heap.size = b := ⟨_, rfl⟩
 rw [hbp1]
 have ltp1 := Bt.lt
 rw [hbp1] at ltp1
 have lap1 := Ba.lt
 rw [hbp1] at lap1
 have lbp1 := Bb.lt
 rw [hbp1] at lbp1
 have lrp1 := Br.lt
 rw [hbp1] at lrp1
 have lp0p1 := Bp0.lt
 rw [hbp1] at lp0p1
 have fp1 := hw.size
 rw [hbp1] at fp1
 have Bp1 : Box W5 bkp1 [.int .i64 T.B.x, .int .i64 T.B.y] 30 := by rw [hW]; exact Box.new hbp1.symm
 replace Bt : Box W5 (w.heap.size) [.int .i64 T.A.x, .int .i64 T.A.y, .int .i64 T.B.x, .int .i64 T.B.y, .int .i64 T.C.x, .int .i64 T.C.y] 38 := by rw [hW]; exact Bt.old _
 replace Ba : Box W5 (w.heap.size + 1) [.int .i64 a.x, .int .i64 a.y] 30 := by rw [hW]; exact Ba.old _
 replace Bb : Box W5 (w.heap.size + 1 + 1) [.int .i64 b.x, .int .i64 b.y] 30 := by rw [hW]; exact Bb.old _
 replace Br : Box W5 (w.heap.size + 1 + 1 + 1) [.int .i64 0, .int .i64 0] 30 := by rw [hW]; exact Br.old _
 replace Bp0 : Box W5 (bkp0) [.int .i64 T.A.x, .int .i64 T.A.y] 30 := by rw [hW]; exact Bp0.old _
 replace hw : Below w.heap.size w W5 := by have hl := hw.size; rw [hW]; go_grown
 clear hW hbp1
 have Ft := Bt.facts
 have Fa := Ba.facts
 have Fb := Bb.facts
 have Fr := Br.facts
 have Fp0 := Bp0.facts
 have Fp1 := Bp1.facts
 go_wp2_with fail
 clear Ft Fa Fb Fr Fp0 Fp1
 try rw [rounds_succ]
 have Ft := Bt.facts
 have Fa := Ba.facts
 have Fb := Bb.facts
 have Fr := Br.facts
 have Fp0 := Bp0.facts
 have Fp1 := Bp1.facts
 go_wp2_with fail
 refine bodyPost_ret (v := .agg #[.int .i64 T.C.x, .int .i64 T.C.y]) (by simp [results, Tryz.results76, go_sem, Fr]) rfl ⟨rfl, by have hl := hw.size; go_grown⟩
theorem apex_12 (T : Tri3) (a b : Pt) (ha0 : peqI T.A.x T.A.y a.x a.y = true) (ha1 : peqI T.B.x T.B.y a.x a.y = false) (hb1 : peqI T.B.x T.B.y b.x b.y = true) (w : World) :
    Calls Tryz.prog 76 #[.agg #[.int .i64 T.A.x, .int .i64 T.A.y, .int .i64 T.B.x, .int .i64 T.B.y, .int .i64 T.C.x, .int .i64 T.C.y], .agg #[.int .i64 a.x, .int .i64 a.y], .agg #[.int .i64 b.x, .int .i64 b.y]] w fun e w' => e = .returned (.agg #[.int .i64 T.C.x, .int .i64 T.C.y]) ∧ Below w.heap.size w w' := by
 have cc0 := cor_0 T
 have cc1 := cor_1 T
 go_enter Tryz.func76, Tryz.ntmps76
 go_wp2_with fail
 refine zA2 fun W1 hW => ?_
 have Bt : Box W1 (w.heap.size) [.int .i64 T.A.x, .int .i64 T.A.y, .int .i64 T.B.x, .int .i64 T.B.y, .int .i64 T.C.x, .int .i64 T.C.y] 38 := by rw [hW]; exact (((Box.new rfl).old _).old _).old _
 have Ba : Box W1 (w.heap.size + 1) [.int .i64 a.x, .int .i64 a.y] 30 := by rw [hW]; exact ((Box.new (by simp)).old _).old _
 have Bb : Box W1 (w.heap.size + 1 + 1) [.int .i64 b.x, .int .i64 b.y] 30 := by rw [hW]; exact (Box.new (by simp)).old _
 have Br : Box W1 (w.heap.size + 1 + 1 + 1) [.int .i64 0, .int .i64 0] 30 := by rw [hW]; exact Box.new (by simp)
 have hw : Below w.heap.size w W1 := by rw [hW]; go_grown
 clear hW
 refine wp_loop_rounds 4 ?_
 try rw [rounds_succ]
 have Ft := Bt.facts
 have Fa := Ba.facts
 have Fb := Bb.facts
 have Fr := Br.facts
 go_wp2_with fail
 refine (cc0 _).mono ?_
 rintro e w2 ⟨rfl, hb⟩
 clear Ft Fa Fb Fr
 replace Bt := Bt.ee hb
 replace Ba := Ba.ee hb
 replace Bb := Bb.ee hb
 replace Br := Br.ee hb
 replace hw := upB hw hb
 clear hb
 have Ft := Bt.facts
 have Fa := Ba.facts
 have Fb := Bb.facts
 have Fr := Br.facts
 go_wp2_with fail
 clear Ft Fa Fb Fr
 refine zA2 fun W3 hW => ?_
 obtain ⟨bkp0, hbp0⟩ : ∃ b, w2.heap.size = b := ⟨_, rfl⟩
 rw [hbp0]
 have ltp0 := Bt.lt
 rw [hbp0] at ltp0
 have lap0 := Ba.lt
 rw [hbp0] at lap0
 have lbp0 := Bb.lt
 rw [hbp0] at lbp0
 have lrp0 := Br.lt
 rw [hbp0] at lrp0
 have fp0 := hw.size
 rw [hbp0] at fp0
 have Bp0 : Box W3 bkp0 [.int .i64 T.A.x, .int .i64 T.A.y] 30 := by rw [hW]; exact Box.new hbp0.symm
 replace Bt : Box W3 (w.heap.size) [.int .i64 T.A.x, .int .i64 T.A.y, .int .i64 T.B.x, .int .i64 T.B.y, .int .i64 T.C.x, .int .i64 T.C.y] 38 := by rw [hW]; exact Bt.old _
 replace Ba : Box W3 (w.heap.size + 1) [.int .i64 a.x, .int .i64 a.y] 30 := by rw [hW]; exact Ba.old _
 replace Bb : Box W3 (w.heap.size + 1 + 1) [.int .i64 b.x, .int .i64 b.y] 30 := by rw [hW]; exact Bb.old _
 replace Br : Box W3 (w.heap.size + 1 + 1 + 1) [.int .i64 0, .int .i64 0] 30 := by rw [hW]; exact Br.old _
 replace hw : Below w.heap.size w W3 := by have hl := hw.size; rw [hW]; go_grown
 clear hW hbp0
 have Ft := Bt.facts
 have Fa := Ba.facts
 have Fb := Bb.facts
 have Fr := Br.facts
 have Fp0 := Bp0.facts
 go_wp2_with fail
 clear Ft Fa Fb Fr Fp0
 try rw [rounds_succ]
 have Ft := Bt.facts
 have Fa := Ba.facts
 have Fb := Bb.facts
 have Fr := Br.facts
 have Fp0 := Bp0.facts
 go_wp2_with fail
 refine (cc1 _).mono ?_
 rintro e w4 ⟨rfl, hb⟩
 clear Ft Fa Fb Fr Fp0
 replace Bt := Bt.ee hb
 replace Ba := Ba.ee hb
 replace Bb := Bb.ee hb
 replace Br := Br.ee hb
 replace Bp0 := Bp0.ee hb
 replace hw := upB hw hb
 clear hb
 have Ft := Bt.facts
 have Fa := Ba.facts
 have Fb := Bb.facts
 have Fr := Br.facts
 have Fp0 := Bp0.facts
 go_wp2_with fail
 clear Ft Fa Fb Fr Fp0
 refine zA2 fun W5 hW => ?_
 obtain ⟨bkp1, hbp1⟩ : ∃ b, w4.heap.size = b := ⟨_, rfl⟩
 rw [hbp1]
 have ltp1 := Bt.lt
 rw [hbp1] at ltp1
 have lap1 := Ba.lt
 rw [hbp1] at lap1
 have lbp1 := Bb.lt
 rw [hbp1] at lbp1
 have lrp1 := Br.lt
 rw [hbp1] at lrp1
 have lp0p1 := Bp0.lt
 rw [hbp1] at lp0p1
 have fp1 := hw.size
 rw [hbp1] at fp1
 have Bp1 : Box W5 bkp1 [.int .i64 T.B.x, .int .i64 T.B.y] 30 := by rw [hW]; exact Box.new hbp1.symm
 replace Bt : Box W5 (w.heap.size) [.int .i64 T.A.x, .int .i64 T.A.y, .int .i64 T.B.x, .int .i64 T.B.y, .int .i64 T.C.x, .int .i64 T.C.y] 38 := by rw [hW]; exact Bt.old _
 replace Ba : Box W5 (w.heap.size + 1) [.int .i64 a.x, .int .i64 a.y] 30 := by rw [hW]; exact Ba.old _
 replace Bb : Box W5 (w.heap.size + 1 + 1) [.int .i64 b.x, .int .i64 b.y] 30 := by rw [hW]; exact Bb.old _
 replace Br : Box W5 (w.heap.size + 1 + 1 + 1) [.int .i64 0, .int .i64 0] 30 := by rw [hW]; exact Br.old _
 replace Bp0 : Box W5 (bkp0) [.int .i64 T.A.x, .int .i64 T.A.y] 30 := by rw [hW]; exact Bp0.old _
 replace hw : Below w.heap.size w W5 := by have hl := hw.size; rw [hW]; go_grown
 clear hW hbp1
 have Ft := Bt.facts
 have Fa := Ba.facts
 have Fb := Bb.facts
 have Fr := Br.facts
 have Fp0 := Bp0.facts
 have Fp1 := Bp1.facts
 go_wp2_with fail
 clear Ft Fa Fb Fr Fp0 Fp1
 try rw [rounds_succ]
 have Ft := Bt.facts
 have Fa := Ba.facts
 have Fb := Bb.facts
 have Fr := Br.facts
 have Fp0 := Bp0.facts
 have Fp1 := Bp1.facts
 go_wp2_with fail
 refine bodyPost_ret (v := .agg #[.int .i64 T.C.x, .int .i64 T.C.y]) (by simp [results, Tryz.results76, go_sem, Fr]) rfl ⟨rfl, by have hl := hw.size; go_grown⟩
theorem apex_20 (T : Tri3) (a b : Pt) (ha0 : peqI T.A.x T.A.y a.x a.y = false) (hb0 : peqI T.A.x T.A.y b.x b.y = true) (ha1 : peqI T.B.x T.B.y a.x a.y = false) (hb1 : peqI T.B.x T.B.y b.x b.y = false) (w : World) :
    Calls Tryz.prog 76 #[.agg #[.int .i64 T.A.x, .int .i64 T.A.y, .int .i64 T.B.x, .int .i64 T.B.y, .int .i64 T.C.x, .int .i64 T.C.y], .agg #[.int .i64 a.x, .int .i64 a.y], .agg #[.int .i64 b.x, .int .i64 b.y]] w fun e w' => e = .returned (.agg #[.int .i64 T.B.x, .int .i64 T.B.y]) ∧ Below w.heap.size w w' := by
 have cc0 := cor_0 T
 have cc1 := cor_1 T
 go_enter Tryz.func76, Tryz.ntmps76
 go_wp2_with fail
 refine zA2 fun W1 hW => ?_
 have Bt : Box W1 (w.heap.size) [.int .i64 T.A.x, .int .i64 T.A.y, .int .i64 T.B.x, .int .i64 T.B.y, .int .i64 T.C.x, .int .i64 T.C.y] 38 := by rw [hW]; exact (((Box.new rfl).old _).old _).old _
 have Ba : Box W1 (w.heap.size + 1) [.int .i64 a.x, .int .i64 a.y] 30 := by rw [hW]; exact ((Box.new (by simp)).old _).old _
 have Bb : Box W1 (w.heap.size + 1 + 1) [.int .i64 b.x, .int .i64 b.y] 30 := by rw [hW]; exact (Box.new (by simp)).old _
 have Br : Box W1 (w.heap.size + 1 + 1 + 1) [.int .i64 0, .int .i64 0] 30 := by rw [hW]; exact Box.new (by simp)
 have hw : Below w.heap.size w W1 := by rw [hW]; go_grown
 clear hW
 refine wp_loop_rounds 4 ?_
 try rw [rounds_succ]
 obtain ⟨xt, yt, zt, vt⟩ := Bt.facts
 obtain ⟨xa, ya, za, va⟩ := Ba.facts
 obtain ⟨xb, yb, zb, vb⟩ := Bb.facts
 obtain ⟨xr, yr, zr, vr⟩ := Br.facts
 go_wp2_with fail
 refine (cc0 _).mono ?_
 rintro e w2 ⟨rfl, hb⟩
 clear xt yt zt vt xa ya za va xb yb zb vb xr yr zr vr
 replace Bt := Bt.ee hb
 replace Ba := Ba.ee hb
 replace Bb := Bb.ee hb
 replace Br := Br.ee hb
 replace hw := upB hw hb
 clear hb
 obtain ⟨xt, yt, zt, vt⟩ := Bt.facts
 obtain ⟨xa, ya, za, va⟩ := Ba.facts
 obtain ⟨xb, yb, zb, vb⟩ := Bb.facts
 obtain ⟨xr, yr, zr, vr⟩ := Br.facts
 go_wp2_with fail
 clear xt yt zt vt xa ya za va xb yb zb vb xr yr zr vr
 refine zA2 fun W3 hW => ?_
 obtain ⟨bkp0, hbp0⟩ : ∃ b, w2.heap.size = b := ⟨_, rfl⟩
 rw [hbp0]
 have ltp0 := Bt.lt
 rw [hbp0] at ltp0
 have lap0 := Ba.lt
 rw [hbp0] at lap0
 have lbp0 := Bb.lt
 rw [hbp0] at lbp0
 have lrp0 := Br.lt
 rw [hbp0] at lrp0
 have fp0 := hw.size
 rw [hbp0] at fp0
 have Bp0 : Box W3 bkp0 [.int .i64 T.A.x, .int .i64 T.A.y] 30 := by rw [hW]; exact Box.new hbp0.symm
 replace Bt : Box W3 (w.heap.size) [.int .i64 T.A.x, .int .i64 T.A.y, .int .i64 T.B.x, .int .i64 T.B.y, .int .i64 T.C.x, .int .i64 T.C.y] 38 := by rw [hW]; exact Bt.old _
 replace Ba : Box W3 (w.heap.size + 1) [.int .i64 a.x, .int .i64 a.y] 30 := by rw [hW]; exact Ba.old _
 replace Bb : Box W3 (w.heap.size + 1 + 1) [.int .i64 b.x, .int .i64 b.y] 30 := by rw [hW]; exact Bb.old _
 replace Br : Box W3 (w.heap.size + 1 + 1 + 1) [.int .i64 0, .int .i64 0] 30 := by rw [hW]; exact Br.old _
 replace hw : Below w.heap.size w W3 := by have hl := hw.size; rw [hW]; go_grown
 clear hW hbp0
 obtain ⟨xt, yt, zt, vt⟩ := Bt.facts
 obtain ⟨xa, ya, za, va⟩ := Ba.facts
 obtain ⟨xb, yb, zb, vb⟩ := Bb.facts
 obtain ⟨xr, yr, zr, vr⟩ := Br.facts
 obtain ⟨xp0, yp0, zp0, vp0⟩ := Bp0.facts
 go_wp2_with fail
 clear xt yt zt vt xa ya za va xb yb zb vb xr yr zr vr xp0 yp0 zp0 vp0
 try rw [rounds_succ]
 obtain ⟨xt, yt, zt, vt⟩ := Bt.facts
 obtain ⟨xa, ya, za, va⟩ := Ba.facts
 obtain ⟨xb, yb, zb, vb⟩ := Bb.facts
 obtain ⟨xr, yr, zr, vr⟩ := Br.facts
 obtain ⟨xp0, yp0, zp0, vp0⟩ := Bp0.facts
 go_wp2_with fail
 refine (cc1 _).mono ?_
 rintro e w4 ⟨rfl, hb⟩
 clear xt yt zt vt xa ya za va xb yb zb vb xr yr zr vr xp0 yp0 zp0 vp0
 replace Bt := Bt.ee hb
 replace Ba := Ba.ee hb
 replace Bb := Bb.ee hb
 replace Br := Br.ee hb
 replace Bp0 := Bp0.ee hb
 replace hw := upB hw hb
 clear hb
 obtain ⟨xt, yt, zt, vt⟩ := Bt.facts
 obtain ⟨xa, ya, za, va⟩ := Ba.facts
 obtain ⟨xb, yb, zb, vb⟩ := Bb.facts
 obtain ⟨xr, yr, zr, vr⟩ := Br.facts
 obtain ⟨xp0, yp0, zp0, vp0⟩ := Bp0.facts
 go_wp2_with fail
 refine bodyPost_ret (v := .agg #[.int .i64 T.B.x, .int .i64 T.B.y]) (by simp [results, Tryz.results76, go_sem, xr, zr]) rfl ⟨rfl, by have hl := hw.size; go_grown⟩
theorem apex_21 (T : Tri3) (a b : Pt) (ha0 : peqI T.A.x T.A.y a.x a.y = false) (hb0 : peqI T.A.x T.A.y b.x b.y = true) (ha1 : peqI T.B.x T.B.y a.x a.y = true) (w : World) :
    Calls Tryz.prog 76 #[.agg #[.int .i64 T.A.x, .int .i64 T.A.y, .int .i64 T.B.x, .int .i64 T.B.y, .int .i64 T.C.x, .int .i64 T.C.y], .agg #[.int .i64 a.x, .int .i64 a.y], .agg #[.int .i64 b.x, .int .i64 b.y]] w fun e w' => e = .returned (.agg #[.int .i64 T.C.x, .int .i64 T.C.y]) ∧ Below w.heap.size w w' := by
 have cc0 := cor_0 T
 have cc1 := cor_1 T
 go_enter Tryz.func76, Tryz.ntmps76
 go_wp2_with fail
 refine zA2 fun W1 hW => ?_
 have Bt : Box W1 (w.heap.size) [.int .i64 T.A.x, .int .i64 T.A.y, .int .i64 T.B.x, .int .i64 T.B.y, .int .i64 T.C.x, .int .i64 T.C.y] 38 := by rw [hW]; exact (((Box.new rfl).old _).old _).old _
 have Ba : Box W1 (w.heap.size + 1) [.int .i64 a.x, .int .i64 a.y] 30 := by rw [hW]; exact ((Box.new (by simp)).old _).old _
 have Bb : Box W1 (w.heap.size + 1 + 1) [.int .i64 b.x, .int .i64 b.y] 30 := by rw [hW]; exact (Box.new (by simp)).old _
 have Br : Box W1 (w.heap.size + 1 + 1 + 1) [.int .i64 0, .int .i64 0] 30 := by rw [hW]; exact Box.new (by simp)
 have hw : Below w.heap.size w W1 := by rw [hW]; go_grown
 clear hW
 refine wp_loop_rounds 4 ?_
 try rw [rounds_succ]
 have Ft := Bt.facts
 have Fa := Ba.facts
 have Fb := Bb.facts
 have Fr := Br.facts
 go_wp2_with fail
 refine (cc0 _).mono ?_
 rintro e w2 ⟨rfl, hb⟩
 clear Ft Fa Fb Fr
 replace Bt := Bt.ee hb
 replace Ba := Ba.ee hb
 replace Bb := Bb.ee hb
 replace Br := Br.ee hb
 replace hw := upB hw hb
 clear hb
 have Ft := Bt.facts
 have Fa := Ba.facts
 have Fb := Bb.facts
 have Fr := Br.facts
 go_wp2_with fail
 clear Ft Fa Fb Fr
 refine zA2 fun W3 hW => ?_
 obtain ⟨bkp0, hbp0⟩ : ∃ b, w2.heap.size = b := ⟨_, rfl⟩
 rw [hbp0]
 have ltp0 := Bt.lt
 rw [hbp0] at ltp0
 have lap0 := Ba.lt
 rw [hbp0] at lap0
 have lbp0 := Bb.lt
 rw [hbp0] at lbp0
 have lrp0 := Br.lt
 rw [hbp0] at lrp0
 have fp0 := hw.size
 rw [hbp0] at fp0
 have Bp0 : Box W3 bkp0 [.int .i64 T.A.x, .int .i64 T.A.y] 30 := by rw [hW]; exact Box.new hbp0.symm
 replace Bt : Box W3 (w.heap.size) [.int .i64 T.A.x, .int .i64 T.A.y, .int .i64 T.B.x, .int .i64 T.B.y, .int .i64 T.C.x, .int .i64 T.C.y] 38 := by rw [hW]; exact Bt.old _
 replace Ba : Box W3 (w.heap.size + 1) [.int .i64 a.x, .int .i64 a.y] 30 := by rw [hW]; exact Ba.old _
 replace Bb : Box W3 (w.heap.size + 1 + 1) [.int .i64 b.x, .int .i64 b.y] 30 := by rw [hW]; exact Bb.old _
 replace Br : Box W3 (w.heap.size + 1 + 1 + 1) [.int .i64 0, .int .i64 0] 30 := by rw [hW]; exact Br.old _
 replace hw : Below w.heap.size w W3 := by have hl := hw.size; rw [hW]; go_grown
 clear hW hbp0
 have Ft := Bt.facts
 have Fa := Ba.facts
 have Fb := Bb.facts
 have Fr := Br.facts
 have Fp0 := Bp0.facts
 go_wp2_with fail
 clear Ft Fa Fb Fr Fp0
 try rw [rounds_succ]
 have Ft := Bt.facts
 have Fa := Ba.facts
 have Fb := Bb.facts
 have Fr := Br.facts
 have Fp0 := Bp0.facts
 go_wp2_with fail
 refine (cc1 _).mono ?_
 rintro e w4 ⟨rfl, hb⟩
 clear Ft Fa Fb Fr Fp0
 replace Bt := Bt.ee hb
 replace Ba := Ba.ee hb
 replace Bb := Bb.ee hb
 replace Br := Br.ee hb
 replace Bp0 := Bp0.ee hb
 replace hw := upB hw hb
 clear hb
 have Ft := Bt.facts
 have Fa := Ba.facts
 have Fb := Bb.facts
 have Fr := Br.facts
 have Fp0 := Bp0.facts
 go_wp2_with fail
 clear Ft Fa Fb Fr Fp0
 refine zA2 fun W5 hW => ?_
 obtain ⟨bkp1, hbp1⟩ : ∃ b, w4.heap.size = b := ⟨_, rfl⟩
 rw [hbp1]
 have ltp1 := Bt.lt
 rw [hbp1] at ltp1
 have lap1 := Ba.lt
 rw [hbp1] at lap1
 have lbp1 := Bb.lt
 rw [hbp1] at lbp1
 have lrp1 := Br.lt
 rw [hbp1] at lrp1
 have lp0p1 := Bp0.lt
 rw [hbp1] at lp0p1
 have fp1 := hw.size
 rw [hbp1] at fp1
 have Bp1 : Box W5 bkp1 [.int .i64 T.B.x, .int .i64 T.B.y] 30 := by rw [hW]; exact Box.new hbp1.symm
 replace Bt : Box W5 (w.heap.size) [.int .i64 T.A.x, .int .i64 T.A.y, .int .i64 T.B.x, .int .i64 T.B.y, .int .i64 T.C.x, .int .i64 T.C.y] 38 := by rw [hW]; exact Bt.old _
 replace Ba : Box W5 (w.heap.size + 1) [.int .i64 a.x, .int .i64 a.y] 30 := by rw [hW]; exact Ba.old _
 replace Bb : Box W5 (w.heap.size + 1 + 1) [.int .i64 b.x, .int .i64 b.y] 30 := by rw [hW]; exact Bb.old _
 replace Br : Box W5 (w.heap.size + 1 + 1 + 1) [.int .i64 0, .int .i64 0] 30 := by rw [hW]; exact Br.old _
 replace Bp0 : Box W5 (bkp0) [.int .i64 T.A.x, .int .i64 T.A.y] 30 := by rw [hW]; exact Bp0.old _
 replace hw : Below w.heap.size w W5 := by have hl := hw.size; rw [hW]; go_grown
 clear hW hbp1
 have Ft := Bt.facts
 have Fa := Ba.facts
 have Fb := Bb.facts
 have Fr := Br.facts
 have Fp0 := Bp0.facts
 have Fp1 := Bp1.facts
 go_wp2_with fail
 clear Ft Fa Fb Fr Fp0 Fp1
 try rw [rounds_succ]
 have Ft := Bt.facts
 have Fa := Ba.facts
 have Fb := Bb.facts
 have Fr := Br.facts
 have Fp0 := Bp0.facts
 have Fp1 := Bp1.facts
 go_wp2_with fail
 refine bodyPost_ret (v := .agg #[.int .i64 T.C.x, .int .i64 T.C.y]) (by simp [results, Tryz.results76, go_sem, Fr]) rfl ⟨rfl, by have hl := hw.size; go_grown⟩
theorem apex_22 (T : Tri3) (a b : Pt) (ha0 : peqI T.A.x T.A.y a.x a.y = false) (hb0 : peqI T.A.x T.A.y b.x b.y = true) (ha1 : peqI T.B.x T.B.y a.x a.y = false) (hb1 : peqI T.B.x T.B.y b.x b.y = true) (w : World) :
    Calls Tryz.prog 76 #[.agg #[.int .i64 T.A.x, .int .i64 T.A.y, .int .i64 T.B.x, .int .i64 T.B.y, .int .i64 T.C.x, .int .i64 T.C.y], .agg #[.int .i64 a.x, .int .i64 a.y], .agg #[.int .i64 b.x, .int .i64 b.y]] w fun e w' => e = .returned (.agg #[.int .i64 T.C.x, .int .i64 T.C.y]) ∧ Below w.heap.size w w' := by
 have cc0 := cor_0 T
 have cc1 := cor_1 T
 go_enter Tryz.func76, Tryz.ntmps76
 go_wp2_with fail
 refine zA2 fun W1 hW => ?_
 have Bt : Box W1 (w.heap.size) [.int .i64 T.A.x, .int .i64 T.A.y, .int .i64 T.B.x, .int .i64 T.B.y, .int .i64 T.C.x, .int .i64 T.C.y] 38 := by rw [hW]; exact (((Box.new rfl).old _).old _).old _
 have Ba : Box W1 (w.heap.size + 1) [.int .i64 a.x, .int .i64 a.y] 30 := by rw [hW]; exact ((Box.new (by simp)).old _).old _
 have Bb : Box W1 (w.heap.size + 1 + 1) [.int .i64 b.x, .int .i64 b.y] 30 := by rw [hW]; exact (Box.new (by simp)).old _
 have Br : Box W1 (w.heap.size + 1 + 1 + 1) [.int .i64 0, .int .i64 0] 30 := by rw [hW]; exact Box.new (by simp)
 have hw : Below w.heap.size w W1 := by rw [hW]; go_grown
 clear hW
 refine wp_loop_rounds 4 ?_
 try rw [rounds_succ]
 have Ft := Bt.facts
 have Fa := Ba.facts
 have Fb := Bb.facts
 have Fr := Br.facts
 go_wp2_with fail
 refine (cc0 _).mono ?_
 rintro e w2 ⟨rfl, hb⟩
 clear Ft Fa Fb Fr
 replace Bt := Bt.ee hb
 replace Ba := Ba.ee hb
 replace Bb := Bb.ee hb
 replace Br := Br.ee hb
 replace hw := upB hw hb
 clear hb
 have Ft := Bt.facts
 have Fa := Ba.facts
 have Fb := Bb.facts
 have Fr := Br.facts
 go_wp2_with fail
 clear Ft Fa Fb Fr
 refine zA2 fun W3 hW => ?_
 obtain ⟨bkp0, hbp0⟩ : ∃ b, w2.heap.size = b := ⟨_, rfl⟩
 rw [hbp0]
 have ltp0 := Bt.lt
 rw [hbp0] at ltp0
 have lap0 := Ba.lt
 rw [hbp0] at lap0
 have lbp0 := Bb.lt
 rw [hbp0] at lbp0
 have lrp0 := Br.lt
 rw [hbp0] at lrp0
 have fp0 := hw.size
 rw [hbp0] at fp0
 have Bp0 : Box W3 bkp0 [.int .i64 T.A.x, .int .i64 T.A.y] 30 := by rw [hW]; exact Box.new hbp0.symm
 replace Bt : Box W3 (w.heap.size) [.int .i64 T.A.x, .int .i64 T.A.y, .int .i64 T.B.x, .int .i64 T.B.y, .int .i64 T.C.x, .int .i64 T.C.y] 38 := by rw [hW]; exact Bt.old _
 replace Ba : Box W3 (w.heap.size + 1) [.int .i64 a.x, .int .i64 a.y] 30 := by rw [hW]; exact Ba.old _
 replace Bb : Box W3 (w.heap.size + 1 + 1) [.int .i64 b.x, .int .i64 b.y] 30 := by rw [hW]; exact Bb.old _
 replace Br : Box W3 (w.heap.size + 1 + 1 + 1) [.int .i64 0, .int .i64 0] 30 := by rw [hW]; exact Br.old _
 replace hw : Below w.heap.size w W3 := by have hl := hw.size; rw [hW]; go_grown
 clear hW hbp0
 have Ft := Bt.facts
 have Fa := Ba.facts
 have Fb := Bb.facts
 have Fr := Br.facts
 have Fp0 := Bp0.facts
 go_wp2_with fail
 clear Ft Fa Fb Fr Fp0
 try rw [rounds_succ]
 have Ft := Bt.facts
 have Fa := Ba.facts
 have Fb := Bb.facts
 have Fr := Br.facts
 have Fp0 := Bp0.facts
 go_wp2_with fail
 refine (cc1 _).mono ?_
 rintro e w4 ⟨rfl, hb⟩
 clear Ft Fa Fb Fr Fp0
 replace Bt := Bt.ee hb
 replace Ba := Ba.ee hb
 replace Bb := Bb.ee hb
 replace Br := Br.ee hb
 replace Bp0 := Bp0.ee hb
 replace hw := upB hw hb
 clear hb
 have Ft := Bt.facts
 have Fa := Ba.facts
 have Fb := Bb.facts
 have Fr := Br.facts
 have Fp0 := Bp0.facts
 go_wp2_with fail
 clear Ft Fa Fb Fr Fp0
 refine zA2 fun W5 hW => ?_
 obtain ⟨bkp1, hbp1⟩ : ∃ b, w4.heap.size = b := ⟨_, rfl⟩
 rw [hbp1]
 have ltp1 := Bt.lt
 rw [hbp1] at ltp1
 have lap1 := Ba.lt
 rw [hbp1] at lap1
 have lbp1 := Bb.lt
 rw [hbp1] at lbp1
 have lrp1 := Br.lt
 rw [hbp1] at lrp1
 have lp0p1 := Bp0.lt
 rw [hbp1] at lp0p1
 have fp1 := hw.size
 rw [hbp1] at fp1
 have Bp1 : Box W5 bkp1 [.int .i64 T.B.x, .int .i64 T.B.y] 30 := by rw [hW]; exact Box.new hbp1.symm
 replace Bt : Box W5 (w.heap.size) [.int .i64 T.A.x, .int .i64 T.A.y, .int .i64 T.B.x, .int .i64 T.B.y, .int .i64 T.C.x, .int .i64 T.C.y] 38 := by rw [hW]; exact Bt.old _
 replace Ba : Box W5 (w.heap.size + 1) [.int .i64 a.x, .int .i64 a.y] 30 := by rw [hW]; exact Ba.old _
 replace Bb : Box W5 (w.heap.size + 1 + 1) [.int .i64 b.x, .int .i64 b.y] 30 := by rw [hW]; exact Bb.old _
 replace Br : Box W5 (w.heap.size + 1 + 1 + 1) [.int .i64 0, .int .i64 0] 30 := by rw [hW]; exact Br.old _
 replace Bp0 : Box W5 (bkp0) [.int .i64 T.A.x, .int .i64 T.A.y] 30 := by rw [hW]; exact Bp0.old _
 replace hw : Below w.heap.size w W5 := by have hl := hw.size; rw [hW]; go_grown
 clear hW hbp1
 have Ft := Bt.facts
 have Fa := Ba.facts
 have Fb := Bb.facts
 have Fr := Br.facts
 have Fp0 := Bp0.facts
 have Fp1 := Bp1.facts
 go_wp2_with fail
 clear Ft Fa Fb Fr Fp0 Fp1
 try rw [rounds_succ]
 have Ft := Bt.facts
 have Fa := Ba.facts
 have Fb := Bb.facts
 have Fr := Br.facts
 have Fp0 := Bp0.facts
 have Fp1 := Bp1.facts
 go_wp2_with fail
 refine bodyPost_ret (v := .agg #[.int .i64 T.C.x, .int .i64 T.C.y]) (by simp [results, Tryz.results76, go_sem, Fr]) rfl ⟨rfl, by have hl := hw.size; go_grown⟩
end Go.Proofs.YtmobnmjjmafibaaGreat
