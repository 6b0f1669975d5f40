/- Put together: MesC, MesD, MesE, MesF, MesU, TrC, CdtB, MesG. -/
import Derived.Test.YtmobnmjjmafibaaGreatRows
import Derived.Test.YtmobnmjjmafibaaGreatPut5
import Derived.Test.YtmobnmjjmafibaaGreatPut0
import Derived.WalkKit
import Derived.WalkSpells
import Derived.WalkLawsBesides
import Derived.Laws.Externs
import Derived.Deep.QuietTactic
import Derived.BigQuiet
import Derived.Lib.Hide
import Derived.Handy
import Derived.LoopN
import Derived.RegionTactic
import Derived.Laws.Cover3
import Derived.Maps.OwnSet
import Derived.Maps.OwnOps
set_option maxRecDepth 100000
set_option maxHeartbeats 8000000
namespace Go.Proofs.YtmobnmjjmafibaaGreat
open Go.RowKit Go.Sort
attribute [local go_sem] rOper rAt rUpon cell_set sg_i64 sg_u64 alloc_cell alloc_frozen
attribute [local go_sem 10000] pt_eql pt_neq tri_eql
attribute [local irreducible] rWalk
def hasE (E : List ((Pt × Pt) × Tri3)) (T : Tri3) : Bool := match getE E (T.A, T.B) with | some s => teq s T | none => false
def fitsE (E : List ((Pt × Pt) × Tri3)) (T : Tri3) : Bool := (getE E (T.A, T.B)).isNone && ((getE E (T.B, T.C)).isNone && ((getE E (T.C, T.A)).isNone && valT T))
theorem okT_w {T : Tri3} (h : okT T) : okW (T.A, T.B) ∧ okW (T.B, T.C) ∧ okW (T.C, T.A) := ⟨⟨h.1, h.2.1⟩, ⟨h.2.1, h.2.2⟩, ⟨h.2.2, h.1⟩⟩
theorem way_0 (T : Tri3) (w : World) : Calls Tryz.prog 116 #[.agg #[.int .i64 T.A.x, .int .i64 T.A.y, .int .i64 T.B.x, .int .i64 T.B.y, .int .i64 T.C.x, .int .i64 T.C.y], .int .i64 0] w fun e w' => e = .returned (.agg #[.int .i64 T.A.x, .int .i64 T.A.y, .int .i64 T.B.x, .int .i64 T.B.y]) ∧ Below w.heap.size w w' := zI9 T 0 w
theorem way_1 (T : Tri3) (w : World) : Calls Tryz.prog 116 #[.agg #[.int .i64 T.A.x, .int .i64 T.A.y, .int .i64 T.B.x, .int .i64 T.B.y, .int .i64 T.C.x, .int .i64 T.C.y], .int .i64 1] w fun e w' => e = .returned (.agg #[.int .i64 T.B.x, .int .i64 T.B.y, .int .i64 T.C.x, .int .i64 T.C.y]) ∧ Below w.heap.size w w' := zI9 T 1 w
theorem way_2 (T : Tri3) (w : World) : Calls Tryz.prog 116 #[.agg #[.int .i64 T.A.x, .int .i64 T.A.y, .int .i64 T.B.x, .int .i64 T.B.y, .int .i64 T.C.x, .int .i64 T.C.y], .int .i64 2] w fun e w' => e = .returned (.agg #[.int .i64 T.C.x, .int .i64 T.C.y, .int .i64 T.A.x, .int .i64 T.A.y]) ∧ Below w.heap.size w w' := zI9 T 2 w
theorem mhas_1 (mb b : Nat) (E : List ((Pt × Pt) × Tri3)) (T : Tri3) (S : Tri3) (hg : getE E (T.A, T.B) = some S) (hk : okT T) (w : World) (Bm : Box w mb [.map (some b)] 89) (Hm : HoldsMap eW eT okW w b E) :
    Calls Tryz.prog 37 #[.pointer (some ⟨mb, 0, none⟩), .agg #[.int .i64 T.A.x, .int .i64 T.A.y, .int .i64 T.B.x, .int .i64 T.B.y, .int .i64 T.C.x, .int .i64 T.C.y]] w fun e w' => e = .returned (.bool (teq S T)) ∧ Below w.heap.size w w' := by
 go_enter Tryz.func37, Tryz.ntmps37
 go_wp2_with fail
 refine zA1 fun W1 hW => ?_
 have Bt : Box W1 (w.heap.size) [.int .i64 T.A.x, .int .i64 T.A.y, .int .i64 T.B.x, .int .i64 T.B.y, .int .i64 T.C.x, .int .i64 T.C.y] 38 := by rw [hW]; exact Box.new rfl
 have hw : Below w.heap.size w W1 := by rw [hW]; go_grown
 clear hW
 refine (left_1 mb b E T.A T.B S hg (okT_w hk).1 _ (Bm.ee hw) (Hm.ee hw)).mono ?_
 rintro e w2 ⟨rfl, hb⟩
 replace Bt := Bt.ee hb
 replace hw := upB hw hb
 clear hb
 clear hg hk
 have Ft := Bt.facts
 go_wp2
 go_ret
 exact ⟨rfl, by have hl := hw.size; go_grown⟩
theorem mhas_0 (mb b : Nat) (E : List ((Pt × Pt) × Tri3)) (T : Tri3) (hg : getE E (T.A, T.B) = none) (hk : okT T) (w : World) (Bm : Box w mb [.map (some b)] 89) (Hm : HoldsMap eW eT okW w b E) :
    Calls Tryz.prog 37 #[.pointer (some ⟨mb, 0, none⟩), .agg #[.int .i64 T.A.x, .int .i64 T.A.y, .int .i64 T.B.x, .int .i64 T.B.y, .int .i64 T.C.x, .int .i64 T.C.y]] w fun e w' => e = .returned (.bool false) ∧ Below w.heap.size w w' := by
 go_enter Tryz.func37, Tryz.ntmps37
 go_wp2_with fail
 refine zA1 fun W1 hW => ?_
 have Bt : Box W1 (w.heap.size) [.int .i64 T.A.x, .int .i64 T.A.y, .int .i64 T.B.x, .int .i64 T.B.y, .int .i64 T.C.x, .int .i64 T.C.y] 38 := by rw [hW]; exact Box.new rfl
 have hw : Below w.heap.size w W1 := by rw [hW]; go_grown
 clear hW
 refine (left_0 mb b E T.A T.B hg (okT_w hk).1 _ (Bm.ee hw) (Hm.ee hw)).mono ?_
 rintro e w2 ⟨rfl, hb⟩
 replace Bt := Bt.ee hb
 replace hw := upB hw hb
 clear hb
 clear hg hk
 have Ft := Bt.facts
 go_wp2
 go_ret
 exact ⟨rfl, by have hl := hw.size; go_grown⟩
theorem zIp (mb b : Nat) (E : List ((Pt × Pt) × Tri3)) (T : Tri3) (hk : okT T) (w : World) (Bm : Box w mb [.map (some b)] 89) (Hm : HoldsMap eW eT okW w b E) :
    Calls Tryz.prog 37 #[.pointer (some ⟨mb, 0, none⟩), .agg #[.int .i64 T.A.x, .int .i64 T.A.y, .int .i64 T.B.x, .int .i64 T.B.y, .int .i64 T.C.x, .int .i64 T.C.y]] w fun e w' => e = .returned (.bool (hasE E T)) ∧ Below w.heap.size w w' := by
 cases h : getE E (T.A, T.B) with
 | none => rw [show hasE E T = false by unfold hasE; rw [h]]; exact mhas_0 mb b E T h hk w Bm Hm
 | some S => rw [show hasE E T = teq S T by unfold hasE; rw [h]]; exact mhas_1 mb b E T S h hk w Bm Hm
theorem fits_0 (mb b : Nat) (E : List ((Pt × Pt) × Tri3)) (T : Tri3) (S : Tri3) (hg0 : getE E (T.A, T.B) = some S) (hk : okT T) (w : World) (Bm : Box w mb [.map (some b)] 89) (Hm : HoldsMap eW eT okW w b E) :
    Calls Tryz.prog 115 #[.pointer (some ⟨mb, 0, none⟩), .agg #[.int .i64 T.A.x, .int .i64 T.A.y, .int .i64 T.B.x, .int .i64 T.B.y, .int .i64 T.C.x, .int .i64 T.C.y]] w fun e w' => e = .returned (.bool false) ∧ Below w.heap.size w w' := by
 go_enter Tryz.func115, Tryz.ntmps115
 go_wp2_with fail
 refine zA2 fun W1 hW => ?_
 have Bt : Box W1 (w.heap.size) [.int .i64 T.A.x, .int .i64 T.A.y, .int .i64 T.B.x, .int .i64 T.B.y, .int .i64 T.C.x, .int .i64 T.C.y] 38 := by rw [hW]; exact Box.new rfl
 have hw : Below w.heap.size w W1 := by rw [hW]; go_grown
 clear hW
 have BM : Box W1 (mb) [.map (some b)] 89 := Bm.ee hw
 refine wp_loop_rounds 5 ?_
 try rw [rounds_succ]
 have Ft := Bt.facts
 have FM := BM.facts
 go_wp2_with fail
 have hl : ∀ d os, (Instr.lookup 87 (.map (some b)) (.agg #[.int .i64 T.A.x, .int .i64 T.A.y, .int .i64 T.B.x, .int .i64 T.B.y]) true).run Tryz.prog (grow (redrawn W1 d) os) = .ok (.tuple #[.agg #[.int .i64 S.A.x, .int .i64 S.A.y, .int .i64 S.B.x, .int .i64 S.B.y, .int .i64 S.C.x, .int .i64 S.C.y], .bool true]) (grow (redrawn W1 d) os) := fun d os => ((Hm.ee hw).ext (below_regrown W1 d os) rfl).look_some kvM zAo (okT_w hk).1 hg0
 clear hg0
 have gt := Bt.cells
 have gM := BM.cells
 refine zA4 11 6 20 [.int .i64 S.A.x, .int .i64 S.A.y, .int .i64 S.B.x, .int .i64 S.B.y, .int .i64 S.C.x, .int .i64 S.C.y] (zs := [.int .i64 0, .int .i64 0, .int .i64 0, .int .i64 0, .int .i64 0, .int .i64 0]) (eff := eff6 (.int .i64 S.A.x) (.int .i64 S.A.y) (.int .i64 S.B.x) (.int .i64 S.B.y) (.int .i64 S.C.x) (.int .i64 S.C.y)) zAc rfl rfl rfl rfl rfl rfl rfl (by simp) (fun ρ W => by simp [execOp, go_sem]; rfl) (by kernel_rfl) (by as_aux_lemma => kernel_rfl) (C := fun w' => ∃ p : Regrown, w' = grow (redrawn W1 p.d) p.os) rgB ?_ (fun ρ W b e1 e2 hB => by obtain ⟨x, y, _, _⟩ := hB.facts; simp [execOp, go_sem, e1, e2, x, y, eff6])
 simp only [tK1, tK0, dP1, dP0]
 repeat (first | (refine zA0 (Eq.refl false) ?_; simp only [Act.put, sT2, sT1, sT0]) | (refine rWalk_step (fun K hK => ?_); go_simp; first | (refine hK _ ?_; clear hK K) | (apply Exists.intro; refine ⟨fun _ => ?_, hK _ ?_⟩; (first | with_reducible exact toExt (way_0 T) _); clear hK K)))
 refine rWalk_nil ⟨rfl, ?_⟩
 intro w2 bks0 hb h1b h2b Bs0
 have lts0 := Bt.lt
 have lMs0 := BM.lt
 have hw0z := hw.size
 clear gt gM
 clear Ft FM
 replace Bt := Bt.ee hb
 replace BM := BM.ee hb
 replace hw := upB hw hb
 have fs0 := h1b
 have hwz : w.heap.size ≤ W1.heap.size := hw0z
 clear hb h1b h2b hw0z
 simp only [Act.put]
 clear hl
 have Ft := Bt.facts
 have FM := BM.facts
 have Fs0 := Bs0.facts
 go_wp2
 go_ret
 exact ⟨rfl, hw⟩
theorem fits_1 (mb b : Nat) (E : List ((Pt × Pt) × Tri3)) (T : Tri3) (S : Tri3) (hg0 : getE E (T.A, T.B) = none) (hg1 : getE E (T.B, T.C) = some S) (hk : okT T) (w : World) (Bm : Box w mb [.map (some b)] 89) (Hm : HoldsMap eW eT okW w b E) :
    Calls Tryz.prog 115 #[.pointer (some ⟨mb, 0, none⟩), .agg #[.int .i64 T.A.x, .int .i64 T.A.y, .int .i64 T.B.x, .int .i64 T.B.y, .int .i64 T.C.x, .int .i64 T.C.y]] w fun e w' => e = .returned (.bool false) ∧ Below w.heap.size w w' := by
 go_enter Tryz.func115, Tryz.ntmps115
 go_wp2_with fail
 refine zA2 fun W1 hW => ?_
 have Bt : Box W1 (w.heap.size) [.int .i64 T.A.x, .int .i64 T.A.y, .int .i64 T.B.x, .int .i64 T.B.y, .int .i64 T.C.x, .int .i64 T.C.y] 38 := by rw [hW]; exact Box.new rfl
 have hw : Below w.heap.size w W1 := by rw [hW]; go_grown
 clear hW
 have BM : Box W1 (mb) [.map (some b)] 89 := Bm.ee hw
 refine wp_loop_rounds 5 ?_
 try rw [rounds_succ]
 have Ft := Bt.facts
 have FM := BM.facts
 go_wp2_with fail
 have hl : ∀ d os, (Instr.lookup 87 (.map (some b)) (.agg #[.int .i64 T.A.x, .int .i64 T.A.y, .int .i64 T.B.x, .int .i64 T.B.y]) true).run Tryz.prog (grow (redrawn W1 d) os) = .ok (.tuple #[.agg #[.int .i64 0, .int .i64 0, .int .i64 0, .int .i64 0, .int .i64 0, .int .i64 0], .bool false]) (grow (redrawn W1 d) os) := fun d os => ((Hm.ee hw).ext (below_regrown W1 d os) rfl).look_none kvM zAo (okT_w hk).1 hg0
 clear hg0
 have gt := Bt.cells
 have gM := BM.cells
 refine zA4 11 6 20 [.int .i64 0, .int .i64 0, .int .i64 0, .int .i64 0, .int .i64 0, .int .i64 0] (zs := [.int .i64 0, .int .i64 0, .int .i64 0, .int .i64 0, .int .i64 0, .int .i64 0]) (eff := eff6 (.int .i64 0) (.int .i64 0) (.int .i64 0) (.int .i64 0) (.int .i64 0) (.int .i64 0)) zAc rfl rfl rfl rfl rfl rfl rfl (by simp) (fun ρ W => by simp [execOp, go_sem]; rfl) (by kernel_rfl) (by as_aux_lemma => kernel_rfl) (C := fun w' => ∃ p : Regrown, w' = grow (redrawn W1 p.d) p.os) rgB ?_ (fun ρ W b e1 e2 hB => by obtain ⟨x, y, _, _⟩ := hB.facts; simp [execOp, go_sem, e1, e2, x, y, eff6])
 simp only [tK1, tK0, dP1, dP0]
 repeat (first | (refine zA0 (Eq.refl false) ?_; simp only [Act.put, sT2, sT1, sT0]) | (refine rWalk_step (fun K hK => ?_); go_simp; first | (refine hK _ ?_; clear hK K) | (apply Exists.intro; refine ⟨fun _ => ?_, hK _ ?_⟩; (first | with_reducible exact toExt (way_0 T) _); clear hK K)))
 refine rWalk_nil ⟨rfl, ?_⟩
 intro w2 bks0 hb h1b h2b Bs0
 have lts0 := Bt.lt
 have lMs0 := BM.lt
 have hw0z := hw.size
 clear gt gM
 clear Ft FM
 replace Bt := Bt.ee hb
 replace BM := BM.ee hb
 replace hw := upB hw hb
 have fs0 := h1b
 have hwz : w.heap.size ≤ W1.heap.size := hw0z
 clear hb h1b h2b hw0z
 simp only [Act.put]
 clear hl
 have Ft := Bt.facts
 have FM := BM.facts
 have Fs0 := Bs0.facts
 go_wp2_with fail
 clear Ft FM Fs0
 try rw [rounds_succ]
 have Ft := Bt.facts
 have FM := BM.facts
 have Fs0 := Bs0.facts
 go_wp2_with fail
 refine zA2 fun W3 hW => ?_
 replace hw : Below w.heap.size w W3 := by rw [hW]; exact hw
 replace Bt : Box W3 (w.heap.size) [.int .i64 T.A.x, .int .i64 T.A.y, .int .i64 T.B.x, .int .i64 T.B.y, .int .i64 T.C.x, .int .i64 T.C.y] 38 := by rw [hW]; exact Bt
 replace BM : Box W3 (mb) [.map (some b)] 89 := by rw [hW]; exact BM
 replace Bs0 : Box W3 (bks0) [.int .i64 0, .int .i64 0, .int .i64 0, .int .i64 0, .int .i64 0, .int .i64 0] 38 := by rw [hW]; exact Bs0
 clear hW
 clear Ft FM Fs0
 have hl : ∀ d os, (Instr.lookup 87 (.map (some b)) (.agg #[.int .i64 T.B.x, .int .i64 T.B.y, .int .i64 T.C.x, .int .i64 T.C.y]) true).run Tryz.prog (grow (redrawn W3 d) os) = .ok (.tuple #[.agg #[.int .i64 S.A.x, .int .i64 S.A.y, .int .i64 S.B.x, .int .i64 S.B.y, .int .i64 S.C.x, .int .i64 S.C.y], .bool true]) (grow (redrawn W3 d) os) := fun d os => ((Hm.ee hw).ext (below_regrown W3 d os) rfl).look_some kvM zAo (okT_w hk).2.1 hg1
 clear hg1
 have gt := Bt.cells
 have gM := BM.cells
 have gs0 := Bs0.cells
 refine zA4 11 6 20 [.int .i64 S.A.x, .int .i64 S.A.y, .int .i64 S.B.x, .int .i64 S.B.y, .int .i64 S.C.x, .int .i64 S.C.y] (zs := [.int .i64 0, .int .i64 0, .int .i64 0, .int .i64 0, .int .i64 0, .int .i64 0]) (eff := eff6 (.int .i64 S.A.x) (.int .i64 S.A.y) (.int .i64 S.B.x) (.int .i64 S.B.y) (.int .i64 S.C.x) (.int .i64 S.C.y)) zAc rfl rfl rfl rfl rfl rfl rfl (by simp) (fun ρ W => by simp [execOp, go_sem]; rfl) (by kernel_rfl) (by as_aux_lemma => kernel_rfl) (C := fun w' => ∃ p : Regrown, w' = grow (redrawn W3 p.d) p.os) rgB ?_ (fun ρ W b e1 e2 hB => by obtain ⟨x, y, _, _⟩ := hB.facts; simp [execOp, go_sem, e1, e2, x, y, eff6])
 simp only [tK1, tK0, dP1, dP0]
 repeat (first | (refine zA0 (Eq.refl false) ?_; simp only [Act.put, sT2, sT1, sT0]) | (refine rWalk_step (fun K hK => ?_); go_simp; first | (refine hK _ ?_; clear hK K) | (apply Exists.intro; refine ⟨fun _ => ?_, hK _ ?_⟩; (first | with_reducible exact toExt (way_1 T) _); clear hK K)))
 refine rWalk_nil ⟨rfl, ?_⟩
 intro w4 bks1 hb h1b h2b Bs1
 have lts1 := Bt.lt
 have lMs1 := BM.lt
 have ls0s1 := Bs0.lt
 have hw0z := hw.size
 clear gt gM gs0
 replace Bt := Bt.ee hb
 replace BM := BM.ee hb
 replace Bs0 := Bs0.ee hb
 replace hw := upB hw hb
 have fs1 := h1b
 have hwz : w.heap.size ≤ W3.heap.size := hw0z
 clear hb h1b h2b hw0z
 simp only [Act.put]
 clear hl
 have Ft := Bt.facts
 have FM := BM.facts
 have Fs0 := Bs0.facts
 have Fs1 := Bs1.facts
 go_wp2
 go_ret
 exact ⟨rfl, hw⟩
theorem fits_2 (mb b : Nat) (E : List ((Pt × Pt) × Tri3)) (T : Tri3) (S : Tri3) (hg0 : getE E (T.A, T.B) = none) (hg1 : getE E (T.B, T.C) = none) (hg2 : getE E (T.C, T.A) = some S) (hk : okT T) (w : World) (Bm : Box w mb [.map (some b)] 89) (Hm : HoldsMap eW eT okW w b E) :
    Calls Tryz.prog 115 #[.pointer (some ⟨mb, 0, none⟩), .agg #[.int .i64 T.A.x, .int .i64 T.A.y, .int .i64 T.B.x, .int .i64 T.B.y, .int .i64 T.C.x, .int .i64 T.C.y]] w fun e w' => e = .returned (.bool false) ∧ Below w.heap.size w w' := by
 go_enter Tryz.func115, Tryz.ntmps115
 go_wp2_with fail
 refine zA2 fun W1 hW => ?_
 have Bt : Box W1 (w.heap.size) [.int .i64 T.A.x, .int .i64 T.A.y, .int .i64 T.B.x, .int .i64 T.B.y, .int .i64 T.C.x, .int .i64 T.C.y] 38 := by rw [hW]; exact Box.new rfl
 have hw : Below w.heap.size w W1 := by rw [hW]; go_grown
 clear hW
 have BM : Box W1 (mb) [.map (some b)] 89 := Bm.ee hw
 refine wp_loop_rounds 5 ?_
 try rw [rounds_succ]
 have Ft := Bt.facts
 have FM := BM.facts
 go_wp2_with fail
 have hl : ∀ d os, (Instr.lookup 87 (.map (some b)) (.agg #[.int .i64 T.A.x, .int .i64 T.A.y, .int .i64 T.B.x, .int .i64 T.B.y]) true).run Tryz.prog (grow (redrawn W1 d) os) = .ok (.tuple #[.agg #[.int .i64 0, .int .i64 0, .int .i64 0, .int .i64 0, .int .i64 0, .int .i64 0], .bool false]) (grow (redrawn W1 d) os) := fun d os => ((Hm.ee hw).ext (below_regrown W1 d os) rfl).look_none kvM zAo (okT_w hk).1 hg0
 clear hg0
 have gt := Bt.cells
 have gM := BM.cells
 refine zA4 11 6 20 [.int .i64 0, .int .i64 0, .int .i64 0, .int .i64 0, .int .i64 0, .int .i64 0] (zs := [.int .i64 0, .int .i64 0, .int .i64 0, .int .i64 0, .int .i64 0, .int .i64 0]) (eff := eff6 (.int .i64 0) (.int .i64 0) (.int .i64 0) (.int .i64 0) (.int .i64 0) (.int .i64 0)) zAc rfl rfl rfl rfl rfl rfl rfl (by simp) (fun ρ W => by simp [execOp, go_sem]; rfl) (by kernel_rfl) (by as_aux_lemma => kernel_rfl) (C := fun w' => ∃ p : Regrown, w' = grow (redrawn W1 p.d) p.os) rgB ?_ (fun ρ W b e1 e2 hB => by obtain ⟨x, y, _, _⟩ := hB.facts; simp [execOp, go_sem, e1, e2, x, y, eff6])
 simp only [tK1, tK0, dP1, dP0]
 repeat (first | (refine zA0 (Eq.refl false) ?_; simp only [Act.put, sT2, sT1, sT0]) | (refine rWalk_step (fun K hK => ?_); go_simp; first | (refine hK _ ?_; clear hK K) | (apply Exists.intro; refine ⟨fun _ => ?_, hK _ ?_⟩; (first | with_reducible exact toExt (way_0 T) _); clear hK K)))
 refine rWalk_nil ⟨rfl, ?_⟩
 intro w2 bks0 hb h1b h2b Bs0
 have lts0 := Bt.lt
 have lMs0 := BM.lt
 have hw0z := hw.size
 clear gt gM
 clear Ft FM
 replace Bt := Bt.ee hb
 replace BM := BM.ee hb
 replace hw := upB hw hb
 have fs0 := h1b
 have hwz : w.heap.size ≤ W1.heap.size := hw0z
 clear hb h1b h2b hw0z
 simp only [Act.put]
 clear hl
 have Ft := Bt.facts
 have FM := BM.facts
 have Fs0 := Bs0.facts
 go_wp2_with fail
 clear Ft FM Fs0
 try rw [rounds_succ]
 have Ft := Bt.facts
 have FM := BM.facts
 have Fs0 := Bs0.facts
 go_wp2_with fail
 refine zA2 fun W3 hW => ?_
 replace hw : Below w.heap.size w W3 := by rw [hW]; exact hw
 replace Bt : Box W3 (w.heap.size) [.int .i64 T.A.x, .int .i64 T.A.y, .int .i64 T.B.x, .int .i64 T.B.y, .int .i64 T.C.x, .int .i64 T.C.y] 38 := by rw [hW]; exact Bt
 replace BM : Box W3 (mb) [.map (some b)] 89 := by rw [hW]; exact BM
 replace Bs0 : Box W3 (bks0) [.int .i64 0, .int .i64 0, .int .i64 0, .int .i64 0, .int .i64 0, .int .i64 0] 38 := by rw [hW]; exact Bs0
 clear hW
 clear Ft FM Fs0
 have hl : ∀ d os, (Instr.lookup 87 (.map (some b)) (.agg #[.int .i64 T.B.x, .int .i64 T.B.y, .int .i64 T.C.x, .int .i64 T.C.y]) true).run Tryz.prog (grow (redrawn W3 d) os) = .ok (.tuple #[.agg #[.int .i64 0, .int .i64 0, .int .i64 0, .int .i64 0, .int .i64 0, .int .i64 0], .bool false]) (grow (redrawn W3 d) os) := fun d os => ((Hm.ee hw).ext (below_regrown W3 d os) rfl).look_none kvM zAo (okT_w hk).2.1 hg1
 clear hg1
 have gt := Bt.cells
 have gM := BM.cells
 have gs0 := Bs0.cells
 refine zA4 11 6 20 [.int .i64 0, .int .i64 0, .int .i64 0, .int .i64 0, .int .i64 0, .int .i64 0] (zs := [.int .i64 0, .int .i64 0, .int .i64 0, .int .i64 0, .int .i64 0, .int .i64 0]) (eff := eff6 (.int .i64 0) (.int .i64 0) (.int .i64 0) (.int .i64 0) (.int .i64 0) (.int .i64 0)) zAc rfl rfl rfl rfl rfl rfl rfl (by simp) (fun ρ W => by simp [execOp, go_sem]; rfl) (by kernel_rfl) (by as_aux_lemma => kernel_rfl) (C := fun w' => ∃ p : Regrown, w' = grow (redrawn W3 p.d) p.os) rgB ?_ (fun ρ W b e1 e2 hB => by obtain ⟨x, y, _, _⟩ := hB.facts; simp [execOp, go_sem, e1, e2, x, y, eff6])
 simp only [tK1, tK0, dP1, dP0]
 repeat (first | (refine zA0 (Eq.refl false) ?_; simp only [Act.put, sT2, sT1, sT0]) | (refine rWalk_step (fun K hK => ?_); go_simp; first | (refine hK _ ?_; clear hK K) | (apply Exists.intro; refine ⟨fun _ => ?_, hK _ ?_⟩; (first | with_reducible exact toExt (way_1 T) _); clear hK K)))
 refine rWalk_nil ⟨rfl, ?_⟩
 intro w4 bks1 hb h1b h2b Bs1
 have lts1 := Bt.lt
 have lMs1 := BM.lt
 have ls0s1 := Bs0.lt
 have hw0z := hw.size
 clear gt gM gs0
 replace Bt := Bt.ee hb
 replace BM := BM.ee hb
 replace Bs0 := Bs0.ee hb
 replace hw := upB hw hb
 have fs1 := h1b
 have hwz : w.heap.size ≤ W3.heap.size := hw0z
 clear hb h1b h2b hw0z
 simp only [Act.put]
 clear hl
 have Ft := Bt.facts
 have FM := BM.facts
 have Fs0 := Bs0.facts
 have Fs1 := Bs1.facts
 go_wp2_with fail
 clear Ft FM Fs0 Fs1
 try rw [rounds_succ]
 have Ft := Bt.facts
 have FM := BM.facts
 have Fs0 := Bs0.facts
 have Fs1 := Bs1.facts
 go_wp2_with fail
 refine zA2 fun W5 hW => ?_
 replace hw : Below w.heap.size w W5 := by rw [hW]; exact hw
 replace Bt : Box W5 (w.heap.size) [.int .i64 T.A.x, .int .i64 T.A.y, .int .i64 T.B.x, .int .i64 T.B.y, .int .i64 T.C.x, .int .i64 T.C.y] 38 := by rw [hW]; exact Bt
 replace BM : Box W5 (mb) [.map (some b)] 89 := by rw [hW]; exact BM
 replace Bs0 : Box W5 (bks0) [.int .i64 0, .int .i64 0, .int .i64 0, .int .i64 0, .int .i64 0, .int .i64 0] 38 := by rw [hW]; exact Bs0
 replace Bs1 : Box W5 (bks1) [.int .i64 0, .int .i64 0, .int .i64 0, .int .i64 0, .int .i64 0, .int .i64 0] 38 := by rw [hW]; exact Bs1
 clear hW
 clear Ft FM Fs0 Fs1
 have hl : ∀ d os, (Instr.lookup 87 (.map (some b)) (.agg #[.int .i64 T.C.x, .int .i64 T.C.y, .int .i64 T.A.x, .int .i64 T.A.y]) true).run Tryz.prog (grow (redrawn W5 d) os) = .ok (.tuple #[.agg #[.int .i64 S.A.x, .int .i64 S.A.y, .int .i64 S.B.x, .int .i64 S.B.y, .int .i64 S.C.x, .int .i64 S.C.y], .bool true]) (grow (redrawn W5 d) os) := fun d os => ((Hm.ee hw).ext (below_regrown W5 d os) rfl).look_some kvM zAo (okT_w hk).2.2 hg2
 clear hg2
 have gt := Bt.cells
 have gM := BM.cells
 have gs0 := Bs0.cells
 have gs1 := Bs1.cells
 refine zA4 11 6 20 [.int .i64 S.A.x, .int .i64 S.A.y, .int .i64 S.B.x, .int .i64 S.B.y, .int .i64 S.C.x, .int .i64 S.C.y] (zs := [.int .i64 0, .int .i64 0, .int .i64 0, .int .i64 0, .int .i64 0, .int .i64 0]) (eff := eff6 (.int .i64 S.A.x) (.int .i64 S.A.y) (.int .i64 S.B.x) (.int .i64 S.B.y) (.int .i64 S.C.x) (.int .i64 S.C.y)) zAc rfl rfl rfl rfl rfl rfl rfl (by simp) (fun ρ W => by simp [execOp, go_sem]; rfl) (by kernel_rfl) (by as_aux_lemma => kernel_rfl) (C := fun w' => ∃ p : Regrown, w' = grow (redrawn W5 p.d) p.os) rgB ?_ (fun ρ W b e1 e2 hB => by obtain ⟨x, y, _, _⟩ := hB.facts; simp [execOp, go_sem, e1, e2, x, y, eff6])
 simp only [tK1, tK0, dP1, dP0]
 repeat (first | (refine zA0 (Eq.refl false) ?_; simp only [Act.put, sT2, sT1, sT0]) | (refine rWalk_step (fun K hK => ?_); go_simp; first | (refine hK _ ?_; clear hK K) | (apply Exists.intro; refine ⟨fun _ => ?_, hK _ ?_⟩; (first | with_reducible exact toExt (way_2 T) _); clear hK K)))
 refine rWalk_nil ⟨rfl, ?_⟩
 intro w6 bks2 hb h1b h2b Bs2
 have lts2 := Bt.lt
 have lMs2 := BM.lt
 have ls0s2 := Bs0.lt
 have ls1s2 := Bs1.lt
 have hw0z := hw.size
 clear gt gM gs0 gs1
 replace Bt := Bt.ee hb
 replace BM := BM.ee hb
 replace Bs0 := Bs0.ee hb
 replace Bs1 := Bs1.ee hb
 replace hw := upB hw hb
 have fs2 := h1b
 have hwz : w.heap.size ≤ W5.heap.size := hw0z
 clear hb h1b h2b hw0z
 simp only [Act.put]
 clear hl
 have Ft := Bt.facts
 have FM := BM.facts
 have Fs0 := Bs0.facts
 have Fs1 := Bs1.facts
 have Fs2 := Bs2.facts
 go_wp2
 go_ret
 exact ⟨rfl, hw⟩
theorem fits_3 (mb b : Nat) (E : List ((Pt × Pt) × Tri3)) (T : Tri3) (hg0 : getE E (T.A, T.B) = none) (hg1 : getE E (T.B, T.C) = none) (hg2 : getE E (T.C, T.A) = none) (hk : okT T) (w : World) (Bm : Box w mb [.map (some b)] 89) (Hm : HoldsMap eW eT okW w b E) :
    Calls Tryz.prog 115 #[.pointer (some ⟨mb, 0, none⟩), .agg #[.int .i64 T.A.x, .int .i64 T.A.y, .int .i64 T.B.x, .int .i64 T.B.y, .int .i64 T.C.x, .int .i64 T.C.y]] w fun e w' => e = .returned (.bool (valT T)) ∧ Below w.heap.size w w' := by
 have cv := zB8 T
 generalize valT T = v at *
 go_enter Tryz.func115, Tryz.ntmps115
 go_wp2_with fail
 refine zA2 fun W1 hW => ?_
 have Bt : Box W1 (w.heap.size) [.int .i64 T.A.x, .int .i64 T.A.y, .int .i64 T.B.x, .int .i64 T.B.y, .int .i64 T.C.x, .int .i64 T.C.y] 38 := by rw [hW]; exact Box.new rfl
 have hw : Below w.heap.size w W1 := by rw [hW]; go_grown
 clear hW
 have BM : Box W1 (mb) [.map (some b)] 89 := Bm.ee hw
 refine wp_loop_rounds 5 ?_
 try rw [rounds_succ]
 have Ft := Bt.facts
 have FM := BM.facts
 go_wp2_with fail
 have hl : ∀ d os, (Instr.lookup 87 (.map (some b)) (.agg #[.int .i64 T.A.x, .int .i64 T.A.y, .int .i64 T.B.x, .int .i64 T.B.y]) true).run Tryz.prog (grow (redrawn W1 d) os) = .ok (.tuple #[.agg #[.int .i64 0, .int .i64 0, .int .i64 0, .int .i64 0, .int .i64 0, .int .i64 0], .bool false]) (grow (redrawn W1 d) os) := fun d os => ((Hm.ee hw).ext (below_regrown W1 d os) rfl).look_none kvM zAo (okT_w hk).1 hg0
 clear hg0
 have gt := Bt.cells
 have gM := BM.cells
 refine zA4 11 6 20 [.int .i64 0, .int .i64 0, .int .i64 0, .int .i64 0, .int .i64 0, .int .i64 0] (zs := [.int .i64 0, .int .i64 0, .int .i64 0, .int .i64 0, .int .i64 0, .int .i64 0]) (eff := eff6 (.int .i64 0) (.int .i64 0) (.int .i64 0) (.int .i64 0) (.int .i64 0) (.int .i64 0)) zAc rfl rfl rfl rfl rfl rfl rfl (by simp) (fun ρ W => by simp [execOp, go_sem]; rfl) (by kernel_rfl) (by as_aux_lemma => kernel_rfl) (C := fun w' => ∃ p : Regrown, w' = grow (redrawn W1 p.d) p.os) rgB ?_ (fun ρ W b e1 e2 hB => by obtain ⟨x, y, _, _⟩ := hB.facts; simp [execOp, go_sem, e1, e2, x, y, eff6])
 simp only [tK1, tK0, dP1, dP0]
 repeat (first | (refine zA0 (Eq.refl false) ?_; simp only [Act.put, sT2, sT1, sT0]) | (refine rWalk_step (fun K hK => ?_); go_simp; first | (refine hK _ ?_; clear hK K) | (apply Exists.intro; refine ⟨fun _ => ?_, hK _ ?_⟩; (first | with_reducible exact toExt (way_0 T) _); clear hK K)))
 refine rWalk_nil ⟨rfl, ?_⟩
 intro w2 bks0 hb h1b h2b Bs0
 have lts0 := Bt.lt
 have lMs0 := BM.lt
 have hw0z := hw.size
 clear gt gM
 clear Ft FM
 replace Bt := Bt.ee hb
 replace BM := BM.ee hb
 replace hw := upB hw hb
 have fs0 := h1b
 have hwz : w.heap.size ≤ W1.heap.size := hw0z
 clear hb h1b h2b hw0z
 simp only [Act.put]
 clear hl
 have Ft := Bt.facts
 have FM := BM.facts
 have Fs0 := Bs0.facts
 go_wp2_with fail
 clear Ft FM Fs0
 try rw [rounds_succ]
 have Ft := Bt.facts
 have FM := BM.facts
 have Fs0 := Bs0.facts
 go_wp2_with fail
 refine zA2 fun W3 hW => ?_
 replace hw : Below w.heap.size w W3 := by rw [hW]; exact hw
 replace Bt : Box W3 (w.heap.size) [.int .i64 T.A.x, .int .i64 T.A.y, .int .i64 T.B.x, .int .i64 T.B.y, .int .i64 T.C.x, .int .i64 T.C.y] 38 := by rw [hW]; exact Bt
 replace BM : Box W3 (mb) [.map (some b)] 89 := by rw [hW]; exact BM
 replace Bs0 : Box W3 (bks0) [.int .i64 0, .int .i64 0, .int .i64 0, .int .i64 0, .int .i64 0, .int .i64 0] 38 := by rw [hW]; exact Bs0
 clear hW
 clear Ft FM Fs0
 have hl : ∀ d os, (Instr.lookup 87 (.map (some b)) (.agg #[.int .i64 T.B.x, .int .i64 T.B.y, .int .i64 T.C.x, .int .i64 T.C.y]) true).run Tryz.prog (grow (redrawn W3 d) os) = .ok (.tuple #[.agg #[.int .i64 0, .int .i64 0, .int .i64 0, .int .i64 0, .int .i64 0, .int .i64 0], .bool false]) (grow (redrawn W3 d) os) := fun d os => ((Hm.ee hw).ext (below_regrown W3 d os) rfl).look_none kvM zAo (okT_w hk).2.1 hg1
 clear hg1
 have gt := Bt.cells
 have gM := BM.cells
 have gs0 := Bs0.cells
 refine zA4 11 6 20 [.int .i64 0, .int .i64 0, .int .i64 0, .int .i64 0, .int .i64 0, .int .i64 0] (zs := [.int .i64 0, .int .i64 0, .int .i64 0, .int .i64 0, .int .i64 0, .int .i64 0]) (eff := eff6 (.int .i64 0) (.int .i64 0) (.int .i64 0) (.int .i64 0) (.int .i64 0) (.int .i64 0)) zAc rfl rfl rfl rfl rfl rfl rfl (by simp) (fun ρ W => by simp [execOp, go_sem]; rfl) (by kernel_rfl) (by as_aux_lemma => kernel_rfl) (C := fun w' => ∃ p : Regrown, w' = grow (redrawn W3 p.d) p.os) rgB ?_ (fun ρ W b e1 e2 hB => by obtain ⟨x, y, _, _⟩ := hB.facts; simp [execOp, go_sem, e1, e2, x, y, eff6])
 simp only [tK1, tK0, dP1, dP0]
 repeat (first | (refine zA0 (Eq.refl false) ?_; simp only [Act.put, sT2, sT1, sT0]) | (refine rWalk_step (fun K hK => ?_); go_simp; first | (refine hK _ ?_; clear hK K) | (apply Exists.intro; refine ⟨fun _ => ?_, hK _ ?_⟩; (first | with_reducible exact toExt (way_1 T) _); clear hK K)))
 refine rWalk_nil ⟨rfl, ?_⟩
 intro w4 bks1 hb h1b h2b Bs1
 have lts1 := Bt.lt
 have lMs1 := BM.lt
 have ls0s1 := Bs0.lt
 have hw0z := hw.size
 clear gt gM gs0
 replace Bt := Bt.ee hb
 replace BM := BM.ee hb
 replace Bs0 := Bs0.ee hb
 replace hw := upB hw hb
 have fs1 := h1b
 have hwz : w.heap.size ≤ W3.heap.size := hw0z
 clear hb h1b h2b hw0z
 simp only [Act.put]
 clear hl
 have Ft := Bt.facts
 have FM := BM.facts
 have Fs0 := Bs0.facts
 have Fs1 := Bs1.facts
 go_wp2_with fail
 clear Ft FM Fs0 Fs1
 try rw [rounds_succ]
 have Ft := Bt.facts
 have FM := BM.facts
 have Fs0 := Bs0.facts
 have Fs1 := Bs1.facts
 go_wp2_with fail
 refine zA2 fun W5 hW => ?_
 replace hw : Below w.heap.size w W5 := by rw [hW]; exact hw
 replace Bt : Box W5 (w.heap.size) [.int .i64 T.A.x, .int .i64 T.A.y, .int .i64 T.B.x, .int .i64 T.B.y, .int .i64 T.C.x, .int .i64 T.C.y] 38 := by rw [hW]; exact Bt
 replace BM : Box W5 (mb) [.map (some b)] 89 := by rw [hW]; exact BM
 replace Bs0 : Box W5 (bks0) [.int .i64 0, .int .i64 0, .int .i64 0, .int .i64 0, .int .i64 0, .int .i64 0] 38 := by rw [hW]; exact Bs0
 replace Bs1 : Box W5 (bks1) [.int .i64 0, .int .i64 0, .int .i64 0, .int .i64 0, .int .i64 0, .int .i64 0] 38 := by rw [hW]; exact Bs1
 clear hW
 clear Ft FM Fs0 Fs1
 have hl : ∀ d os, (Instr.lookup 87 (.map (some b)) (.agg #[.int .i64 T.C.x, .int .i64 T.C.y, .int .i64 T.A.x, .int .i64 T.A.y]) true).run Tryz.prog (grow (redrawn W5 d) os) = .ok (.tuple #[.agg #[.int .i64 0, .int .i64 0, .int .i64 0, .int .i64 0, .int .i64 0, .int .i64 0], .bool false]) (grow (redrawn W5 d) os) := fun d os => ((Hm.ee hw).ext (below_regrown W5 d os) rfl).look_none kvM zAo (okT_w hk).2.2 hg2
 clear hg2
 have gt := Bt.cells
 have gM := BM.cells
 have gs0 := Bs0.cells
 have gs1 := Bs1.cells
 refine zA4 11 6 20 [.int .i64 0, .int .i64 0, .int .i64 0, .int .i64 0, .int .i64 0, .int .i64 0] (zs := [.int .i64 0, .int .i64 0, .int .i64 0, .int .i64 0, .int .i64 0, .int .i64 0]) (eff := eff6 (.int .i64 0) (.int .i64 0) (.int .i64 0) (.int .i64 0) (.int .i64 0) (.int .i64 0)) zAc rfl rfl rfl rfl rfl rfl rfl (by simp) (fun ρ W => by simp [execOp, go_sem]; rfl) (by kernel_rfl) (by as_aux_lemma => kernel_rfl) (C := fun w' => ∃ p : Regrown, w' = grow (redrawn W5 p.d) p.os) rgB ?_ (fun ρ W b e1 e2 hB => by obtain ⟨x, y, _, _⟩ := hB.facts; simp [execOp, go_sem, e1, e2, x, y, eff6])
 simp only [tK1, tK0, dP1, dP0]
 repeat (first | (refine zA0 (Eq.refl false) ?_; simp only [Act.put, sT2, sT1, sT0]) | (refine rWalk_step (fun K hK => ?_); go_simp; first | (refine hK _ ?_; clear hK K) | (apply Exists.intro; refine ⟨fun _ => ?_, hK _ ?_⟩; (first | with_reducible exact toExt (way_2 T) _); clear hK K)))
 refine rWalk_nil ⟨rfl, ?_⟩
 intro w6 bks2 hb h1b h2b Bs2
 have lts2 := Bt.lt
 have lMs2 := BM.lt
 have ls0s2 := Bs0.lt
 have ls1s2 := Bs1.lt
 have hw0z := hw.size
 clear gt gM gs0 gs1
 replace Bt := Bt.ee hb
 replace BM := BM.ee hb
 replace Bs0 := Bs0.ee hb
 replace Bs1 := Bs1.ee hb
 replace hw := upB hw hb
 have fs2 := h1b
 have hwz : w.heap.size ≤ W5.heap.size := hw0z
 clear hb h1b h2b hw0z
 simp only [Act.put]
 clear hl
 have Ft := Bt.facts
 have FM := BM.facts
 have Fs0 := Bs0.facts
 have Fs1 := Bs1.facts
 have Fs2 := Bs2.facts
 go_wp2_with fail
 clear Ft FM Fs0 Fs1 Fs2
 try rw [rounds_succ]
 have Ft := Bt.facts
 have FM := BM.facts
 have Fs0 := Bs0.facts
 have Fs1 := Bs1.facts
 have Fs2 := Bs2.facts
 go_wp2_with fail
 refine (cv _).mono ?_
 rintro e w9 ⟨rfl, hb⟩
 replace hw := upB hw hb
 clear Ft FM Fs0 Fs1 Fs2
 clear hb
 go_wp2
 go_ret
 exact ⟨rfl, hw⟩
theorem fits_any (mb b : Nat) (E : List ((Pt × Pt) × Tri3)) (T : Tri3) (hk : okT T) (w : World) (Bm : Box w mb [.map (some b)] 89) (Hm : HoldsMap eW eT okW w b E) :
    Calls Tryz.prog 115 #[.pointer (some ⟨mb, 0, none⟩), .agg #[.int .i64 T.A.x, .int .i64 T.A.y, .int .i64 T.B.x, .int .i64 T.B.y, .int .i64 T.C.x, .int .i64 T.C.y]] w fun e w' => e = .returned (.bool (Option.isNone (getE E (T.A, T.B)) && (Option.isNone (getE E (T.B, T.C)) && (Option.isNone (getE E (T.C, T.A)) && valT T)))) ∧ Below w.heap.size w w' := by
 cases h0 : getE E (T.A, T.B) with
 | some S => exact fits_0 mb b E T S h0 hk w Bm Hm
 | none =>
  cases h1 : getE E (T.B, T.C) with
  | some S => exact fits_1 mb b E T S h0 h1 hk w Bm Hm
  | none =>
   cases h2 : getE E (T.C, T.A) with
   | some S => exact fits_2 mb b E T S h0 h1 h2 hk w Bm Hm
   | none => exact fits_3 mb b E T h0 h1 h2 hk w Bm Hm
theorem zHq (mb b : Nat) (E : List ((Pt × Pt) × Tri3)) (T : Tri3) (hk : okT T) (w : World) (Bm : Box w mb [.map (some b)] 89) (Hm : HoldsMap eW eT okW w b E) :
    Calls Tryz.prog 115 #[.pointer (some ⟨mb, 0, none⟩), .agg #[.int .i64 T.A.x, .int .i64 T.A.y, .int .i64 T.B.x, .int .i64 T.B.y, .int .i64 T.C.x, .int .i64 T.C.y]] w fun e w' => e = .returned (.bool (fitsE E T)) ∧ Below w.heap.size w w' := fits_any mb b E T hk w Bm Hm
end Go.Proofs.YtmobnmjjmafibaaGreat
namespace Go.Proofs.YtmobnmjjmafibaaGreat
open Go.RowKit Go.Sort
theorem zA8 {w w' : World} (h : Below w.heap.size w w') (row : Option Nat) : w.grownBy w' row := ⟨h.os, h.tape, h.output, h.size, fun i hi _ => h.block i hi⟩
theorem zF9 {B : Nat} {w w' w2 : World} {b : Nat} (h : Below B w w') (hg : w'.grownBy w2 (some b)) (hB : B ≤ w'.heap.size) (hb : B ≤ b) : Below B w w2 :=
 ⟨hg.os.trans h.os, hg.tape.trans h.tape, hg.output.trans h.output, Nat.le_trans h.size hg.size, fun i hi => (hg.block i (by omega) (fun e => by cases e; omega)).trans (h.block i hi)⟩
theorem zAe {a b c : World} {r : Nat} (h : a.grownBy b (some r)) (k : b.grownBy c (some r)) : a.grownBy c (some r) := h.andThen k (fun _ hj => .inr hj)
theorem zAg {a b c : World} {r : Nat} (h : a.grownBy b (some r)) (k : Below b.heap.size b c) : a.grownBy c (some r) := zAe h (zA8 k _)
theorem zEk (w : World) (row : Option Nat) : w.grownBy w row := ⟨rfl, rfl, rfl, Nat.le_refl _, fun _ _ _ => rfl⟩
theorem Box.ne_map {w : World} {x b : Nat} {cs : List Value} {T : TypeId} {E : List ((Pt × Pt) × Tri3)} (h : Box w x cs T) (H : HoldsMap eW eT okW w b E) : x ≠ b := by
 obtain ⟨es, clock, hb, _⟩ := H
 intro e
 unfold Box at h
 rw [e, hb] at h
 cases h
theorem Box.turn {w w' : World} {x b : Nat} {cs : List Value} {T : TypeId} {E : List ((Pt × Pt) × Tri3)} (h : Box w x cs T) (H : HoldsMap eW eT okW w b E) (hg : w.grownBy w' (some b)) : Box w' x cs T := by
 have hne := h.ne_map H
 have hl := h.lt
 unfold Box at *
 rw [hg.block x hl (by simpa using hne)]; exact h
theorem RowAt.turn {α : Type} {c : α → List Value} {k : Nat} {w w' : World} {a : Option Addr} {L : List α} {b : Nat} {E : List ((Pt × Pt) × Tri3)} (h : RowAt c k w a L) (hc : ∀ x, c x ≠ []) (H : HoldsMap eW eT okW w b E) (hg : w.grownBy w' (some b)) : RowAt c k w' a L := fun j x hx => by
 obtain ⟨ad, h1, h2, h3⟩ := h j x hx
 have hne : ad.block ≠ b := by
  obtain ⟨es, clock, hb, _⟩ := H
  cases hcx : c x with
  | nil => exact absurd hcx (hc x)
  | cons v l =>
   have h4 := h3 0 v (by rw [hcx]; rfl)
   intro e
   unfold World.cell? at h4
   rw [zAl, zAl, e, hb] at h4
   cases h4
 refine ⟨ad, h1, Nat.lt_of_lt_of_le h2 hg.size, fun i u hu => ?_⟩
 exact hg.cell (h3 i u hu) (by rw [zAl, zAl]; simpa using hne)
theorem cT_ne (x : Tri3) : cT x ≠ [] := by simp [cT]
abbrev Es := List ((Pt × Pt) × Tri3)
def putT (E : Es) (T : Tri3) : Es := putE (putE (putE E (T.A, T.B) T) (T.B, T.C) T) (T.C, T.A) T
def takeT (E : Es) (T : Tri3) : Es := delE (delE (delE E (T.A, T.B)) (T.B, T.C)) (T.C, T.A)
def putRun (E : Es) : List Tri3 → Nat × Es
 | [] => (0, E)
 | T :: l => if fitsE E T = true then ((putRun (putT E T) l).1 + 1, (putRun (putT E T) l).2) else (0, E)
def takeRun (E : Es) : List Tri3 → Nat × Es
 | [] => (0, E)
 | T :: l => if hasE E T = true then ((takeRun (takeT E T) l).1 + 1, (takeRun (takeT E T) l).2) else (0, E)
theorem zEx {E F : Es} {L : List Tri3} {k : Nat} (hk : k < L.length) (h : putRun E L = (k + (putRun F (L.drop k)).1, (putRun F (L.drop k)).2)) (hf : fitsE F L[k] = true) :
    putRun E L = (k + 1 + (putRun (putT F L[k]) (L.drop (k + 1))).1, (putRun (putT F L[k]) (L.drop (k + 1))).2) := by
 rw [h, List.drop_eq_getElem_cons hk, putRun, if_pos hf]
 simp only [Prod.mk.injEq, and_true]
 omega
theorem zEw {E F : Es} {L : List Tri3} {k : Nat} (hk : k < L.length) (h : putRun E L = (k + (putRun F (L.drop k)).1, (putRun F (L.drop k)).2)) (hf : fitsE F L[k] = false) : putRun E L = (k, F) := by
 rw [h, List.drop_eq_getElem_cons hk, putRun, if_neg (by rw [hf]; decide)]; rfl
theorem zGf {E F : Es} {L : List Tri3} {k : Nat} (hk : L.length ≤ k) (h : putRun E L = (k + (putRun F (L.drop k)).1, (putRun F (L.drop k)).2)) : putRun E L = (k, F) := by
 rw [h, List.drop_eq_nil_of_le hk]; rfl
attribute [local go_sem] rOper rAt rUpon cell_set sg_i64 sg_u64 alloc_cell alloc_frozen
attribute [local go_sem 10000] pt_eql pt_neq tri_eql
attribute [local irreducible] rWalk
theorem map_nil (b : Nat) (w : World) : (binOp .eql 87 (.map (some b)) (.map none)).run Tryz.prog w = .ok (.bool false) w := by
 simp only [binOp]
 simp [run_equal_map_nil w 87 _ _ (some b) Tryz.underlying87]
theorem rmap_nil (b : Nat) (w : World) : (binOp .eql 39 (.map (some b)) (.map none)).run Tryz.prog w = .ok (.bool false) w := by
 simp only [binOp]
 simp [run_equal_map_nil w 39 _ _ (some b) Tryz.underlying39]
attribute [local go_sem] map_nil rmap_nil
theorem mput_any (mb b : Nat) (E : Es) (a : Option Addr) (cap n : Nat) (L : List Tri3) (hn : Hid (L.length = n)) (hn1 : n ≤ 1000000) (hok : ∀ T ∈ L, okT T) (w : World) (Bm : Box w mb [.map (some b)] 89) (Hm : HoldsMap eW eT okW w b E) (Hr : RowAt cT 6 w a L) :
    Calls Tryz.prog 73 #[.pointer (some ⟨mb, 0, none⟩), .slice a n cap] w fun e w' => e = .returned (.int .i64 (putRun E L).1) ∧ w.grownBy w' (some b) ∧ HoldsMap eW eT okW w' b (putRun E L).2 := by
 have hmb := Bm.ne_map Hm
 have Fm := Bm.facts
 go_enter Tryz.func73, Tryz.ntmps73
 go_wp2
 clear Fm
 go_loopw [19] (fun i wr => ∃ (k : Nat) (F : Es), k ≤ n ∧ i = .int .i64 k ∧ Hid (putRun E L = (k + (putRun F (L.drop k)).1, (putRun F (L.drop k)).2)) ∧ HoldsMap eW eT okW wr b F ∧ w.grownBy wr (some b)) (fun i _ => n - (intOf i).toNat)
 case atStart => exact ⟨0, E, Nat.zero_le _, rfl, Lib.hid (by simp), Hm, zEk _ _⟩
 case round =>
  obtain ⟨k, F, hk, rfl, hR, HF, hg⟩ := hrel
  have BM := Bm.turn Hm hg
  by_cases hlt : k < n
  ·have hlk : k < L.length := hn.out ▸ hlt
   have hokk := hok L[k] (List.getElem_mem hlk)
   have hst := fun hf => zEx hlk hR.out hf
   have hsp := fun hf => zEw hlk hR.out hf
   obtain ⟨ad, A, ea, eA, zA, _, q0, q1, q2, q3, q4, q5⟩ := (Hr.turn cT_ne Hm hg).tri hlk
   generalize L[k] = T at *
   cases hf : fitsE F T with
   | false =>
    have HP := Lib.hid (hsp hf)
    clear hst hsp
    have cf := zHq mb b F T hokk
    rw [hf] at cf
    clear hf
    have FM := BM.facts
    go_wp2_with fail
    refine zA1 fun W1 hW => ?_
    have Bt : Box W1 wr.heap.size [.int .i64 T.A.x, .int .i64 T.A.y, .int .i64 T.B.x, .int .i64 T.B.y, .int .i64 T.C.x, .int .i64 T.C.y] 38 := by rw [hW]; exact Box.new rfl
    have hw : Below wr.heap.size wr W1 := by rw [hW]; go_grown
    clear hW
    clear FM
    replace BM := BM.ee hw
    clear q0 q1 q2 q3 q4 q5 ea eA zA
    refine (cf _ BM (HF.ee hw)).mono ?_
    rintro e w2 ⟨rfl, hb⟩
    replace BM := BM.ee hb
    replace Bt := Bt.ee hb
    replace hw := upB hw hb
    clear hb
    have FM := BM.facts
    have Ft := Bt.facts
    go_wp2
    go_ret
    exact ⟨zAn (by rw [HP.out]), zAg hg hw, by rw [HP.out]; exact HF.ee hw⟩
   | true =>
    have HP := Lib.hid (hst hf)
    clear hst hsp
    have cf := zHq mb b F T hokk
    rw [hf] at cf
    clear hf
    have FM := BM.facts
    go_wp2_with fail
    refine zA1 fun W1 hW => ?_
    have Bt : Box W1 wr.heap.size [.int .i64 T.A.x, .int .i64 T.A.y, .int .i64 T.B.x, .int .i64 T.B.y, .int .i64 T.C.x, .int .i64 T.C.y] 38 := by rw [hW]; exact Box.new rfl
    have hw : Below wr.heap.size wr W1 := by rw [hW]; go_grown
    clear hW
    clear FM
    replace BM := BM.ee hw
    clear q0 q1 q2 q3 q4 q5 ea eA zA
    refine (cf _ BM (HF.ee hw)).mono ?_
    rintro e w2 ⟨rfl, hb⟩
    replace BM := BM.ee hb
    replace Bt := Bt.ee hb
    replace hw := upB hw hb
    clear hb
    have FM := BM.facts
    have Ft := Bt.facts
    go_wp2_with fail
    clear FM Ft
    refine wp_loop_rounds 5 ?_
    try rw [rounds_succ]
    have FM := BM.facts
    have Ft := Bt.facts
    go_wp2_with fail
    replace HF := HF.ee hw
    replace hg := zAg hg hw
    have hw : Below w2.heap.size w2 w2 := Below.refl _ _
    have gM := BM.cells
    have gt := Bt.cells
    refine wp_region_tail 8 (by kernel_rfl) (by kernel_rfl) (C := fun w' => ∃ p : Regrown, w' = grow (redrawn w2 p.d) p.os) rgB ?_
    simp only [tK1, tK0, dP1, dP0]
    repeat (first | (refine zA0 (Eq.refl false) ?_; simp only [Act.put, sT2, sT1, sT0]) | (refine rWalk_step (fun K hK => ?_); go_simp; first | (refine hK _ ?_; clear hK K) | (apply Exists.intro; refine ⟨fun _ => ?_, hK _ ?_⟩; (first | with_reducible exact toExt (way_0 T) _); clear hK K)))
    refine rWalk_nil ?_
    intro w3 hb
    clear gM gt
    clear FM Ft
    replace BM := BM.ee hb
    replace Bt := Bt.ee hb
    replace hw := upB hw hb
    replace HF := HF.ee hw
    replace hg := zAg hg hw
    clear hw
    refine zBb _ rfl _ _ _ rfl kvM rfl HF (T.A, T.B) T rfl rfl (okT_w hokk).1 ?_
    intro c0 HG hh hs
    replace BM := BM.turn HF hh
    replace Bt := Bt.turn HF hh
    replace hg := zAe hg hh
    clear HF hh hs
    have HF := HG
    clear HG
    have FM := BM.facts
    have Ft := Bt.facts
    go_wp2_with fail
    clear FM Ft
    try rw [rounds_succ]
    have FM := BM.facts
    have Ft := Bt.facts
    go_wp2_with fail
    have hw : Below c0.heap.size c0 c0 := Below.refl _ _
    have gM := BM.cells
    have gt := Bt.cells
    refine wp_region_tail 8 (by kernel_rfl) (by kernel_rfl) (C := fun w' => ∃ p : Regrown, w' = grow (redrawn c0 p.d) p.os) rgB ?_
    simp only [tK1, tK0, dP1, dP0]
    repeat (first | (refine zA0 (Eq.refl false) ?_; simp only [Act.put, sT2, sT1, sT0]) | (refine rWalk_step (fun K hK => ?_); go_simp; first | (refine hK _ ?_; clear hK K) | (apply Exists.intro; refine ⟨fun _ => ?_, hK _ ?_⟩; (first | with_reducible exact toExt (way_1 T) _); clear hK K)))
    refine rWalk_nil ?_
    intro w4 hb
    clear gM gt
    clear FM Ft
    replace BM := BM.ee hb
    replace Bt := Bt.ee hb
    replace hw := upB hw hb
    replace HF := HF.ee hw
    replace hg := zAg hg hw
    clear hw
    refine zBb _ rfl _ _ _ rfl kvM rfl HF (T.B, T.C) T rfl rfl (okT_w hokk).2.1 ?_
    intro c1 HG hh hs
    replace BM := BM.turn HF hh
    replace Bt := Bt.turn HF hh
    replace hg := zAe hg hh
    clear HF hh hs
    have HF := HG
    clear HG
    have FM := BM.facts
    have Ft := Bt.facts
    go_wp2_with fail
    clear FM Ft
    try rw [rounds_succ]
    have FM := BM.facts
    have Ft := Bt.facts
    go_wp2_with fail
    have hw : Below c1.heap.size c1 c1 := Below.refl _ _
    have gM := BM.cells
    have gt := Bt.cells
    refine wp_region_tail 8 (by kernel_rfl) (by kernel_rfl) (C := fun w' => ∃ p : Regrown, w' = grow (redrawn c1 p.d) p.os) rgB ?_
    simp only [tK1, tK0, dP1, dP0]
    repeat (first | (refine zA0 (Eq.refl false) ?_; simp only [Act.put, sT2, sT1, sT0]) | (refine rWalk_step (fun K hK => ?_); go_simp; first | (refine hK _ ?_; clear hK K) | (apply Exists.intro; refine ⟨fun _ => ?_, hK _ ?_⟩; (first | with_reducible exact toExt (way_2 T) _); clear hK K)))
    refine rWalk_nil ?_
    intro w5 hb
    clear gM gt
    clear FM Ft
    replace BM := BM.ee hb
    replace Bt := Bt.ee hb
    replace hw := upB hw hb
    replace HF := HF.ee hw
    replace hg := zAg hg hw
    clear hw
    refine zBb _ rfl _ _ _ rfl kvM rfl HF (T.C, T.A) T rfl rfl (okT_w hokk).2.2 ?_
    intro c2 HG hh hs
    replace BM := BM.turn HF hh
    replace Bt := Bt.turn HF hh
    replace hg := zAe hg hh
    clear HF hh hs
    have HF := HG
    clear HG
    have FM := BM.facts
    have Ft := Bt.facts
    go_wp2_with fail
    clear FM Ft
    try rw [rounds_succ]
    have FM := BM.facts
    have Ft := Bt.facts
    go_wp2
    go_roundw
    case rel => exact ⟨k + 1, putT F T, by omega, by go_num, HP, HF, hg⟩
    case measure => simp [intOf]; omega
  ·have HP := Lib.hid (zGf (by rw [hn.out]; omega) hR.out)
   have Fm := BM.facts
   go_wp2
   go_ret
   exact ⟨zAn (by rw [HP.out]; omega), hg, by rw [HP.out]; exact HF⟩
end Go.Proofs.YtmobnmjjmafibaaGreat
namespace Go.Proofs.YtmobnmjjmafibaaGreat
open Go.RowKit Go.Sort
attribute [local go_sem] rOper rAt rUpon cell_set sg_i64 sg_u64 alloc_cell alloc_frozen
attribute [local go_sem 10000] pt_eql pt_neq tri_eql
attribute [local irreducible] rWalk
theorem mk_map (n : Int) (w : World) : (Instr.makeMap 87 (some (.int .i64 n))).run Tryz.prog w = .ok (.map (some w.heap.size)) (w.alloc (.map #[] 0)) := by
 unfold Instr.makeMap
 simp [asIntOf, go_sem]
attribute [local go_sem] mk_map map_nil
theorem HoldsMap.box {w : World} {b : Nat} {E : Es} (H : HoldsMap eW eT okW w b E) {cs : List Value} {T : TypeId} : HoldsMap eW eT okW (w.alloc (.cells cs.toArray T)) b E := H.alloc _
theorem mnew_1 (a : Option Addr) (cap n : Nat) (L : List Tri3) (hn : Hid (L.length = n)) (hn1 : n ≤ 1000000) (hok : ∀ T ∈ L, okT T) (hx : (putRun [] L).1 = n) (w : World) (Hr : RowAt cT 6 w a L) :
    Calls Tryz.prog 33 #[.slice a n cap] w fun e w' => ∃ mb b, e = .returned (.tuple #[.pointer (some ⟨mb, 0, none⟩), .int .i64 0]) ∧ Box w' mb [.map (some b)] 89 ∧ HoldsMap eW eT okW w' b (putRun [] L).2 ∧ w.heap.size ≤ b ∧ w.heap.size ≤ mb ∧ Below w.heap.size w w' := by
 have cp := fun w' B H R => mput_any (w.heap.size + 1) w.heap.size [] a cap n L hn hn1 hok w' B H R
 obtain ⟨r, E, hr⟩ : ∃ r E, putRun [] L = (r, E) := ⟨_, _, rfl⟩
 rw [hr] at cp hx
 dsimp only at cp hx
 have HR := Lib.hid hr
 clear hr
 subst hx
 have hd : decide ((r : Int) < (r : Int)) = false := by simp
 go_enter Tryz.func33, Tryz.ntmps33
 go_wp2_with fail
 refine zA1 fun W1 hW => ?_
 have BM : Box W1 (w.heap.size + 1) [.map (some w.heap.size)] 89 := by rw [hW]; exact Box.new (by simp)
 have HM : HoldsMap eW eT okW W1 w.heap.size ([] : Es) := by rw [hW]; exact (HoldsMap.made w).alloc _
 have hw : Below w.heap.size w W1 := by rw [hW]; go_grown
 clear hW
 refine (cp _ BM HM (Hr.ee hw)).mono ?_
 rintro e w2 ⟨rfl, hg, H2⟩
 have B2 := BM.turn HM hg
 replace hw := zF9 hw hg hw.size (Nat.le_refl _)
 clear hg HM BM
 go_wp2
 go_ret2
 exact ⟨_, _, rfl, B2, by rw [HR.out]; exact H2, Nat.le_refl _, by omega, hw⟩
theorem zIm (mb b : Nat) (E : Es) (k : Nat) (hE : Hid (E.length = 3 * k)) (hk : k ≤ 1000000) (w : World) (Bm : Box w mb [.map (some b)] 89) (Hm : HoldsMap eW eT okW w b E) :
    Calls Tryz.prog 20 #[.pointer (some ⟨mb, 0, none⟩)] w fun e w' => e = .returned (.int .i64 k) ∧ Below w.heap.size w w' := by
 have Fm := Bm.facts
 go_enter Tryz.func20, Tryz.ntmps20
 go_wp2_with (at_len; refine wpList_mlen _ rfl _ rfl kvM rfl Hm ?_; rw [hE.out])
 go_ret
 exact ⟨zAn (by first | omega | (push_cast; omega)), Below.refl _ _⟩
theorem zJu {T : Tri3} (h : okT T) (i : Int) : okP (crn T i) := by
 unfold crn; split
 ·exact h.1
 ·split
  ·exact h.2.1
  ·exact h.2.2
theorem across_1 (mb b : Nat) (E : Es) (T : Tri3) (i : Int) (hk : okT T) (hh : hasE E T = true) (w : World) (Bm : Box w mb [.map (some b)] 89) (Hm : HoldsMap eW eT okW w b E) :
    Calls Tryz.prog 66 #[.pointer (some ⟨mb, 0, none⟩), .agg #[.int .i64 T.A.x, .int .i64 T.A.y, .int .i64 T.B.x, .int .i64 T.B.y, .int .i64 T.C.x, .int .i64 T.C.y], .int .i64 i] w fun e w' => e = .returned (.tuple #[eT (lftE E (crn T (i + 1)) (crn T i)).1, .bool (lftE E (crn T (i + 1)) (crn T i)).2]) ∧ Below w.heap.size w w' := by
 have ch := zIp mb b E T hk
 rw [hh] at ch
 clear hh
 have cl := left_any mb b E (crn T (i + 1)) (crn T i) ⟨zJu hk _, zJu hk _⟩
 have ce := zAs T i
 generalize lftE E (crn T (i + 1)) (crn T i) = sv at *
 obtain ⟨S, v⟩ := sv
 dsimp only at *
 generalize crn T i = P at *
 generalize crn T (i + 1) = Q at *
 go_enter Tryz.func66, Tryz.ntmps66
 go_wp2_with fail
 refine zA1 fun W1 hW => ?_
 have Bt : Box W1 (w.heap.size) [.int .i64 T.A.x, .int .i64 T.A.y, .int .i64 T.B.x, .int .i64 T.B.y, .int .i64 T.C.x, .int .i64 T.C.y] 38 := by rw [hW]; exact (Box.new rfl).old _
 have Br : Box W1 (w.heap.size + 1) [.int .i64 0, .int .i64 0, .int .i64 0, .int .i64 0, .int .i64 0, .int .i64 0] 38 := by rw [hW]; exact Box.new (by simp)
 have hw : Below w.heap.size w W1 := by rw [hW]; go_grown
 clear hW
 refine (ch _ (Bm.ee hw) (Hm.ee hw)).mono ?_
 rintro e w2 ⟨rfl, hb⟩
 replace Bt := Bt.ee hb
 replace Br := Br.ee hb
 replace hw := upB hw hb
 clear hb
 have Ft := Bt.facts
 have Fr := Br.facts
 go_wp2_with fail
 refine (ce _).mono ?_
 rintro e w3 ⟨rfl, hb⟩
 clear Ft Fr
 replace Bt := Bt.ee hb
 replace Br := Br.ee hb
 replace hw := upB hw hb
 clear hb
 have Ft := Bt.facts
 have Fr := Br.facts
 go_wp2_with fail
 refine zA1 fun W4 hW => ?_
 obtain ⟨bkp, hbp⟩ : ∃ b, w3.heap.size = b := ⟨_, rfl⟩
 rw [hbp]
 have ltp := Bt.lt
 rw [hbp] at ltp
 have lrp := Br.lt
 rw [hbp] at lrp
 have fp := hw.size
 rw [hbp] at fp
 have Bp : Box W4 (bkp) [.int .i64 P.x, .int .i64 P.y] 30 := by rw [hW, ← hbp]; exact (Box.new rfl).old _
 have Bq : Box W4 (bkp + 1) [.int .i64 Q.x, .int .i64 Q.y] 30 := by rw [hW, ← hbp]; exact Box.new (by simp)
 replace Bt : Box W4 (w.heap.size) [.int .i64 T.A.x, .int .i64 T.A.y, .int .i64 T.B.x, .int .i64 T.B.y, .int .i64 T.C.x, .int .i64 T.C.y] 38 := by rw [hW]; exact ((Bt).old _).old _
 replace Br : Box W4 (w.heap.size + 1) [.int .i64 0, .int .i64 0, .int .i64 0, .int .i64 0, .int .i64 0, .int .i64 0] 38 := by rw [hW]; exact ((Br).old _).old _
 replace hw : Below w.heap.size w W4 := by have hl := hw.size; rw [hW]; go_grown
 clear hW hbp
 refine (cl _ (Bm.ee hw) (Hm.ee hw)).mono ?_
 rintro e w5 ⟨rfl, hb⟩
 clear Ft Fr
 replace Bt := Bt.ee hb
 replace Br := Br.ee hb
 replace Bp := Bp.ee hb
 replace Bq := Bq.ee hb
 replace hw := upB hw hb
 clear hb
 have Ft := Bt.facts
 have Fr := Br.facts
 have Fp := Bp.facts
 have Fq := Bq.facts
 go_wp2_with fail
 refine bodyPost_ret (v := .tuple #[.agg #[.int .i64 S.A.x, .int .i64 S.A.y, .int .i64 S.B.x, .int .i64 S.B.y, .int .i64 S.C.x, .int .i64 S.C.y], .bool v]) (by simp [results, Tryz.results66, go_sem, Fr]) rfl ⟨rfl, by have hl := hw.size; go_grown⟩
theorem across_0 (mb b : Nat) (E : Es) (T : Tri3) (i : Int) (hk : okT T) (hh : hasE E T = false) (w : World) (Bm : Box w mb [.map (some b)] 89) (Hm : HoldsMap eW eT okW w b E) :
    Calls Tryz.prog 66 #[.pointer (some ⟨mb, 0, none⟩), .agg #[.int .i64 T.A.x, .int .i64 T.A.y, .int .i64 T.B.x, .int .i64 T.B.y, .int .i64 T.C.x, .int .i64 T.C.y], .int .i64 i] w fun e w' => e = .returned (.tuple #[.agg #[.int .i64 0, .int .i64 0, .int .i64 0, .int .i64 0, .int .i64 0, .int .i64 0], .bool false]) ∧ Below w.heap.size w w' := by
 have ch := zIp mb b E T hk
 rw [hh] at ch
 clear hh
 go_enter Tryz.func66, Tryz.ntmps66
 go_wp2_with fail
 refine zA1 fun W1 hW => ?_
 have Bt : Box W1 (w.heap.size) [.int .i64 T.A.x, .int .i64 T.A.y, .int .i64 T.B.x, .int .i64 T.B.y, .int .i64 T.C.x, .int .i64 T.C.y] 38 := by rw [hW]; exact (Box.new rfl).old _
 have Br : Box W1 (w.heap.size + 1) [.int .i64 0, .int .i64 0, .int .i64 0, .int .i64 0, .int .i64 0, .int .i64 0] 38 := by rw [hW]; exact Box.new (by simp)
 have hw : Below w.heap.size w W1 := by rw [hW]; go_grown
 clear hW
 refine (ch _ (Bm.ee hw) (Hm.ee hw)).mono ?_
 rintro e w2 ⟨rfl, hb⟩
 replace Bt := Bt.ee hb
 replace Br := Br.ee hb
 replace hw := upB hw hb
 clear hb
 have Ft := Bt.facts
 have Fr := Br.facts
 go_wp2_with fail
 refine bodyPost_ret (v := .tuple #[.agg #[.int .i64 0, .int .i64 0, .int .i64 0, .int .i64 0, .int .i64 0, .int .i64 0], .bool false]) (by simp [results, Tryz.results66, go_sem, Fr]) rfl ⟨rfl, by have hl := hw.size; go_grown⟩
def acrE (E : Es) (T : Tri3) (i : Int) : Tri3 × Bool := if hasE E T = true then lftE E (crn T (i + 1)) (crn T i) else (⟨⟨0, 0⟩, ⟨0, 0⟩, ⟨0, 0⟩⟩, false)
theorem zEo (mb b : Nat) (E : Es) (T : Tri3) (i : Int) (hk : okT T) (w : World) (Bm : Box w mb [.map (some b)] 89) (Hm : HoldsMap eW eT okW w b E) :
    Calls Tryz.prog 66 #[.pointer (some ⟨mb, 0, none⟩), .agg #[.int .i64 T.A.x, .int .i64 T.A.y, .int .i64 T.B.x, .int .i64 T.B.y, .int .i64 T.C.x, .int .i64 T.C.y], .int .i64 i] w fun e w' => e = .returned (.tuple #[eT (acrE E T i).1, .bool (acrE E T i).2]) ∧ Below w.heap.size w w' := by
 unfold acrE
 cases hh : hasE E T with
 | true => rw [if_pos rfl]; exact across_1 mb b E T i hk hh w Bm Hm
 | false => rw [if_neg (by decide)]; exact across_0 mb b E T i hk hh w Bm Hm
end Go.Proofs.YtmobnmjjmafibaaGreat
namespace Go.Proofs.YtmobnmjjmafibaaGreat
open Go.RowKit Go.Sort
attribute [local go_sem] rOper rAt rUpon cell_set sg_i64 sg_u64 alloc_cell alloc_frozen
attribute [local go_sem 10000] pt_eql pt_neq tri_eql
attribute [local irreducible] rWalk
def apx (T : Tri3) (a b : Pt) : Pt := if peqI T.A.x T.A.y a.x a.y = false ∧ peqI T.A.x T.A.y b.x b.y = false then T.A else if peqI T.B.x T.B.y a.x a.y = false ∧ peqI T.B.x T.B.y b.x b.y = false then T.B else T.C
theorem zIb : Tryz.prog.underlying 91 = some (.array 3 30) := by kernel_rfl
theorem idx_0 (a b c d e f : Value) (w : World) : (Instr.index 91 (.agg #[a, b, c, d, e, f]) (.int .i64 0)).run Tryz.prog w = .ok (.agg #[a, b]) w := by
 simp [Instr.index, run_underlying zIb, asIntOf, part, go_sem]
theorem idx_1 (a b c d e f : Value) (w : World) : (Instr.index 91 (.agg #[a, b, c, d, e, f]) (.int .i64 1)).run Tryz.prog w = .ok (.agg #[c, d]) w := by
 simp [Instr.index, run_underlying zIb, asIntOf, part, go_sem]
theorem idx_2 (a b c d e f : Value) (w : World) : (Instr.index 91 (.agg #[a, b, c, d, e, f]) (.int .i64 2)).run Tryz.prog w = .ok (.agg #[e, f]) w := by
 simp [Instr.index, run_underlying zIb, asIntOf, part, go_sem]
attribute [local go_sem 10000] idx_0 idx_1 idx_2
theorem rcorner_0 (T : Tri3) (i : Int) (h : plc i = 0) (w : World) :
    Calls Tryz.prog 23 #[.agg #[.int .i64 T.A.x, .int .i64 T.A.y, .int .i64 T.B.x, .int .i64 T.B.y, .int .i64 T.C.x, .int .i64 T.C.y], .int .i64 i] w fun e w' => e = .returned (.agg #[.int .i64 T.A.x, .int .i64 T.A.y]) ∧ Below w.heap.size w w' := by
 have e := zFk i
 rw [h] at e
 have e2 : (IntKind.i64.wrap (i.tmod 3 + 3)).tmod 3 = 0 := by rw [← e, IntKind.wrap_i64, w64]
 clear h
 go_enter Tryz.func23, Tryz.ntmps23
 go_wp2_with fail
 refine bodyPost_ret (v := .agg #[.int .i64 T.A.x, .int .i64 T.A.y]) (by simp [results, Tryz.results23, go_sem]) rfl ⟨rfl, by go_grown⟩
theorem rcorner_1 (T : Tri3) (i : Int) (h : plc i = 1) (w : World) :
    Calls Tryz.prog 23 #[.agg #[.int .i64 T.A.x, .int .i64 T.A.y, .int .i64 T.B.x, .int .i64 T.B.y, .int .i64 T.C.x, .int .i64 T.C.y], .int .i64 i] w fun e w' => e = .returned (.agg #[.int .i64 T.B.x, .int .i64 T.B.y]) ∧ Below w.heap.size w w' := by
 have e := zFk i
 rw [h] at e
 have e2 : (IntKind.i64.wrap (i.tmod 3 + 3)).tmod 3 = 1 := by rw [← e, IntKind.wrap_i64, w64]
 clear h
 go_enter Tryz.func23, Tryz.ntmps23
 go_wp2_with fail
 refine bodyPost_ret (v := .agg #[.int .i64 T.B.x, .int .i64 T.B.y]) (by simp [results, Tryz.results23, go_sem]) rfl ⟨rfl, by go_grown⟩
theorem rcorner_2 (T : Tri3) (i : Int) (h : plc i = 2) (w : World) :
    Calls Tryz.prog 23 #[.agg #[.int .i64 T.A.x, .int .i64 T.A.y, .int .i64 T.B.x, .int .i64 T.B.y, .int .i64 T.C.x, .int .i64 T.C.y], .int .i64 i] w fun e w' => e = .returned (.agg #[.int .i64 T.C.x, .int .i64 T.C.y]) ∧ Below w.heap.size w w' := by
 have e := zFk i
 rw [h] at e
 have e2 : (IntKind.i64.wrap (i.tmod 3 + 3)).tmod 3 = 2 := by rw [← e, IntKind.wrap_i64, w64]
 clear h
 go_enter Tryz.func23, Tryz.ntmps23
 go_wp2_with fail
 refine bodyPost_ret (v := .agg #[.int .i64 T.C.x, .int .i64 T.C.y]) (by simp [results, Tryz.results23, go_sem]) rfl ⟨rfl, by go_grown⟩
theorem zAr (T : Tri3) (i : Int) (w : World) :
    Calls Tryz.prog 23 #[.agg #[.int .i64 T.A.x, .int .i64 T.A.y, .int .i64 T.B.x, .int .i64 T.B.y, .int .i64 T.C.x, .int .i64 T.C.y], .int .i64 i] w fun e w' => e = .returned (.agg #[.int .i64 (crn T i).x, .int .i64 (crn T i).y]) ∧ Below w.heap.size w w' := by
 rcases zFj i with h | h | h
 ·rw [show crn T i = T.A by unfold crn; simp [h]]; exact rcorner_0 T i h w
 ·rw [show crn T i = T.B by unfold crn; simp [h]]; exact rcorner_1 T i h w
 ·rw [show crn T i = T.C by unfold crn; simp [h]]; exact rcorner_2 T i h w
def cmpT (S T : Tri3) : Int := if cmpP S.A T.A ≠ 0 then cmpP S.A T.A else if cmpP S.B T.B ≠ 0 then cmpP S.B T.B else cmpP S.C T.C
theorem rcmpT_0 (S T : Tri3) (h0 : ¬ cmpP S.A T.A = 0) (w : World) :
    Calls Tryz.prog 51 #[.agg #[.int .i64 S.A.x, .int .i64 S.A.y, .int .i64 S.B.x, .int .i64 S.B.y, .int .i64 S.C.x, .int .i64 S.C.y], .agg #[.int .i64 T.A.x, .int .i64 T.A.y, .int .i64 T.B.x, .int .i64 T.B.y, .int .i64 T.C.x, .int .i64 T.C.y]] w fun e w' => e = .returned (.int .i64 (cmpP S.A T.A)) ∧ Below w.heap.size w w' := by
 have c1 := zA9 S.A T.A
 have hd : (cmpP S.A T.A == 0) = false := by simpa using h0
 clear h0
 generalize cmpP S.A T.A = n at *
 go_enter Tryz.func51, Tryz.ntmps51
 go_wp2_with fail
 refine zA1 fun W1 hW => ?_
 have Bs : Box W1 (w.heap.size) [.int .i64 S.A.x, .int .i64 S.A.y, .int .i64 S.B.x, .int .i64 S.B.y, .int .i64 S.C.x, .int .i64 S.C.y] 38 := by rw [hW]; exact (Box.new rfl).old _
 have Bt : Box W1 (w.heap.size + 1) [.int .i64 T.A.x, .int .i64 T.A.y, .int .i64 T.B.x, .int .i64 T.B.y, .int .i64 T.C.x, .int .i64 T.C.y] 38 := by rw [hW]; exact Box.new (by simp)
 have hw : Below w.heap.size w W1 := by rw [hW]; go_grown
 clear hW
 refine (c1 _).mono ?_
 rintro e w2 ⟨rfl, hb⟩
 replace Bs := Bs.ee hb
 replace Bt := Bt.ee hb
 replace hw := upB hw hb
 clear hb
 have Fs := Bs.facts
 have Ft := Bt.facts
 go_wp2
 go_ret
 exact ⟨rfl, by have hl := hw.size; go_grown⟩
theorem rcmpT_1 (S T : Tri3) (h0 : cmpP S.A T.A = 0) (h1 : ¬ cmpP S.B T.B = 0) (w : World) :
    Calls Tryz.prog 51 #[.agg #[.int .i64 S.A.x, .int .i64 S.A.y, .int .i64 S.B.x, .int .i64 S.B.y, .int .i64 S.C.x, .int .i64 S.C.y], .agg #[.int .i64 T.A.x, .int .i64 T.A.y, .int .i64 T.B.x, .int .i64 T.B.y, .int .i64 T.C.x, .int .i64 T.C.y]] w fun e w' => e = .returned (.int .i64 (cmpP S.B T.B)) ∧ Below w.heap.size w w' := by
 have c1 := zA9 S.A T.A
 have c2 := zA9 S.B T.B
 rw [h0] at c1
 have hd : (cmpP S.B T.B == 0) = false := by simpa using h1
 clear h0 h1
 generalize cmpP S.B T.B = n at *
 go_enter Tryz.func51, Tryz.ntmps51
 go_wp2_with fail
 refine zA1 fun W1 hW => ?_
 have Bs : Box W1 (w.heap.size) [.int .i64 S.A.x, .int .i64 S.A.y, .int .i64 S.B.x, .int .i64 S.B.y, .int .i64 S.C.x, .int .i64 S.C.y] 38 := by rw [hW]; exact (Box.new rfl).old _
 have Bt : Box W1 (w.heap.size + 1) [.int .i64 T.A.x, .int .i64 T.A.y, .int .i64 T.B.x, .int .i64 T.B.y, .int .i64 T.C.x, .int .i64 T.C.y] 38 := by rw [hW]; exact Box.new (by simp)
 have hw : Below w.heap.size w W1 := by rw [hW]; go_grown
 clear hW
 refine (c1 _).mono ?_
 rintro e w2 ⟨rfl, hb⟩
 replace Bs := Bs.ee hb
 replace Bt := Bt.ee hb
 replace hw := upB hw hb
 clear hb
 have Fs := Bs.facts
 have Ft := Bt.facts
 go_wp2_with fail
 refine (c2 _).mono ?_
 rintro e w3 ⟨rfl, hb⟩
 clear Fs Ft
 replace Bs := Bs.ee hb
 replace Bt := Bt.ee hb
 replace hw := upB hw hb
 clear hb
 have Fs := Bs.facts
 have Ft := Bt.facts
 go_wp2
 go_ret
 exact ⟨rfl, by have hl := hw.size; go_grown⟩
theorem rcmpT_2 (S T : Tri3) (h0 : cmpP S.A T.A = 0) (h1 : cmpP S.B T.B = 0) (w : World) :
    Calls Tryz.prog 51 #[.agg #[.int .i64 S.A.x, .int .i64 S.A.y, .int .i64 S.B.x, .int .i64 S.B.y, .int .i64 S.C.x, .int .i64 S.C.y], .agg #[.int .i64 T.A.x, .int .i64 T.A.y, .int .i64 T.B.x, .int .i64 T.B.y, .int .i64 T.C.x, .int .i64 T.C.y]] w fun e w' => e = .returned (.int .i64 (cmpP S.C T.C)) ∧ Below w.heap.size w w' := by
 have c1 := zA9 S.A T.A
 have c2 := zA9 S.B T.B
 have c3 := zA9 S.C T.C
 rw [h0] at c1
 rw [h1] at c2
 clear h0 h1
 generalize cmpP S.C T.C = n at *
 go_enter Tryz.func51, Tryz.ntmps51
 go_wp2_with fail
 refine zA1 fun W1 hW => ?_
 have Bs : Box W1 (w.heap.size) [.int .i64 S.A.x, .int .i64 S.A.y, .int .i64 S.B.x, .int .i64 S.B.y, .int .i64 S.C.x, .int .i64 S.C.y] 38 := by rw [hW]; exact (Box.new rfl).old _
 have Bt : Box W1 (w.heap.size + 1) [.int .i64 T.A.x, .int .i64 T.A.y, .int .i64 T.B.x, .int .i64 T.B.y, .int .i64 T.C.x, .int .i64 T.C.y] 38 := by rw [hW]; exact Box.new (by simp)
 have hw : Below w.heap.size w W1 := by rw [hW]; go_grown
 clear hW
 refine (c1 _).mono ?_
 rintro e w2 ⟨rfl, hb⟩
 replace Bs := Bs.ee hb
 replace Bt := Bt.ee hb
 replace hw := upB hw hb
 clear hb
 have Fs := Bs.facts
 have Ft := Bt.facts
 go_wp2_with fail
 refine (c2 _).mono ?_
 rintro e w3 ⟨rfl, hb⟩
 clear Fs Ft
 replace Bs := Bs.ee hb
 replace Bt := Bt.ee hb
 replace hw := upB hw hb
 clear hb
 have Fs := Bs.facts
 have Ft := Bt.facts
 go_wp2_with fail
 refine (c3 _).mono ?_
 rintro e w4 ⟨rfl, hb⟩
 clear Fs Ft
 replace Bs := Bs.ee hb
 replace Bt := Bt.ee hb
 replace hw := upB hw hb
 clear hb
 have Fs := Bs.facts
 have Ft := Bt.facts
 go_wp2
 go_ret
 exact ⟨rfl, by have hl := hw.size; go_grown⟩
theorem rcmpT_any (S T : Tri3) (w : World) :
    Calls Tryz.prog 51 #[.agg #[.int .i64 S.A.x, .int .i64 S.A.y, .int .i64 S.B.x, .int .i64 S.B.y, .int .i64 S.C.x, .int .i64 S.C.y], .agg #[.int .i64 T.A.x, .int .i64 T.A.y, .int .i64 T.B.x, .int .i64 T.B.y, .int .i64 T.C.x, .int .i64 T.C.y]] w fun e w' => e = .returned (.int .i64 (cmpT S T)) ∧ Below w.heap.size w w' := by
 by_cases h0 : cmpP S.A T.A = 0
 ·by_cases h1 : cmpP S.B T.B = 0
  ·rw [show cmpT S T = cmpP S.C T.C by unfold cmpT; simp [h0, h1]]; exact rcmpT_2 S T h0 h1 w
  ·rw [show cmpT S T = cmpP S.B T.B by unfold cmpT; simp [h0, h1]]; exact rcmpT_1 S T h0 h1 w
 ·rw [show cmpT S T = cmpP S.A T.A by unfold cmpT; simp [h0]]; exact rcmpT_0 S T h0 w
def or3 (x y z : Int) : Int := if x ≠ 0 then x else if y ≠ 0 then y else z
theorem valT_vld {T : Tri3} (h : valT T = true) : vld T.A = true ∧ vld T.B = true ∧ vld T.C = true := by
 rw [zJk] at h
 unfold valS at h
 simp only [Bool.and_eq_true, decide_eq_true_eq] at h
 exact zCa (by omega)
end Go.Proofs.YtmobnmjjmafibaaGreat
namespace Go.Proofs.YtmobnmjjmafibaaGreat
open Go.RowKit Go.Sort
attribute [local go_sem] rOper rAt rUpon cell_set sg_i64 sg_u64 alloc_cell alloc_frozen
attribute [local go_sem 10000] pt_eql pt_neq tri_eql
attribute [local irreducible] rWalk
theorem zGw (T : Tri3) (w : World) : Calls Tryz.prog 23 #[.agg #[.int .i64 T.A.x, .int .i64 T.A.y, .int .i64 T.B.x, .int .i64 T.B.y, .int .i64 T.C.x, .int .i64 T.C.y], .int .i64 0] w fun e w' => e = .returned (.agg #[.int .i64 T.A.x, .int .i64 T.A.y]) ∧ Below w.heap.size w w' := zAr T 0 w
theorem zI6 (T : Tri3) (w : World) : Calls Tryz.prog 23 #[.agg #[.int .i64 T.A.x, .int .i64 T.A.y, .int .i64 T.B.x, .int .i64 T.B.y, .int .i64 T.C.x, .int .i64 T.C.y], .int .i64 1] w fun e w' => e = .returned (.agg #[.int .i64 T.B.x, .int .i64 T.B.y]) ∧ Below w.heap.size w w' := zAr T 1 w
theorem far_0 (T : Tri3) (a b : Pt) (ha0 : peqI T.A.x T.A.y a.x a.y = false) (hb0 : peqI T.A.x T.A.y b.x b.y = false) (w : World) :
    Calls Tryz.prog 84 #[.agg #[.int .i64 T.A.x, .int .i64 T.A.y, .int .i64 T.B.x, .int .i64 T.B.y, .int .i64 T.C.x, .int .i64 T.C.y], .agg #[.int .i64 a.x, .int .i64 a.y], .agg #[.int .i64 b.x, .int .i64 b.y]] w fun e w' => e = .returned (.agg #[.int .i64 T.A.x, .int .i64 T.A.y]) ∧ Below w.heap.size w w' := by
 have cc0 := zGw T
 go_enter Tryz.func84, Tryz.ntmps84
 go_wp2_with fail
 refine zA2 fun W1 hW => ?_
 have Bt : Box W1 (w.heap.size) [.int .i64 T.A.x, .int .i64 T.A.y, .int .i64 T.B.x, .int .i64 T.B.y, .int .i64 T.C.x, .int .i64 T.C.y] 38 := by rw [hW]; exact (((Box.new rfl).old _).old _).old _
 have Ba : Box W1 (w.heap.size + 1) [.int .i64 a.x, .int .i64 a.y] 30 := by rw [hW]; exact ((Box.new (by simp)).old _).old _
 have Bb : Box W1 (w.heap.size + 1 + 1) [.int .i64 b.x, .int .i64 b.y] 30 := by rw [hW]; exact (Box.new (by simp)).old _
 have Br : Box W1 (w.heap.size + 1 + 1 + 1) [.int .i64 0, .int .i64 0] 30 := by rw [hW]; exact Box.new (by simp)
 have hw : Below w.heap.size w W1 := by rw [hW]; go_grown
 clear hW
 refine wp_loop_rounds 4 ?_
 try rw [rounds_succ]
 have Ft := Bt.facts
 have Fa := Ba.facts
 have Fb := Bb.facts
 have Fr := Br.facts
 go_wp2_with fail
 have gt := Bt.cells
 have ga := Ba.cells
 have gb := Bb.cells
 have gr := Br.cells
 refine wp_region_tail 11 (by kernel_rfl) (by kernel_rfl) (C := fun w' => ∃ p : Regrown, w' = grow (redrawn W1 p.d) p.os) rgB ?_
 simp only [tK1, tK0, dP1, dP0]
 repeat (first | (refine zA0 (Eq.refl false) ?_; simp only [Act.put, sT2, sT1, sT0]) | (refine rWalk_step (fun K hK => ?_); go_simp; first | (refine hK _ ?_; clear hK K) | (apply Exists.intro; refine ⟨fun _ => ?_, hK _ ?_⟩; (first | with_reducible exact toExt cc0 _); clear hK K)))
 refine rWalk_nil ?_
 intro w2 hb
 clear gt ga gb gr
 clear Ft Fa Fb Fr
 replace Bt := Bt.ee hb
 replace Ba := Ba.ee hb
 replace Bb := Bb.ee hb
 replace Br := Br.ee hb
 replace hw := upB hw hb
 have Ft := Bt.facts
 have Fa := Ba.facts
 have Fb := Bb.facts
 have Fr := Br.facts
 go_wp2_with fail
 refine (cc0 _).mono ?_
 rintro e w3 ⟨rfl, hb⟩
 clear Ft Fa Fb Fr
 replace Bt := Bt.ee hb
 replace Ba := Ba.ee hb
 replace Bb := Bb.ee hb
 replace Br := Br.ee hb
 replace hw := upB hw hb
 clear hb
 have Ft := Bt.facts
 have Fa := Ba.facts
 have Fb := Bb.facts
 have Fr := Br.facts
 go_wp2_with fail
 refine bodyPost_ret (v := .agg #[.int .i64 T.A.x, .int .i64 T.A.y]) (by simp [results, Tryz.results84, go_sem, Fr]) rfl ⟨rfl, by have hl := hw.size; go_grown⟩
theorem far_10 (T : Tri3) (a b : Pt) (ha0 : peqI T.A.x T.A.y a.x a.y = true) (ha1 : peqI T.B.x T.B.y a.x a.y = false) (hb1 : peqI T.B.x T.B.y b.x b.y = false) (w : World) :
    Calls Tryz.prog 84 #[.agg #[.int .i64 T.A.x, .int .i64 T.A.y, .int .i64 T.B.x, .int .i64 T.B.y, .int .i64 T.C.x, .int .i64 T.C.y], .agg #[.int .i64 a.x, .int .i64 a.y], .agg #[.int .i64 b.x, .int .i64 b.y]] w fun e w' => e = .returned (.agg #[.int .i64 T.B.x, .int .i64 T.B.y]) ∧ Below w.heap.size w w' := by
 have cc0 := zGw T
 have cc1 := zI6 T
 go_enter Tryz.func84, Tryz.ntmps84
 go_wp2_with fail
 refine zA2 fun W1 hW => ?_
 have Bt : Box W1 (w.heap.size) [.int .i64 T.A.x, .int .i64 T.A.y, .int .i64 T.B.x, .int .i64 T.B.y, .int .i64 T.C.x, .int .i64 T.C.y] 38 := by rw [hW]; exact (((Box.new rfl).old _).old _).old _
 have Ba : Box W1 (w.heap.size + 1) [.int .i64 a.x, .int .i64 a.y] 30 := by rw [hW]; exact ((Box.new (by simp)).old _).old _
 have Bb : Box W1 (w.heap.size + 1 + 1) [.int .i64 b.x, .int .i64 b.y] 30 := by rw [hW]; exact (Box.new (by simp)).old _
 have Br : Box W1 (w.heap.size + 1 + 1 + 1) [.int .i64 0, .int .i64 0] 30 := by rw [hW]; exact Box.new (by simp)
 have hw : Below w.heap.size w W1 := by rw [hW]; go_grown
 clear hW
 refine wp_loop_rounds 4 ?_
 try rw [rounds_succ]
 have Ft := Bt.facts
 have Fa := Ba.facts
 have Fb := Bb.facts
 have Fr := Br.facts
 go_wp2_with fail
 have gt := Bt.cells
 have ga := Ba.cells
 have gb := Bb.cells
 have gr := Br.cells
 refine wp_region_tail 11 (by kernel_rfl) (by kernel_rfl) (C := fun w' => ∃ p : Regrown, w' = grow (redrawn W1 p.d) p.os) rgB ?_
 simp only [tK1, tK0, dP1, dP0]
 repeat (first | (refine zA0 (Eq.refl false) ?_; simp only [Act.put, sT2, sT1, sT0]) | (refine rWalk_step (fun K hK => ?_); go_simp; first | (refine hK _ ?_; clear hK K) | (apply Exists.intro; refine ⟨fun _ => ?_, hK _ ?_⟩; (first | with_reducible exact toExt cc0 _); clear hK K)))
 refine rWalk_nil ?_
 intro w2 hb
 clear gt ga gb gr
 clear Ft Fa Fb Fr
 replace Bt := Bt.ee hb
 replace Ba := Ba.ee hb
 replace Bb := Bb.ee hb
 replace Br := Br.ee hb
 replace hw := upB hw hb
 have Ft := Bt.facts
 have Fa := Ba.facts
 have Fb := Bb.facts
 have Fr := Br.facts
 go_wp2_with fail
 clear Ft Fa Fb Fr
 try rw [rounds_succ]
 have Ft := Bt.facts
 have Fa := Ba.facts
 have Fb := Bb.facts
 have Fr := Br.facts
 go_wp2_with fail
 have gt := Bt.cells
 have ga := Ba.cells
 have gb := Bb.cells
 have gr := Br.cells
 refine wp_region_tail 11 (by kernel_rfl) (by kernel_rfl) (C := fun w' => ∃ p : Regrown, w' = grow (redrawn w2 p.d) p.os) rgB ?_
 simp only [tK1, tK0, dP1, dP0]
 repeat (first | (refine zA0 (Eq.refl false) ?_; simp only [Act.put, sT2, sT1, sT0]) | (refine rWalk_step (fun K hK => ?_); go_simp; first | (refine hK _ ?_; clear hK K) | (apply Exists.intro; refine ⟨fun _ => ?_, hK _ ?_⟩; (first | with_reducible exact toExt cc1 _); clear hK K)))
 refine rWalk_nil ?_
 intro w3 hb
 clear gt ga gb gr
 clear Ft Fa Fb Fr
 replace Bt := Bt.ee hb
 replace Ba := Ba.ee hb
 replace Bb := Bb.ee hb
 replace Br := Br.ee hb
 replace hw := upB hw hb
 have Ft := Bt.facts
 have Fa := Ba.facts
 have Fb := Bb.facts
 have Fr := Br.facts
 go_wp2_with fail
 refine (cc1 _).mono ?_
 rintro e w4 ⟨rfl, hb⟩
 clear Ft Fa Fb Fr
 replace Bt := Bt.ee hb
 replace Ba := Ba.ee hb
 replace Bb := Bb.ee hb
 replace Br := Br.ee hb
 replace hw := upB hw hb
 clear hb
 have Ft := Bt.facts
 have Fa := Ba.facts
 have Fb := Bb.facts
 have Fr := Br.facts
 go_wp2_with fail
 refine bodyPost_ret (v := .agg #[.int .i64 T.B.x, .int .i64 T.B.y]) (by simp [results, Tryz.results84, go_sem, Fr]) rfl ⟨rfl, by have hl := hw.size; go_grown⟩
theorem far_11 (T : Tri3) (a b : Pt) (ha0 : peqI T.A.x T.A.y a.x a.y = true) (ha1 : peqI T.B.x T.B.y a.x a.y = true) (w : World) :
    Calls Tryz.prog 84 #[.agg #[.int .i64 T.A.x, .int .i64 T.A.y, .int .i64 T.B.x, .int .i64 T.B.y, .int .i64 T.C.x, .int .i64 T.C.y], .agg #[.int .i64 a.x, .int .i64 a.y], .agg #[.int .i64 b.x, .int .i64 b.y]] w fun e w' => e = .returned (.agg #[.int .i64 T.C.x, .int .i64 T.C.y]) ∧ Below w.heap.size w w' := by
 have cc0 := zGw T
 have cc1 := zI6 T
 go_enter Tryz.func84, Tryz.ntmps84
 go_wp2_with fail
 refine zA2 fun W1 hW => ?_
 have Bt : Box W1 (w.heap.size) [.int .i64 T.A.x, .int .i64 T.A.y, .int .i64 T.B.x, .int .i64 T.B.y, .int .i64 T.C.x, .int .i64 T.C.y] 38 := by rw [hW]; exact (((Box.new rfl).old _).old _).old _
 have Ba : Box W1 (w.heap.size + 1) [.int .i64 a.x, .int .i64 a.y] 30 := by rw [hW]; exact ((Box.new (by simp)).old _).old _
 have Bb : Box W1 (w.heap.size + 1 + 1) [.int .i64 b.x, .int .i64 b.y] 30 := by rw [hW]; exact (Box.new (by simp)).old _
 have Br : Box W1 (w.heap.size + 1 + 1 + 1) [.int .i64 0, .int .i64 0] 30 := by rw [hW]; exact Box.new (by simp)
 have hw : Below w.heap.size w W1 := by rw [hW]; go_grown
 clear hW
 refine wp_loop_rounds 4 ?_
 try rw [rounds_succ]
 have Ft := Bt.facts
 have Fa := Ba.facts
 have Fb := Bb.facts
 have Fr := Br.facts
 go_wp2_with fail
 have gt := Bt.cells
 have ga := Ba.cells
 have gb := Bb.cells
 have gr := Br.cells
 refine wp_region_tail 11 (by kernel_rfl) (by kernel_rfl) (C := fun w' => ∃ p : Regrown, w' = grow (redrawn W1 p.d) p.os) rgB ?_
 simp only [tK1, tK0, dP1, dP0]
 repeat (first | (refine zA0 (Eq.refl false) ?_; simp only [Act.put, sT2, sT1, sT0]) | (refine rWalk_step (fun K hK => ?_); go_simp; first | (refine hK _ ?_; clear hK K) | (apply Exists.intro; refine ⟨fun _ => ?_, hK _ ?_⟩; (first | with_reducible exact toExt cc0 _); clear hK K)))
 refine rWalk_nil ?_
 intro w2 hb
 clear gt ga gb gr
 clear Ft Fa Fb Fr
 replace Bt := Bt.ee hb
 replace Ba := Ba.ee hb
 replace Bb := Bb.ee hb
 replace Br := Br.ee hb
 replace hw := upB hw hb
 have Ft := Bt.facts
 have Fa := Ba.facts
 have Fb := Bb.facts
 have Fr := Br.facts
 go_wp2_with fail
 clear Ft Fa Fb Fr
 try rw [rounds_succ]
 have Ft := Bt.facts
 have Fa := Ba.facts
 have Fb := Bb.facts
 have Fr := Br.facts
 go_wp2_with fail
 have gt := Bt.cells
 have ga := Ba.cells
 have gb := Bb.cells
 have gr := Br.cells
 refine wp_region_tail 11 (by kernel_rfl) (by kernel_rfl) (C := fun w' => ∃ p : Regrown, w' = grow (redrawn w2 p.d) p.os) rgB ?_
 simp only [tK1, tK0, dP1, dP0]
 repeat (first | (refine zA0 (Eq.refl false) ?_; simp only [Act.put, sT2, sT1, sT0]) | (refine rWalk_step (fun K hK => ?_); go_simp; first | (refine hK _ ?_; clear hK K) | (apply Exists.intro; refine ⟨fun _ => ?_, hK _ ?_⟩; (first | with_reducible exact toExt cc1 _); clear hK K)))
 refine rWalk_nil ?_
 intro w3 hb
 clear gt ga gb gr
 clear Ft Fa Fb Fr
 replace Bt := Bt.ee hb
 replace Ba := Ba.ee hb
 replace Bb := Bb.ee hb
 replace Br := Br.ee hb
 replace hw := upB hw hb
 have Ft := Bt.facts
 have Fa := Ba.facts
 have Fb := Bb.facts
 have Fr := Br.facts
 go_wp2_with fail
 clear Ft Fa Fb Fr
 try rw [rounds_succ]
 have Ft := Bt.facts
 have Fa := Ba.facts
 have Fb := Bb.facts
 have Fr := Br.facts
 go_wp2_with fail
 refine bodyPost_ret (v := .agg #[.int .i64 T.C.x, .int .i64 T.C.y]) (by simp [results, Tryz.results84, go_sem, Fr]) rfl ⟨rfl, by have hl := hw.size; go_grown⟩
theorem far_12 (T : Tri3) (a b : Pt) (ha0 : peqI T.A.x T.A.y a.x a.y = true) (ha1 : peqI T.B.x T.B.y a.x a.y = false) (hb1 : peqI T.B.x T.B.y b.x b.y = true) (w : World) :
    Calls Tryz.prog 84 #[.agg #[.int .i64 T.A.x, .int .i64 T.A.y, .int .i64 T.B.x, .int .i64 T.B.y, .int .i64 T.C.x, .int .i64 T.C.y], .agg #[.int .i64 a.x, .int .i64 a.y], .agg #[.int .i64 b.x, .int .i64 b.y]] w fun e w' => e = .returned (.agg #[.int .i64 T.C.x, .int .i64 T.C.y]) ∧ Below w.heap.size w w' := by
 have cc0 := zGw T
 have cc1 := zI6 T
 go_enter Tryz.func84, Tryz.ntmps84
 go_wp2_with fail
 refine zA2 fun W1 hW => ?_
 have Bt : Box W1 (w.heap.size) [.int .i64 T.A.x, .int .i64 T.A.y, .int .i64 T.B.x, .int .i64 T.B.y, .int .i64 T.C.x, .int .i64 T.C.y] 38 := by rw [hW]; exact (((Box.new rfl).old _).old _).old _
 have Ba : Box W1 (w.heap.size + 1) [.int .i64 a.x, .int .i64 a.y] 30 := by rw [hW]; exact ((Box.new (by simp)).old _).old _
 have Bb : Box W1 (w.heap.size + 1 + 1) [.int .i64 b.x, .int .i64 b.y] 30 := by rw [hW]; exact (Box.new (by simp)).old _
 have Br : Box W1 (w.heap.size + 1 + 1 + 1) [.int .i64 0, .int .i64 0] 30 := by rw [hW]; exact Box.new (by simp)
 have hw : Below w.heap.size w W1 := by rw [hW]; go_grown
 clear hW
 refine wp_loop_rounds 4 ?_
 try rw [rounds_succ]
 have Ft := Bt.facts
 have Fa := Ba.facts
 have Fb := Bb.facts
 have Fr := Br.facts
 go_wp2_with fail
 have gt := Bt.cells
 have ga := Ba.cells
 have gb := Bb.cells
 have gr := Br.cells
 refine wp_region_tail 11 (by kernel_rfl) (by kernel_rfl) (C := fun w' => ∃ p : Regrown, w' = grow (redrawn W1 p.d) p.os) rgB ?_
 simp only [tK1, tK0, dP1, dP0]
 repeat (first | (refine zA0 (Eq.refl false) ?_; simp only [Act.put, sT2, sT1, sT0]) | (refine rWalk_step (fun K hK => ?_); go_simp; first | (refine hK _ ?_; clear hK K) | (apply Exists.intro; refine ⟨fun _ => ?_, hK _ ?_⟩; (first | with_reducible exact toExt cc0 _); clear hK K)))
 refine rWalk_nil ?_
 intro w2 hb
 clear gt ga gb gr
 clear Ft Fa Fb Fr
 replace Bt := Bt.ee hb
 replace Ba := Ba.ee hb
 replace Bb := Bb.ee hb
 replace Br := Br.ee hb
 replace hw := upB hw hb
 have Ft := Bt.facts
 have Fa := Ba.facts
 have Fb := Bb.facts
 have Fr := Br.facts
 go_wp2_with fail
 clear Ft Fa Fb Fr
 try rw [rounds_succ]
 have Ft := Bt.facts
 have Fa := Ba.facts
 have Fb := Bb.facts
 have Fr := Br.facts
 go_wp2_with fail
 have gt := Bt.cells
 have ga := Ba.cells
 have gb := Bb.cells
 have gr := Br.cells
 refine wp_region_tail 11 (by kernel_rfl) (by kernel_rfl) (C := fun w' => ∃ p : Regrown, w' = grow (redrawn w2 p.d) p.os) rgB ?_
 simp only [tK1, tK0, dP1, dP0]
 repeat (first | (refine zA0 (Eq.refl false) ?_; simp only [Act.put, sT2, sT1, sT0]) | (refine rWalk_step (fun K hK => ?_); go_simp; first | (refine hK _ ?_; clear hK K) | (apply Exists.intro; refine ⟨fun _ => ?_, hK _ ?_⟩; (first | with_reducible exact toExt cc1 _); clear hK K)))
 refine rWalk_nil ?_
 intro w3 hb
 clear gt ga gb gr
 clear Ft Fa Fb Fr
 replace Bt := Bt.ee hb
 replace Ba := Ba.ee hb
 replace Bb := Bb.ee hb
 replace Br := Br.ee hb
 replace hw := upB hw hb
 have Ft := Bt.facts
 have Fa := Ba.facts
 have Fb := Bb.facts
 have Fr := Br.facts
 go_wp2_with fail
 clear Ft Fa Fb Fr
 try rw [rounds_succ]
 have Ft := Bt.facts
 have Fa := Ba.facts
 have Fb := Bb.facts
 have Fr := Br.facts
 go_wp2_with fail
 refine bodyPost_ret (v := .agg #[.int .i64 T.C.x, .int .i64 T.C.y]) (by simp [results, Tryz.results84, go_sem, Fr]) rfl ⟨rfl, by have hl := hw.size; go_grown⟩
theorem far_20 (T : Tri3) (a b : Pt) (ha0 : peqI T.A.x T.A.y a.x a.y = false) (hb0 : peqI T.A.x T.A.y b.x b.y = true) (ha1 : peqI T.B.x T.B.y a.x a.y = false) (hb1 : peqI T.B.x T.B.y b.x b.y = false) (w : World) :
    Calls Tryz.prog 84 #[.agg #[.int .i64 T.A.x, .int .i64 T.A.y, .int .i64 T.B.x, .int .i64 T.B.y, .int .i64 T.C.x, .int .i64 T.C.y], .agg #[.int .i64 a.x, .int .i64 a.y], .agg #[.int .i64 b.x, .int .i64 b.y]] w fun e w' => e = .returned (.agg #[.int .i64 T.B.x, .int .i64 T.B.y]) ∧ Below w.heap.size w w' := by
 have cc0 := zGw T
 have cc1 := zI6 T
 go_enter Tryz.func84, Tryz.ntmps84
 go_wp2_with fail
 refine zA2 fun W1 hW => ?_
 have Bt : Box W1 (w.heap.size) [.int .i64 T.A.x, .int .i64 T.A.y, .int .i64 T.B.x, .int .i64 T.B.y, .int .i64 T.C.x, .int .i64 T.C.y] 38 := by rw [hW]; exact (((Box.new rfl).old _).old _).old _
 have Ba : Box W1 (w.heap.size + 1) [.int .i64 a.x, .int .i64 a.y] 30 := by rw [hW]; exact ((Box.new (by simp)).old _).old _
 have Bb : Box W1 (w.heap.size + 1 + 1) [.int .i64 b.x, .int .i64 b.y] 30 := by rw [hW]; exact (Box.new (by simp)).old _
 have Br : Box W1 (w.heap.size + 1 + 1 + 1) [.int .i64 0, .int .i64 0] 30 := by rw [hW]; exact Box.new (by simp)
 have hw : Below w.heap.size w W1 := by rw [hW]; go_grown
 clear hW
 refine wp_loop_rounds 4 ?_
 try rw [rounds_succ]
 have Ft := Bt.facts
 have Fa := Ba.facts
 have Fb := Bb.facts
 have Fr := Br.facts
 go_wp2_with fail
 have gt := Bt.cells
 have ga := Ba.cells
 have gb := Bb.cells
 have gr := Br.cells
 refine wp_region_tail 11 (by kernel_rfl) (by kernel_rfl) (C := fun w' => ∃ p : Regrown, w' = grow (redrawn W1 p.d) p.os) rgB ?_
 simp only [tK1, tK0, dP1, dP0]
 repeat (first | (refine zA0 (Eq.refl false) ?_; simp only [Act.put, sT2, sT1, sT0]) | (refine rWalk_step (fun K hK => ?_); go_simp; first | (refine hK _ ?_; clear hK K) | (apply Exists.intro; refine ⟨fun _ => ?_, hK _ ?_⟩; (first | with_reducible exact toExt cc0 _); clear hK K)))
 refine rWalk_nil ?_
 intro w2 hb
 clear gt ga gb gr
 clear Ft Fa Fb Fr
 replace Bt := Bt.ee hb
 replace Ba := Ba.ee hb
 replace Bb := Bb.ee hb
 replace Br := Br.ee hb
 replace hw := upB hw hb
 have Ft := Bt.facts
 have Fa := Ba.facts
 have Fb := Bb.facts
 have Fr := Br.facts
 go_wp2_with fail
 clear Ft Fa Fb Fr
 try rw [rounds_succ]
 have Ft := Bt.facts
 have Fa := Ba.facts
 have Fb := Bb.facts
 have Fr := Br.facts
 go_wp2_with fail
 have gt := Bt.cells
 have ga := Ba.cells
 have gb := Bb.cells
 have gr := Br.cells
 refine wp_region_tail 11 (by kernel_rfl) (by kernel_rfl) (C := fun w' => ∃ p : Regrown, w' = grow (redrawn w2 p.d) p.os) rgB ?_
 simp only [tK1, tK0, dP1, dP0]
 repeat (first | (refine zA0 (Eq.refl false) ?_; simp only [Act.put, sT2, sT1, sT0]) | (refine rWalk_step (fun K hK => ?_); go_simp; first | (refine hK _ ?_; clear hK K) | (apply Exists.intro; refine ⟨fun _ => ?_, hK _ ?_⟩; (first | with_reducible exact toExt cc1 _); clear hK K)))
 refine rWalk_nil ?_
 intro w3 hb
 clear gt ga gb gr
 clear Ft Fa Fb Fr
 replace Bt := Bt.ee hb
 replace Ba := Ba.ee hb
 replace Bb := Bb.ee hb
 replace Br := Br.ee hb
 replace hw := upB hw hb
 have Ft := Bt.facts
 have Fa := Ba.facts
 have Fb := Bb.facts
 have Fr := Br.facts
 go_wp2_with fail
 refine (cc1 _).mono ?_
 rintro e w4 ⟨rfl, hb⟩
 clear Ft Fa Fb Fr
 replace Bt := Bt.ee hb
 replace Ba := Ba.ee hb
 replace Bb := Bb.ee hb
 replace Br := Br.ee hb
 replace hw := upB hw hb
 clear hb
 have Ft := Bt.facts
 have Fa := Ba.facts
 have Fb := Bb.facts
 have Fr := Br.facts
 go_wp2_with fail
 refine bodyPost_ret (v := .agg #[.int .i64 T.B.x, .int .i64 T.B.y]) (by simp [results, Tryz.results84, go_sem, Fr]) rfl ⟨rfl, by have hl := hw.size; go_grown⟩
theorem far_21 (T : Tri3) (a b : Pt) (ha0 : peqI T.A.x T.A.y a.x a.y = false) (hb0 : peqI T.A.x T.A.y b.x b.y = true) (ha1 : peqI T.B.x T.B.y a.x a.y = true) (w : World) :
    Calls Tryz.prog 84 #[.agg #[.int .i64 T.A.x, .int .i64 T.A.y, .int .i64 T.B.x, .int .i64 T.B.y, .int .i64 T.C.x, .int .i64 T.C.y], .agg #[.int .i64 a.x, .int .i64 a.y], .agg #[.int .i64 b.x, .int .i64 b.y]] w fun e w' => e = .returned (.agg #[.int .i64 T.C.x, .int .i64 T.C.y]) ∧ Below w.heap.size w w' := by
 have cc0 := zGw T
 have cc1 := zI6 T
 go_enter Tryz.func84, Tryz.ntmps84
 go_wp2_with fail
 refine zA2 fun W1 hW => ?_
 have Bt : Box W1 (w.heap.size) [.int .i64 T.A.x, .int .i64 T.A.y, .int .i64 T.B.x, .int .i64 T.B.y, .int .i64 T.C.x, .int .i64 T.C.y] 38 := by rw [hW]; exact (((Box.new rfl).old _).old _).old _
 have Ba : Box W1 (w.heap.size + 1) [.int .i64 a.x, .int .i64 a.y] 30 := by rw [hW]; exact ((Box.new (by simp)).old _).old _
 have Bb : Box W1 (w.heap.size + 1 + 1) [.int .i64 b.x, .int .i64 b.y] 30 := by rw [hW]; exact (Box.new (by simp)).old _
 have Br : Box W1 (w.heap.size + 1 + 1 + 1) [.int .i64 0, .int .i64 0] 30 := by rw [hW]; exact Box.new (by simp)
 have hw : Below w.heap.size w W1 := by rw [hW]; go_grown
 clear hW
 refine wp_loop_rounds 4 ?_
 try rw [rounds_succ]
 have Ft := Bt.facts
 have Fa := Ba.facts
 have Fb := Bb.facts
 have Fr := Br.facts
 go_wp2_with fail
 have gt := Bt.cells
 have ga := Ba.cells
 have gb := Bb.cells
 have gr := Br.cells
 refine wp_region_tail 11 (by kernel_rfl) (by kernel_rfl) (C := fun w' => ∃ p : Regrown, w' = grow (redrawn W1 p.d) p.os) rgB ?_
 simp only [tK1, tK0, dP1, dP0]
 repeat (first | (refine zA0 (Eq.refl false) ?_; simp only [Act.put, sT2, sT1, sT0]) | (refine rWalk_step (fun K hK => ?_); go_simp; first | (refine hK _ ?_; clear hK K) | (apply Exists.intro; refine ⟨fun _ => ?_, hK _ ?_⟩; (first | with_reducible exact toExt cc0 _); clear hK K)))
 refine rWalk_nil ?_
 intro w2 hb
 clear gt ga gb gr
 clear Ft Fa Fb Fr
 replace Bt := Bt.ee hb
 replace Ba := Ba.ee hb
 replace Bb := Bb.ee hb
 replace Br := Br.ee hb
 replace hw := upB hw hb
 have Ft := Bt.facts
 have Fa := Ba.facts
 have Fb := Bb.facts
 have Fr := Br.facts
 go_wp2_with fail
 clear Ft Fa Fb Fr
 try rw [rounds_succ]
 have Ft := Bt.facts
 have Fa := Ba.facts
 have Fb := Bb.facts
 have Fr := Br.facts
 go_wp2_with fail
 have gt := Bt.cells
 have ga := Ba.cells
 have gb := Bb.cells
 have gr := Br.cells
 refine wp_region_tail 11 (by kernel_rfl) (by kernel_rfl) (C := fun w' => ∃ p : Regrown, w' = grow (redrawn w2 p.d) p.os) rgB ?_
 simp only [tK1, tK0, dP1, dP0]
 repeat (first | (refine zA0 (Eq.refl false) ?_; simp only [Act.put, sT2, sT1, sT0]) | (refine rWalk_step (fun K hK => ?_); go_simp; first | (refine hK _ ?_; clear hK K) | (apply Exists.intro; refine ⟨fun _ => ?_, hK _ ?_⟩; (first | with_reducible exact toExt cc1 _); clear hK K)))
 refine rWalk_nil ?_
 intro w3 hb
 clear gt ga gb gr
 clear Ft Fa Fb Fr
 replace Bt := Bt.ee hb
 replace Ba := Ba.ee hb
 replace Bb := Bb.ee hb
 replace Br := Br.ee hb
 replace hw := upB hw hb
 have Ft := Bt.facts
 have Fa := Ba.facts
 have Fb := Bb.facts
 have Fr := Br.facts
 go_wp2_with fail
 clear Ft Fa Fb Fr
 try rw [rounds_succ]
 have Ft := Bt.facts
 have Fa := Ba.facts
 have Fb := Bb.facts
 have Fr := Br.facts
 go_wp2_with fail
 refine bodyPost_ret (v := .agg #[.int .i64 T.C.x, .int .i64 T.C.y]) (by simp [results, Tryz.results84, go_sem, Fr]) rfl ⟨rfl, by have hl := hw.size; go_grown⟩
theorem far_22 (T : Tri3) (a b : Pt) (ha0 : peqI T.A.x T.A.y a.x a.y = false) (hb0 : peqI T.A.x T.A.y b.x b.y = true) (ha1 : peqI T.B.x T.B.y a.x a.y = false) (hb1 : peqI T.B.x T.B.y b.x b.y = true) (w : World) :
    Calls Tryz.prog 84 #[.agg #[.int .i64 T.A.x, .int .i64 T.A.y, .int .i64 T.B.x, .int .i64 T.B.y, .int .i64 T.C.x, .int .i64 T.C.y], .agg #[.int .i64 a.x, .int .i64 a.y], .agg #[.int .i64 b.x, .int .i64 b.y]] w fun e w' => e = .returned (.agg #[.int .i64 T.C.x, .int .i64 T.C.y]) ∧ Below w.heap.size w w' := by
 have cc0 := zGw T
 have cc1 := zI6 T
 go_enter Tryz.func84, Tryz.ntmps84
 go_wp2_with fail
 refine zA2 fun W1 hW => ?_
 have Bt : Box W1 (w.heap.size) [.int .i64 T.A.x, .int .i64 T.A.y, .int .i64 T.B.x, .int .i64 T.B.y, .int .i64 T.C.x, .int .i64 T.C.y] 38 := by rw [hW]; exact (((Box.new rfl).old _).old _).old _
 have Ba : Box W1 (w.heap.size + 1) [.int .i64 a.x, .int .i64 a.y] 30 := by rw [hW]; exact ((Box.new (by simp)).old _).old _
 have Bb : Box W1 (w.heap.size + 1 + 1) [.int .i64 b.x, .int .i64 b.y] 30 := by rw [hW]; exact (Box.new (by simp)).old _
 have Br : Box W1 (w.heap.size + 1 + 1 + 1) [.int .i64 0, .int .i64 0] 30 := by rw [hW]; exact Box.new (by simp)
 have hw : Below w.heap.size w W1 := by rw [hW]; go_grown
 clear hW
 refine wp_loop_rounds 4 ?_
 try rw [rounds_succ]
 have Ft := Bt.facts
 have Fa := Ba.facts
 have Fb := Bb.facts
 have Fr := Br.facts
 go_wp2_with fail
 have gt := Bt.cells
 have ga := Ba.cells
 have gb := Bb.cells
 have gr := Br.cells
 refine wp_region_tail 11 (by kernel_rfl) (by kernel_rfl) (C := fun w' => ∃ p : Regrown, w' = grow (redrawn W1 p.d) p.os) rgB ?_
 simp only [tK1, tK0, dP1, dP0]
 repeat (first | (refine zA0 (Eq.refl false) ?_; simp only [Act.put, sT2, sT1, sT0]) | (refine rWalk_step (fun K hK => ?_); go_simp; first | (refine hK _ ?_; clear hK K) | (apply Exists.intro; refine ⟨fun _ => ?_, hK _ ?_⟩; (first | with_reducible exact toExt cc0 _); clear hK K)))
 refine rWalk_nil ?_
 intro w2 hb
 clear gt ga gb gr
 clear Ft Fa Fb Fr
 replace Bt := Bt.ee hb
 replace Ba := Ba.ee hb
 replace Bb := Bb.ee hb
 replace Br := Br.ee hb
 replace hw := upB hw hb
 have Ft := Bt.facts
 have Fa := Ba.facts
 have Fb := Bb.facts
 have Fr := Br.facts
 go_wp2_with fail
 clear Ft Fa Fb Fr
 try rw [rounds_succ]
 have Ft := Bt.facts
 have Fa := Ba.facts
 have Fb := Bb.facts
 have Fr := Br.facts
 go_wp2_with fail
 have gt := Bt.cells
 have ga := Ba.cells
 have gb := Bb.cells
 have gr := Br.cells
 refine wp_region_tail 11 (by kernel_rfl) (by kernel_rfl) (C := fun w' => ∃ p : Regrown, w' = grow (redrawn w2 p.d) p.os) rgB ?_
 simp only [tK1, tK0, dP1, dP0]
 repeat (first | (refine zA0 (Eq.refl false) ?_; simp only [Act.put, sT2, sT1, sT0]) | (refine rWalk_step (fun K hK => ?_); go_simp; first | (refine hK _ ?_; clear hK K) | (apply Exists.intro; refine ⟨fun _ => ?_, hK _ ?_⟩; (first | with_reducible exact toExt cc1 _); clear hK K)))
 refine rWalk_nil ?_
 intro w3 hb
 clear gt ga gb gr
 clear Ft Fa Fb Fr
 replace Bt := Bt.ee hb
 replace Ba := Ba.ee hb
 replace Bb := Bb.ee hb
 replace Br := Br.ee hb
 replace hw := upB hw hb
 have Ft := Bt.facts
 have Fa := Ba.facts
 have Fb := Bb.facts
 have Fr := Br.facts
 go_wp2_with fail
 clear Ft Fa Fb Fr
 try rw [rounds_succ]
 have Ft := Bt.facts
 have Fa := Ba.facts
 have Fb := Bb.facts
 have Fr := Br.facts
 go_wp2_with fail
 refine bodyPost_ret (v := .agg #[.int .i64 T.C.x, .int .i64 T.C.y]) (by simp [results, Tryz.results84, go_sem, Fr]) rfl ⟨rfl, by have hl := hw.size; go_grown⟩
theorem zF4 (T : Tri3) (a b : Pt) (w : World) : Calls Tryz.prog 84 #[.agg #[.int .i64 T.A.x, .int .i64 T.A.y, .int .i64 T.B.x, .int .i64 T.B.y, .int .i64 T.C.x, .int .i64 T.C.y], .agg #[.int .i64 a.x, .int .i64 a.y], .agg #[.int .i64 b.x, .int .i64 b.y]] w fun e w' => e = .returned (.agg #[.int .i64 (apx T a b).x, .int .i64 (apx T a b).y]) ∧ Below w.heap.size w w' := by
 unfold apx
 cases a0 : peqI T.A.x T.A.y a.x a.y with
 | false =>
  cases b0 : peqI T.A.x T.A.y b.x b.y with
  | false => simpa using far_0 T a b a0 b0 w
  | true =>
   cases a1 : peqI T.B.x T.B.y a.x a.y with
   | false =>
    cases b1 : peqI T.B.x T.B.y b.x b.y with
    | false => simpa using far_20 T a b a0 b0 a1 b1 w
    | true => simpa using far_22 T a b a0 b0 a1 b1 w
   | true => simpa using far_21 T a b a0 b0 a1 w
 | true =>
  cases a1 : peqI T.B.x T.B.y a.x a.y with
  | false =>
   cases b1 : peqI T.B.x T.B.y b.x b.y with
   | false => simpa using far_10 T a b a0 a1 b1 w
   | true => simpa using far_12 T a b a0 a1 b1 w
  | true => simpa using far_11 T a b a0 a1 w
attribute [local go_sem] rmap_nil
theorem zCe (T : Tri3) (w : World) :
    Calls Tryz.prog 64 #[.agg #[.int .i64 T.A.x, .int .i64 T.A.y, .int .i64 T.B.x, .int .i64 T.B.y, .int .i64 T.C.x, .int .i64 T.C.y]] w fun e w' => e = .returned (.agg #[.int .i64 T.A.x, .int .i64 T.A.y, .int .i64 T.B.x, .int .i64 T.B.y, .int .i64 T.B.x, .int .i64 T.B.y, .int .i64 T.C.x, .int .i64 T.C.y, .int .i64 T.C.x, .int .i64 T.C.y, .int .i64 T.A.x, .int .i64 T.A.y]) ∧ Below w.heap.size w w' := by
 go_enter Tryz.func64, Tryz.ntmps64
 go_wp2_with fail
 refine bodyPost_ret (v := .agg #[.int .i64 T.A.x, .int .i64 T.A.y, .int .i64 T.B.x, .int .i64 T.B.y, .int .i64 T.B.x, .int .i64 T.B.y, .int .i64 T.C.x, .int .i64 T.C.y, .int .i64 T.C.x, .int .i64 T.C.y, .int .i64 T.A.x, .int .i64 T.A.y]) (by simp [results, Tryz.results64, go_sem]) rfl ⟨rfl, by go_grown⟩
theorem rleft_1 (mb b : Nat) (E : Es) (p q : Pt) (T : Tri3) (hg : getE E (p, q) = some T) (hk : okW (p, q)) (w : World) (Bm : Box w mb [.map (some b)] 41) (Hm : HoldsMap eW eT okW w b E) :
    Calls Tryz.prog 65 #[.pointer (some ⟨mb, 0, none⟩), .agg #[.int .i64 p.x, .int .i64 p.y], .agg #[.int .i64 q.x, .int .i64 q.y]] w fun e w' => e = .returned (.tuple #[.agg #[.int .i64 T.A.x, .int .i64 T.A.y, .int .i64 T.B.x, .int .i64 T.B.y, .int .i64 T.C.x, .int .i64 T.C.y], .bool true]) ∧ Below w.heap.size w w' := by
 go_enter Tryz.func65, Tryz.ntmps65
 go_wp2_with fail
 refine zA2 fun W1 hW => ?_
 have Bp : Box W1 (w.heap.size) [.int .i64 p.x, .int .i64 p.y] 30 := by rw [hW]; exact ((Box.new rfl).old _).old _
 have Bq : Box W1 (w.heap.size + 1) [.int .i64 q.x, .int .i64 q.y] 30 := by rw [hW]; exact (Box.new (by simp)).old _
 have Br : Box W1 (w.heap.size + 1 + 1) [.int .i64 0, .int .i64 0, .int .i64 0, .int .i64 0, .int .i64 0, .int .i64 0] 38 := by rw [hW]; exact Box.new (by simp)
 have hw : Below w.heap.size w W1 := by rw [hW]; go_grown
 clear hW
 have BM : Box W1 (mb) [.map (some b)] 41 := Bm.ee hw
 have hl : ∀ d os, (Instr.lookup 39 (.map (some b)) (.agg #[.int .i64 p.x, .int .i64 p.y, .int .i64 q.x, .int .i64 q.y]) true).run Tryz.prog (grow (redrawn W1 d) os) = .ok (.tuple #[.agg #[.int .i64 T.A.x, .int .i64 T.A.y, .int .i64 T.B.x, .int .i64 T.B.y, .int .i64 T.C.x, .int .i64 T.C.y], .bool true]) (grow (redrawn W1 d) os) := fun d os => ((Hm.ee hw).ext (below_regrown W1 d os) rfl).look_some kvR zAo hk hg
 clear hg
 have gp := Bp.cells
 have gq := Bq.cells
 have gr := Br.cells
 have gM := BM.cells
 refine zA4 11 8 19 [.int .i64 T.A.x, .int .i64 T.A.y, .int .i64 T.B.x, .int .i64 T.B.y, .int .i64 T.C.x, .int .i64 T.C.y] (zs := [.int .i64 0, .int .i64 0, .int .i64 0, .int .i64 0, .int .i64 0, .int .i64 0]) (eff := eff6 (.int .i64 T.A.x) (.int .i64 T.A.y) (.int .i64 T.B.x) (.int .i64 T.B.y) (.int .i64 T.C.x) (.int .i64 T.C.y)) zAc rfl rfl rfl rfl rfl rfl rfl (by simp) (fun ρ W => by simp [execOp, go_sem]; rfl) (by kernel_rfl) (by as_aux_lemma => kernel_rfl) (C := fun w' => ∃ p : Regrown, w' = grow (redrawn W1 p.d) p.os) rgB ?_ (fun ρ W b e1 e2 hB => by obtain ⟨x, y, _, _⟩ := hB.facts; simp [execOp, go_sem, e1, e2, x, y, eff6])
 simp only [tK1, tK0, dP1, dP0]
 repeat (first | (refine zA0 (Eq.refl false) ?_; simp only [Act.put, sT2, sT1, sT0]) | (refine rWalk_step (fun K hK => ?_); go_simp; first | (refine hK _ ?_; clear hK K) | (apply Exists.intro; refine ⟨fun _ => ?_, hK _ ?_⟩; (first | fail); clear hK K)))
 refine rWalk_nil ⟨rfl, ?_⟩
 intro w2 bks hb h1b h2b Bs
 have lps := Bp.lt
 have lqs := Bq.lt
 have lrs := Br.lt
 have lMs := BM.lt
 have hw0z := hw.size
 clear gp gq gr gM
 replace Bp := Bp.ee hb
 replace Bq := Bq.ee hb
 replace Br := Br.ee hb
 replace BM := BM.ee hb
 replace hw := upB hw hb
 have fs := h1b
 have hwz : w.heap.size ≤ W1.heap.size := hw0z
 clear hb h1b h2b hw0z
 simp only [Act.put]
 clear hl
 obtain ⟨xp, yp, zp, vp⟩ := Bp.facts
 obtain ⟨xq, yq, zq, vq⟩ := Bq.facts
 obtain ⟨xr, yr, zr, vr⟩ := Br.facts
 obtain ⟨xM, yM, zM, vM⟩ := BM.facts
 obtain ⟨xs, ys, zs, vs⟩ := Bs.facts
 go_wp2_with fail
 refine bodyPost_ret (v := .tuple #[.agg #[.int .i64 T.A.x, .int .i64 T.A.y, .int .i64 T.B.x, .int .i64 T.B.y, .int .i64 T.C.x, .int .i64 T.C.y], .bool true]) (by simp [results, Tryz.results65, go_sem, xr]) rfl ⟨rfl, by have hl := hw.size; go_grown⟩
theorem rleft_0 (mb b : Nat) (E : Es) (p q : Pt) (hg : getE E (p, q) = none) (hk : okW (p, q)) (w : World) (Bm : Box w mb [.map (some b)] 41) (Hm : HoldsMap eW eT okW w b E) :
    Calls Tryz.prog 65 #[.pointer (some ⟨mb, 0, none⟩), .agg #[.int .i64 p.x, .int .i64 p.y], .agg #[.int .i64 q.x, .int .i64 q.y]] w fun e w' => e = .returned (.tuple #[.agg #[.int .i64 0, .int .i64 0, .int .i64 0, .int .i64 0, .int .i64 0, .int .i64 0], .bool false]) ∧ Below w.heap.size w w' := by
 go_enter Tryz.func65, Tryz.ntmps65
 go_wp2_with fail
 refine zA2 fun W1 hW => ?_
 have Bp : Box W1 (w.heap.size) [.int .i64 p.x, .int .i64 p.y] 30 := by rw [hW]; exact ((Box.new rfl).old _).old _
 have Bq : Box W1 (w.heap.size + 1) [.int .i64 q.x, .int .i64 q.y] 30 := by rw [hW]; exact (Box.new (by simp)).old _
 have Br : Box W1 (w.heap.size + 1 + 1) [.int .i64 0, .int .i64 0, .int .i64 0, .int .i64 0, .int .i64 0, .int .i64 0] 38 := by rw [hW]; exact Box.new (by simp)
 have hw : Below w.heap.size w W1 := by rw [hW]; go_grown
 clear hW
 have BM : Box W1 (mb) [.map (some b)] 41 := Bm.ee hw
 have hl : ∀ d os, (Instr.lookup 39 (.map (some b)) (.agg #[.int .i64 p.x, .int .i64 p.y, .int .i64 q.x, .int .i64 q.y]) true).run Tryz.prog (grow (redrawn W1 d) os) = .ok (.tuple #[.agg #[.int .i64 0, .int .i64 0, .int .i64 0, .int .i64 0, .int .i64 0, .int .i64 0], .bool false]) (grow (redrawn W1 d) os) := fun d os => ((Hm.ee hw).ext (below_regrown W1 d os) rfl).look_none kvR zAo hk hg
 clear hg
 have gp := Bp.cells
 have gq := Bq.cells
 have gr := Br.cells
 have gM := BM.cells
 refine zA4 11 8 19 [.int .i64 0, .int .i64 0, .int .i64 0, .int .i64 0, .int .i64 0, .int .i64 0] (zs := [.int .i64 0, .int .i64 0, .int .i64 0, .int .i64 0, .int .i64 0, .int .i64 0]) (eff := eff6 (.int .i64 0) (.int .i64 0) (.int .i64 0) (.int .i64 0) (.int .i64 0) (.int .i64 0)) zAc rfl rfl rfl rfl rfl rfl rfl (by simp) (fun ρ W => by simp [execOp, go_sem]; rfl) (by kernel_rfl) (by as_aux_lemma => kernel_rfl) (C := fun w' => ∃ p : Regrown, w' = grow (redrawn W1 p.d) p.os) rgB ?_ (fun ρ W b e1 e2 hB => by obtain ⟨x, y, _, _⟩ := hB.facts; simp [execOp, go_sem, e1, e2, x, y, eff6])
 simp only [tK1, tK0, dP1, dP0]
 repeat (first | (refine zA0 (Eq.refl false) ?_; simp only [Act.put, sT2, sT1, sT0]) | (refine rWalk_step (fun K hK => ?_); go_simp; first | (refine hK _ ?_; clear hK K) | (apply Exists.intro; refine ⟨fun _ => ?_, hK _ ?_⟩; (first | fail); clear hK K)))
 refine rWalk_nil ⟨rfl, ?_⟩
 intro w2 bks hb h1b h2b Bs
 have lps := Bp.lt
 have lqs := Bq.lt
 have lrs := Br.lt
 have lMs := BM.lt
 have hw0z := hw.size
 clear gp gq gr gM
 replace Bp := Bp.ee hb
 replace Bq := Bq.ee hb
 replace Br := Br.ee hb
 replace BM := BM.ee hb
 replace hw := upB hw hb
 have fs := h1b
 have hwz : w.heap.size ≤ W1.heap.size := hw0z
 clear hb h1b h2b hw0z
 simp only [Act.put]
 clear hl
 obtain ⟨xp, yp, zp, vp⟩ := Bp.facts
 obtain ⟨xq, yq, zq, vq⟩ := Bq.facts
 obtain ⟨xr, yr, zr, vr⟩ := Br.facts
 obtain ⟨xM, yM, zM, vM⟩ := BM.facts
 obtain ⟨xs, ys, zs, vs⟩ := Bs.facts
 go_wp2_with fail
 refine bodyPost_ret (v := .tuple #[.agg #[.int .i64 0, .int .i64 0, .int .i64 0, .int .i64 0, .int .i64 0, .int .i64 0], .bool false]) (by simp [results, Tryz.results65, go_sem, xr]) rfl ⟨rfl, by have hl := hw.size; go_grown⟩
theorem zB4 (mb b : Nat) (E : Es) (p q : Pt) (hk : okW (p, q)) (w : World) (Bm : Box w mb [.map (some b)] 41) (Hm : HoldsMap eW eT okW w b E) :
    Calls Tryz.prog 65 #[.pointer (some ⟨mb, 0, none⟩), .agg #[.int .i64 p.x, .int .i64 p.y], .agg #[.int .i64 q.x, .int .i64 q.y]] w fun e w' => e = .returned (.tuple #[eT (lftE E p q).1, .bool (lftE E p q).2]) ∧ Below w.heap.size w w' := by
 cases h : getE E (p, q) with
 | none => rw [zBq h]; exact rleft_0 mb b E p q h hk w Bm Hm
 | some t => rw [zB5 h]; exact rleft_1 mb b E p q t h hk w Bm Hm
theorem toExtD {P : Program} {f : FuncId} {args : Array Value} {v : Value} {W : World} (c : ∀ d os, Calls P f args (grow (redrawn W d) os) fun e w' => e = .returned v ∧ Below (grow (redrawn W d) os).heap.size (grow (redrawn W d) os) w') :
    ∀ d os, Calls P f args (grow (redrawn W d) os) fun e w' => e = .returned v ∧ Ext (grow (redrawn W d) os) w' := c
end Go.Proofs.YtmobnmjjmafibaaGreat
