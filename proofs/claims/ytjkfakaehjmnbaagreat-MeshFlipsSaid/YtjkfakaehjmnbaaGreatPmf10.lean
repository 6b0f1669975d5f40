/- Put together: CdtC, MesH, MesI, Sort, MesJ, MesK, Sub, Mrg, SortR. -/
import Derived.Test.YtjkfakaehjmnbaaGreatRows
import Derived.Test.YtjkfakaehjmnbaaGreatPmf6
import Derived.Test.YtjkfakaehjmnbaaGreatPmf7
import Derived.Test.YtjkfakaehjmnbaaGreatPmf9
import Derived.Test.YtjkfakaehjmnbaaGreatPmf4
import Derived.Test.YtjkfakaehjmnbaaGreatPmf1
import Derived.WalkKit
import Derived.WalkSpells
import Derived.WalkLawsBesides
import Derived.Laws.Externs
import Derived.Deep.QuietTactic
import Derived.BigQuiet
import Derived.Lib.Hide
import Derived.Handy
import Derived.LoopN
import Derived.RegionTactic
import Derived.Carry
import Derived.Laws.AppendOwn
import Derived.Shelf.SlSortCmp.NoneTotal
import Derived.BigCall
import Derived.OwnWalk
import Derived.Maps.RangeWalk
import Derived.Deep.Slices
set_option maxRecDepth 100000
set_option maxHeartbeats 8000000
namespace Go.Proofs.YtjkfakaehjmnbaaGreat
open Go.RowKit Go.Sort
attribute [local go_sem] rOper rAt rUpon cell_set sg_i64 sg_u64 alloc_cell alloc_frozen
attribute [local go_sem 10000] pt_eql pt_neq tri_eql
attribute [local irreducible] rWalk
def badD (E : Es) (D : List Wl) (p q : Pt) : Bool := (lftE E p q).2 && ((lftE E q p).2 && (decide (kindD D p q = 0) && decide (circ (lftE E p q).1.A (lftE E p q).1.B (lftE E p q).1.C (apx (lftE E q p).1 p q) = 1)))
theorem rbad_a (mb b db : Nat) (a0 : Option Addr) (c n : Nat) (E : Es) (D : List Wl) (p q : Pt) (hk : okW (p, q)) (X Y : Tri3) (h1 : lftE E p q = (X, false)) (v2 : Bool) (h2 : lftE E q p = (Y, v2)) (w : World) (Bm : Box w mb [.map (some b)] 54) (Hm : HoldsMap eW eT okW w b E) (Dw : DocRd w db a0 c n D) :
    Calls Tryz.prog 76 #[.pointer (some ⟨mb, 0, none⟩), .pointer (some ⟨db, 0, none⟩), .agg #[.int .i64 p.x, .int .i64 p.y], .agg #[.int .i64 q.x, .int .i64 q.y]] w fun e w' => e = .returned (.bool false) ∧ Below w.heap.size w w' := by
 have cl := zAe mb b E p q hk;have cl' := zAe mb b E q p ⟨hk.2, hk.1⟩;have ck := zEv db a0 c n D p q;have cf := zC3 Y p q;have cc := fun z => zD3 X.A X.B X.C z;rw [h1] at cl;rw [h2] at cl';clear h1 h2 hk;generalize kindD D p q = k at *
 generalize apx Y p q = z at *
 replace cc := cc z;generalize circ X.A X.B X.C z = ci at *
 go_enter Tryz.func76, Tryz.ntmps76
 go_wp2_with fail;refine zA1 fun W1 hW => ?_;obtain ⟨Ba, Bb, hw⟩ := N2 hW;clear hW;refine (cl _ (Bm.ee hw) (Hm.ee hw)).mono ?_;rintro e w2 ⟨rfl, hb⟩;obtain ⟨Ba, Bb, hw, -⟩ := X2 Ba Bb hw hb;clear hb;have Fa := Ba.f;have Fb := Bb.f;go_wp2_with fail;clear Fa Fb;refine zA1 fun W3 hW => ?_;obtain ⟨bkx, hbx⟩ : ∃ b, w2.heap.size = b := ⟨_, rfl⟩;rw [hbx];obtain ⟨lax, lbx, fx, Bx, Ba, Bb, hw⟩ := M2 hW hbx Ba Bb hw;clear hW hbx;refine (cl' _ (Bm.ee hw) (Hm.ee hw)).mono ?_;rintro e w4 ⟨rfl, hb⟩;obtain ⟨Ba, Bb, Bx, hw, -⟩ := X3 Ba Bb Bx hw hb;clear hb;have Fa := Ba.f;have Fb := Bb.f;have Fx := Bx.f;go_wp2_with fail;clear Fa Fb Fx;refine zA2 fun W5 hW => ?_;obtain ⟨bky, hby⟩ : ∃ b, w4.heap.size = b := ⟨_, rfl⟩;rw [hby];obtain ⟨lay, lby, lxy, fy, By, Ba, Bb, Bx, hw⟩ := M3 hW hby Ba Bb Bx hw;clear hW hby;have d1 : ∀ d os, Calls Tryz.prog 69 #[.pointer (some ⟨db, 0, none⟩), .agg #[.int .i64 p.x, .int .i64 p.y], .agg #[.int .i64 q.x, .int .i64 q.y]] (grow (redrawn W5 d) os) fun e w' => e = .returned (.int .i64 k) ∧ Below (grow (redrawn W5 d) os).heap.size (grow (redrawn W5 d) os) w' := fun d os => ck _ ((Dw.ee hw).ext (below_regrown W5 d os) rfl);clear cl cl' ck Bm Hm Dw;have g_abxy := J4 Ba.cells Bb.cells Bx.cells By.cells;refine wrt 25 (by kernel_rfl) (by kernel_rfl) ?_;simp only [tK1, tK0, dP1, dP0];repeat (first | (refine zA0 (Eq.refl false) ?_; simp only [Act.put, sT2, sT1, sT0]) | (refine rWalk_step (fun K hK => ?_); go_simp; first | (refine hK _ ?_; clear hK K) | (apply Exists.intro; refine ⟨fun _ => ?_, hK _ ?_⟩; (first | with_reducible exact toExt cf _ | with_reducible exact toExt cc _ | with_reducible exact toExtD d1 _ _); clear hK K)))
 refine rWalk_nil ?_;intro w6 hb;clear g_abxy;obtain ⟨Ba, Bb, Bx, By, hw, -⟩ := X4 Ba Bb Bx By hw hb;have Fa := Ba.f;have Fb := Bb.f;have Fx := Bx.f;have Fy := By.f;go_wp2
 go_ret
 exact ⟨rfl, hw⟩
theorem rbad_b (mb b db : Nat) (a0 : Option Addr) (c n : Nat) (E : Es) (D : List Wl) (p q : Pt) (hk : okW (p, q)) (X Y : Tri3) (h1 : lftE E p q = (X, true)) (h2 : lftE E q p = (Y, false)) (w : World) (Bm : Box w mb [.map (some b)] 54) (Hm : HoldsMap eW eT okW w b E) (Dw : DocRd w db a0 c n D) :
    Calls Tryz.prog 76 #[.pointer (some ⟨mb, 0, none⟩), .pointer (some ⟨db, 0, none⟩), .agg #[.int .i64 p.x, .int .i64 p.y], .agg #[.int .i64 q.x, .int .i64 q.y]] w fun e w' => e = .returned (.bool false) ∧ Below w.heap.size w w' := by
 have cl := zAe mb b E p q hk;have cl' := zAe mb b E q p ⟨hk.2, hk.1⟩;have ck := zEv db a0 c n D p q;have cf := zC3 Y p q;have cc := fun z => zD3 X.A X.B X.C z;rw [h1] at cl;rw [h2] at cl';clear h1 h2 hk;generalize kindD D p q = k at *
 generalize apx Y p q = z at *
 replace cc := cc z;generalize circ X.A X.B X.C z = ci at *
 go_enter Tryz.func76, Tryz.ntmps76
 go_wp2_with fail;refine zA1 fun W1 hW => ?_;obtain ⟨Ba, Bb, hw⟩ := N2 hW;clear hW;refine (cl _ (Bm.ee hw) (Hm.ee hw)).mono ?_;rintro e w2 ⟨rfl, hb⟩;obtain ⟨Ba, Bb, hw, -⟩ := X2 Ba Bb hw hb;clear hb;have Fa := Ba.f;have Fb := Bb.f;go_wp2_with fail;clear Fa Fb;refine zA1 fun W3 hW => ?_;obtain ⟨bkx, hbx⟩ : ∃ b, w2.heap.size = b := ⟨_, rfl⟩;rw [hbx];obtain ⟨lax, lbx, fx, Bx, Ba, Bb, hw⟩ := M2 hW hbx Ba Bb hw;clear hW hbx;refine (cl' _ (Bm.ee hw) (Hm.ee hw)).mono ?_;rintro e w4 ⟨rfl, hb⟩;obtain ⟨Ba, Bb, Bx, hw, -⟩ := X3 Ba Bb Bx hw hb;clear hb;have Fa := Ba.f;have Fb := Bb.f;have Fx := Bx.f;go_wp2_with fail;clear Fa Fb Fx;refine zA2 fun W5 hW => ?_;obtain ⟨bky, hby⟩ : ∃ b, w4.heap.size = b := ⟨_, rfl⟩;rw [hby];obtain ⟨lay, lby, lxy, fy, By, Ba, Bb, Bx, hw⟩ := M3 hW hby Ba Bb Bx hw;clear hW hby;have d1 : ∀ d os, Calls Tryz.prog 69 #[.pointer (some ⟨db, 0, none⟩), .agg #[.int .i64 p.x, .int .i64 p.y], .agg #[.int .i64 q.x, .int .i64 q.y]] (grow (redrawn W5 d) os) fun e w' => e = .returned (.int .i64 k) ∧ Below (grow (redrawn W5 d) os).heap.size (grow (redrawn W5 d) os) w' := fun d os => ck _ ((Dw.ee hw).ext (below_regrown W5 d os) rfl);clear cl cl' ck Bm Hm Dw;have g_abxy := J4 Ba.cells Bb.cells Bx.cells By.cells;refine wrt 25 (by kernel_rfl) (by kernel_rfl) ?_;simp only [tK1, tK0, dP1, dP0];repeat (first | (refine zA0 (Eq.refl false) ?_; simp only [Act.put, sT2, sT1, sT0]) | (refine rWalk_step (fun K hK => ?_); go_simp; first | (refine hK _ ?_; clear hK K) | (apply Exists.intro; refine ⟨fun _ => ?_, hK _ ?_⟩; (first | with_reducible exact toExt cf _ | with_reducible exact toExt cc _ | with_reducible exact toExtD d1 _ _); clear hK K)))
 refine rWalk_nil ?_;intro w6 hb;clear g_abxy;obtain ⟨Ba, Bb, Bx, By, hw, -⟩ := X4 Ba Bb Bx By hw hb;have Fa := Ba.f;have Fb := Bb.f;have Fx := Bx.f;have Fy := By.f;go_wp2
 go_ret
 exact ⟨rfl, hw⟩
theorem rbad_c (mb b db : Nat) (a0 : Option Addr) (c n : Nat) (E : Es) (D : List Wl) (p q : Pt) (hk : okW (p, q)) (X Y : Tri3) (h1 : lftE E p q = (X, true)) (h2 : lftE E q p = (Y, true)) (h3 : decide (kindD D p q = 0) = false) (w : World) (Bm : Box w mb [.map (some b)] 54) (Hm : HoldsMap eW eT okW w b E) (Dw : DocRd w db a0 c n D) :
    Calls Tryz.prog 76 #[.pointer (some ⟨mb, 0, none⟩), .pointer (some ⟨db, 0, none⟩), .agg #[.int .i64 p.x, .int .i64 p.y], .agg #[.int .i64 q.x, .int .i64 q.y]] w fun e w' => e = .returned (.bool false) ∧ Below w.heap.size w w' := by
 have cl := zAe mb b E p q hk;have cl' := zAe mb b E q p ⟨hk.2, hk.1⟩;have ck := zEv db a0 c n D p q;have cf := zC3 Y p q;have cc := fun z => zD3 X.A X.B X.C z;rw [h1] at cl;rw [h2] at cl';clear h1 h2 hk;generalize kindD D p q = k at *
 generalize apx Y p q = z at *
 replace cc := cc z;generalize circ X.A X.B X.C z = ci at *
 have h3 : (k == 0) = false := by simpa using h3
 go_enter Tryz.func76, Tryz.ntmps76
 go_wp2_with fail;refine zA1 fun W1 hW => ?_;obtain ⟨Ba, Bb, hw⟩ := N2 hW;clear hW;refine (cl _ (Bm.ee hw) (Hm.ee hw)).mono ?_;rintro e w2 ⟨rfl, hb⟩;obtain ⟨Ba, Bb, hw, -⟩ := X2 Ba Bb hw hb;clear hb;have Fa := Ba.f;have Fb := Bb.f;go_wp2_with fail;clear Fa Fb;refine zA1 fun W3 hW => ?_;obtain ⟨bkx, hbx⟩ : ∃ b, w2.heap.size = b := ⟨_, rfl⟩;rw [hbx];obtain ⟨lax, lbx, fx, Bx, Ba, Bb, hw⟩ := M2 hW hbx Ba Bb hw;clear hW hbx;refine (cl' _ (Bm.ee hw) (Hm.ee hw)).mono ?_;rintro e w4 ⟨rfl, hb⟩;obtain ⟨Ba, Bb, Bx, hw, -⟩ := X3 Ba Bb Bx hw hb;clear hb;have Fa := Ba.f;have Fb := Bb.f;have Fx := Bx.f;go_wp2_with fail;clear Fa Fb Fx;refine zA2 fun W5 hW => ?_;obtain ⟨bky, hby⟩ : ∃ b, w4.heap.size = b := ⟨_, rfl⟩;rw [hby];obtain ⟨lay, lby, lxy, fy, By, Ba, Bb, Bx, hw⟩ := M3 hW hby Ba Bb Bx hw;clear hW hby;have d1 : ∀ d os, Calls Tryz.prog 69 #[.pointer (some ⟨db, 0, none⟩), .agg #[.int .i64 p.x, .int .i64 p.y], .agg #[.int .i64 q.x, .int .i64 q.y]] (grow (redrawn W5 d) os) fun e w' => e = .returned (.int .i64 k) ∧ Below (grow (redrawn W5 d) os).heap.size (grow (redrawn W5 d) os) w' := fun d os => ck _ ((Dw.ee hw).ext (below_regrown W5 d os) rfl);clear cl cl' ck Bm Hm Dw;have g_abxy := J4 Ba.cells Bb.cells Bx.cells By.cells;refine wrt 25 (by kernel_rfl) (by kernel_rfl) ?_;simp only [tK1, tK0, dP1, dP0];repeat (first | (refine zA0 (Eq.refl false) ?_; simp only [Act.put, sT2, sT1, sT0]) | (refine rWalk_step (fun K hK => ?_); go_simp; first | (refine hK _ ?_; clear hK K) | (apply Exists.intro; refine ⟨fun _ => ?_, hK _ ?_⟩; (first | with_reducible exact toExt cf _ | with_reducible exact toExt cc _ | with_reducible exact toExtD d1 _ _); clear hK K)))
 refine rWalk_nil ?_;intro w6 hb;clear g_abxy;obtain ⟨Ba, Bb, Bx, By, hw, -⟩ := X4 Ba Bb Bx By hw hb;have Fa := Ba.f;have Fb := Bb.f;have Fx := Bx.f;have Fy := By.f;go_wp2
 go_ret
 exact ⟨rfl, hw⟩
theorem rbad_d (mb b db : Nat) (a0 : Option Addr) (c n : Nat) (E : Es) (D : List Wl) (p q : Pt) (hk : okW (p, q)) (X Y : Tri3) (h1 : lftE E p q = (X, true)) (h2 : lftE E q p = (Y, true)) (h3 : kindD D p q = 0) (w : World) (Bm : Box w mb [.map (some b)] 54) (Hm : HoldsMap eW eT okW w b E) (Dw : DocRd w db a0 c n D) :
    Calls Tryz.prog 76 #[.pointer (some ⟨mb, 0, none⟩), .pointer (some ⟨db, 0, none⟩), .agg #[.int .i64 p.x, .int .i64 p.y], .agg #[.int .i64 q.x, .int .i64 q.y]] w fun e w' => e = .returned (.bool (circ X.A X.B X.C (apx Y p q) == 1)) ∧ Below w.heap.size w w' := by
 have cl := zAe mb b E p q hk;have cl' := zAe mb b E q p ⟨hk.2, hk.1⟩;have ck := zEv db a0 c n D p q;have cf := zC3 Y p q;have cc := fun z => zD3 X.A X.B X.C z;rw [h1] at cl;rw [h2] at cl';clear h1 h2 hk;generalize kindD D p q = k at *
 generalize apx Y p q = z at *
 replace cc := cc z;generalize circ X.A X.B X.C z = ci at *
 subst h3
 go_enter Tryz.func76, Tryz.ntmps76
 go_wp2_with fail;refine zA1 fun W1 hW => ?_;obtain ⟨Ba, Bb, hw⟩ := N2 hW;clear hW;refine (cl _ (Bm.ee hw) (Hm.ee hw)).mono ?_;rintro e w2 ⟨rfl, hb⟩;obtain ⟨Ba, Bb, hw, -⟩ := X2 Ba Bb hw hb;clear hb;have Fa := Ba.f;have Fb := Bb.f;go_wp2_with fail;clear Fa Fb;refine zA1 fun W3 hW => ?_;obtain ⟨bkx, hbx⟩ : ∃ b, w2.heap.size = b := ⟨_, rfl⟩;rw [hbx];obtain ⟨lax, lbx, fx, Bx, Ba, Bb, hw⟩ := M2 hW hbx Ba Bb hw;clear hW hbx;refine (cl' _ (Bm.ee hw) (Hm.ee hw)).mono ?_;rintro e w4 ⟨rfl, hb⟩;obtain ⟨Ba, Bb, Bx, hw, -⟩ := X3 Ba Bb Bx hw hb;clear hb;have Fa := Ba.f;have Fb := Bb.f;have Fx := Bx.f;go_wp2_with fail;clear Fa Fb Fx;refine zA2 fun W5 hW => ?_;obtain ⟨bky, hby⟩ : ∃ b, w4.heap.size = b := ⟨_, rfl⟩;rw [hby];obtain ⟨lay, lby, lxy, fy, By, Ba, Bb, Bx, hw⟩ := M3 hW hby Ba Bb Bx hw;clear hW hby;have d1 : ∀ d os, Calls Tryz.prog 69 #[.pointer (some ⟨db, 0, none⟩), .agg #[.int .i64 p.x, .int .i64 p.y], .agg #[.int .i64 q.x, .int .i64 q.y]] (grow (redrawn W5 d) os) fun e w' => e = .returned (.int .i64 0) ∧ Below (grow (redrawn W5 d) os).heap.size (grow (redrawn W5 d) os) w' := fun d os => ck _ ((Dw.ee hw).ext (below_regrown W5 d os) rfl);clear cl cl' ck Bm Hm Dw;have g_abxy := J4 Ba.cells Bb.cells Bx.cells By.cells;refine wrt 25 (by kernel_rfl) (by kernel_rfl) ?_;simp only [tK1, tK0, dP1, dP0];repeat (first | (refine zA0 (Eq.refl false) ?_; simp only [Act.put, sT2, sT1, sT0]) | (refine rWalk_step (fun K hK => ?_); go_simp; first | (refine hK _ ?_; clear hK K) | (apply Exists.intro; refine ⟨fun _ => ?_, hK _ ?_⟩; (first | with_reducible exact toExt cf _ | with_reducible exact toExt cc _ | with_reducible exact toExtD d1 _ _); clear hK K)))
 refine rWalk_nil ?_;intro w6 hb;clear g_abxy;obtain ⟨Ba, Bb, Bx, By, hw, -⟩ := X4 Ba Bb Bx By hw hb;have Fa := Ba.f;have Fb := Bb.f;have Fx := Bx.f;have Fy := By.f;go_wp2
 go_ret
 exact ⟨rfl, hw⟩
theorem zJh (mb b db : Nat) (a0 : Option Addr) (c n : Nat) (E : Es) (D : List Wl) (p q : Pt) (hk : okW (p, q)) (w : World) (Bm : Box w mb [.map (some b)] 54) (Hm : HoldsMap eW eT okW w b E) (Dw : DocRd w db a0 c n D) :
    Calls Tryz.prog 76 #[.pointer (some ⟨mb, 0, none⟩), .pointer (some ⟨db, 0, none⟩), .agg #[.int .i64 p.x, .int .i64 p.y], .agg #[.int .i64 q.x, .int .i64 q.y]] w fun e w' => e = .returned (.bool (badD E D p q)) ∧ Below w.heap.size w w' := by
 unfold badD;cases h1 : lftE E p q with
 | mk X v1 =>
  cases h2 : lftE E q p with
  | mk Y v2 =>
   cases v1 with
   | false => exact rbad_a mb b db a0 c n E D p q hk X Y h1 v2 h2 w Bm Hm Dw
   | true =>
    cases v2 with
    | false => exact rbad_b mb b db a0 c n E D p q hk X Y h1 h2 w Bm Hm Dw
    | true =>
     by_cases h3 : kindD D p q = 0
     ·have k := rbad_d mb b db a0 c n E D p q hk X Y h1 h2 h3 w Bm Hm Dw;have e : (circ X.A X.B X.C (apx Y p q) == 1) = decide (circ X.A X.B X.C (apx Y p q) = 1) := rfl;rw [e] at k
      simpa [h3] using k
     ·simpa [h3] using rbad_c mb b db a0 c n E D p q hk X Y h1 h2 (by simpa using h3) w Bm Hm Dw
attribute [local go_sem] rmap_nil
theorem rput_0 (mb b : Nat) (E : Es) (T : Tri3) (S : Tri3) (hg0 : getE E (T.A, T.B) = some S) (hk : okT T) (w : World) (Bm : Box w mb [.map (some b)] 54) (Hm : HoldsMap eW eT okW w b E) :
    Calls Tryz.prog 61 #[.pointer (some ⟨mb, 0, none⟩), .agg #[.int .i64 T.A.x, .int .i64 T.A.y, .int .i64 T.B.x, .int .i64 T.B.y, .int .i64 T.C.x, .int .i64 T.C.y]] w fun e w' => e = .returned (.bool false) ∧ Below w.heap.size w w' := by
 have ce := zCs T
 go_enter Tryz.func61, Tryz.ntmps61
 go_wp2_with fail;refine zA1 fun W1 hW => ?_;obtain ⟨Bt, hw⟩ := N1 hW;clear hW;refine (ce _).mono ?_;rintro e w2 ⟨rfl, hb⟩;obtain ⟨Bt, hw, Ft⟩ := X1 Bt hw hb;clear hb;go_wp2_with fail;refine zA2 fun W3 hW => ?_;obtain ⟨bke, hbe⟩ : ∃ b, w2.heap.size = b := ⟨_, rfl⟩;rw [hbe];obtain ⟨lte, fe, Be, Bt, hw⟩ := M1 hW hbe Bt hw;clear hW hbe;have BM : Box W3 (mb) [.map (some b)] 54 := Bm.ee hw;refine wp_loop_rounds 5 ?_;try rw [rounds_succ]
 have Ft := Bt.f;have Fe := Be.f;have FM := BM.f;go_wp2_with fail;refine zA2 fun W4 hW => ?_;subst hW;clear Ft Fe FM;have hl : ∀ d os, (Instr.lookup 52 (.map (some b)) (.agg #[.int .i64 T.A.x, .int .i64 T.A.y, .int .i64 T.B.x, .int .i64 T.B.y]) true).run Tryz.prog (grow (redrawn W4 d) os) = .ok (.tuple #[.agg #[.int .i64 S.A.x, .int .i64 S.A.y, .int .i64 S.B.x, .int .i64 S.B.y, .int .i64 S.C.x, .int .i64 S.C.y], .bool true]) (grow (redrawn W4 d) os) := fun d os => ((Hm.ee hw).ext (below_regrown W4 d os) rfl).look_some kvR zAp (okT_w hk).1 hg0;clear hg0;have g_teM := J3 Bt.cells Be.cells BM.cells;refine zA3 11 7 25 [.int .i64 S.A.x, .int .i64 S.A.y, .int .i64 S.B.x, .int .i64 S.B.y, .int .i64 S.C.x, .int .i64 S.C.y] (zs := [.int .i64 0, .int .i64 0, .int .i64 0, .int .i64 0, .int .i64 0, .int .i64 0]) (eff := eff6 (.int .i64 S.A.x) (.int .i64 S.A.y) (.int .i64 S.B.x) (.int .i64 S.B.y) (.int .i64 S.C.x) (.int .i64 S.C.y)) zAc rfl rfl rfl rfl rfl rfl rfl (by simp) (fun ρ W => by simp [execOp, go_sem]; rfl) (by kernel_rfl) (by as_aux_lemma => kernel_rfl) (C := fun w' => ∃ p : Regrown, w' = grow (redrawn W4 p.d) p.os) rgB ?_ (fun ρ W b e1 e2 hB => by obtain ⟨x, y, _, _⟩ := hB.f; simp [execOp, go_sem, e1, e2, x, y, eff6]);simp only [tK1, tK0, dP1, dP0];repeat (first | (refine zA0 (Eq.refl false) ?_; simp only [Act.put, sT2, sT1, sT0]) | (refine rWalk_step (fun K hK => ?_); go_simp; refine hK _ ?_; clear hK K))
 refine rWalk_nil ⟨rfl, ?_⟩;intro w5 bks0 hb h1b h2b Bs0;have lts0 := Bt.lt;have les0 := Be.lt;have lMs0 := BM.lt;have hw0z := hw.size;clear g_teM;obtain ⟨Bt, Be, BM, hw, -⟩ := X3 Bt Be BM hw hb;have fs0 := h1b;have hwz : w.heap.size ≤ W4.heap.size := hw0z;clear hb h1b h2b hw0z;simp only [Act.put];clear hl;have Ft := Bt.f;have Fe := Be.f;have FM := BM.f;have Fs0 := Bs0.f;go_wp2
 go_ret
 exact ⟨rfl, hw⟩
theorem rput_1 (mb b : Nat) (E : Es) (T : Tri3) (S : Tri3) (hg0 : getE E (T.A, T.B) = none) (hg1 : getE E (T.B, T.C) = some S) (hk : okT T) (w : World) (Bm : Box w mb [.map (some b)] 54) (Hm : HoldsMap eW eT okW w b E) :
    Calls Tryz.prog 61 #[.pointer (some ⟨mb, 0, none⟩), .agg #[.int .i64 T.A.x, .int .i64 T.A.y, .int .i64 T.B.x, .int .i64 T.B.y, .int .i64 T.C.x, .int .i64 T.C.y]] w fun e w' => e = .returned (.bool false) ∧ Below w.heap.size w w' := by
 have ce := zCs T
 go_enter Tryz.func61, Tryz.ntmps61
 go_wp2_with fail;refine zA1 fun W1 hW => ?_;obtain ⟨Bt, hw⟩ := N1 hW;clear hW;refine (ce _).mono ?_;rintro e w2 ⟨rfl, hb⟩;obtain ⟨Bt, hw, Ft⟩ := X1 Bt hw hb;clear hb;go_wp2_with fail;refine zA2 fun W3 hW => ?_;obtain ⟨bke, hbe⟩ : ∃ b, w2.heap.size = b := ⟨_, rfl⟩;rw [hbe];obtain ⟨lte, fe, Be, Bt, hw⟩ := M1 hW hbe Bt hw;clear hW hbe;have BM : Box W3 (mb) [.map (some b)] 54 := Bm.ee hw;refine wp_loop_rounds 5 ?_;try rw [rounds_succ]
 have Ft := Bt.f;have Fe := Be.f;have FM := BM.f;go_wp2_with fail;refine zA2 fun W4 hW => ?_;subst hW;clear Ft Fe FM;have hl : ∀ d os, (Instr.lookup 52 (.map (some b)) (.agg #[.int .i64 T.A.x, .int .i64 T.A.y, .int .i64 T.B.x, .int .i64 T.B.y]) true).run Tryz.prog (grow (redrawn W4 d) os) = .ok (.tuple #[.agg #[.int .i64 0, .int .i64 0, .int .i64 0, .int .i64 0, .int .i64 0, .int .i64 0], .bool false]) (grow (redrawn W4 d) os) := fun d os => ((Hm.ee hw).ext (below_regrown W4 d os) rfl).look_none kvR zAp (okT_w hk).1 hg0;clear hg0;have g_teM := J3 Bt.cells Be.cells BM.cells;refine zA3 11 7 25 [.int .i64 0, .int .i64 0, .int .i64 0, .int .i64 0, .int .i64 0, .int .i64 0] (zs := [.int .i64 0, .int .i64 0, .int .i64 0, .int .i64 0, .int .i64 0, .int .i64 0]) (eff := eff6 (.int .i64 0) (.int .i64 0) (.int .i64 0) (.int .i64 0) (.int .i64 0) (.int .i64 0)) zAc rfl rfl rfl rfl rfl rfl rfl (by simp) (fun ρ W => by simp [execOp, go_sem]; rfl) (by kernel_rfl) (by as_aux_lemma => kernel_rfl) (C := fun w' => ∃ p : Regrown, w' = grow (redrawn W4 p.d) p.os) rgB ?_ (fun ρ W b e1 e2 hB => by obtain ⟨x, y, _, _⟩ := hB.f; simp [execOp, go_sem, e1, e2, x, y, eff6]);simp only [tK1, tK0, dP1, dP0];repeat (first | (refine zA0 (Eq.refl false) ?_; simp only [Act.put, sT2, sT1, sT0]) | (refine rWalk_step (fun K hK => ?_); go_simp; refine hK _ ?_; clear hK K))
 refine rWalk_nil ⟨rfl, ?_⟩;intro w5 bks0 hb h1b h2b Bs0;have lts0 := Bt.lt;have les0 := Be.lt;have lMs0 := BM.lt;have hw0z := hw.size;clear g_teM;obtain ⟨Bt, Be, BM, hw, -⟩ := X3 Bt Be BM hw hb;have fs0 := h1b;have hwz : w.heap.size ≤ W4.heap.size := hw0z;clear hb h1b h2b hw0z;simp only [Act.put];clear hl;have Ft := Bt.f;have Fe := Be.f;have FM := BM.f;have Fs0 := Bs0.f;go_wp2_with fail;clear Ft Fe FM Fs0;clear Bs0;try rw [rounds_succ]
 have Ft := Bt.f;have Fe := Be.f;have FM := BM.f;go_wp2_with fail;refine zA2 fun W6 hW => ?_;subst hW;clear Ft Fe FM;have hl : ∀ d os, (Instr.lookup 52 (.map (some b)) (.agg #[.int .i64 T.B.x, .int .i64 T.B.y, .int .i64 T.C.x, .int .i64 T.C.y]) true).run Tryz.prog (grow (redrawn W6 d) os) = .ok (.tuple #[.agg #[.int .i64 S.A.x, .int .i64 S.A.y, .int .i64 S.B.x, .int .i64 S.B.y, .int .i64 S.C.x, .int .i64 S.C.y], .bool true]) (grow (redrawn W6 d) os) := fun d os => ((Hm.ee hw).ext (below_regrown W6 d os) rfl).look_some kvR zAp (okT_w hk).2.1 hg1;clear hg1;have g_teM := J3 Bt.cells Be.cells BM.cells;refine zA3 11 7 25 [.int .i64 S.A.x, .int .i64 S.A.y, .int .i64 S.B.x, .int .i64 S.B.y, .int .i64 S.C.x, .int .i64 S.C.y] (zs := [.int .i64 0, .int .i64 0, .int .i64 0, .int .i64 0, .int .i64 0, .int .i64 0]) (eff := eff6 (.int .i64 S.A.x) (.int .i64 S.A.y) (.int .i64 S.B.x) (.int .i64 S.B.y) (.int .i64 S.C.x) (.int .i64 S.C.y)) zAc rfl rfl rfl rfl rfl rfl rfl (by simp) (fun ρ W => by simp [execOp, go_sem]; rfl) (by kernel_rfl) (by as_aux_lemma => kernel_rfl) (C := fun w' => ∃ p : Regrown, w' = grow (redrawn W6 p.d) p.os) rgB ?_ (fun ρ W b e1 e2 hB => by obtain ⟨x, y, _, _⟩ := hB.f; simp [execOp, go_sem, e1, e2, x, y, eff6]);simp only [tK1, tK0, dP1, dP0];repeat (first | (refine zA0 (Eq.refl false) ?_; simp only [Act.put, sT2, sT1, sT0]) | (refine rWalk_step (fun K hK => ?_); go_simp; refine hK _ ?_; clear hK K))
 refine rWalk_nil ⟨rfl, ?_⟩;intro w7 bks1 hb h1b h2b Bs1;have lts1 := Bt.lt;have les1 := Be.lt;have lMs1 := BM.lt;have hw0z := hw.size;clear g_teM;obtain ⟨Bt, Be, BM, hw, -⟩ := X3 Bt Be BM hw hb;have fs1 := h1b;have hwz : w.heap.size ≤ W6.heap.size := hw0z;clear hb h1b h2b hw0z;simp only [Act.put];clear hl;have Ft := Bt.f;have Fe := Be.f;have FM := BM.f;have Fs1 := Bs1.f;go_wp2
 go_ret
 exact ⟨rfl, hw⟩
theorem rput_2 (mb b : Nat) (E : Es) (T : Tri3) (S : Tri3) (hg0 : getE E (T.A, T.B) = none) (hg1 : getE E (T.B, T.C) = none) (hg2 : getE E (T.C, T.A) = some S) (hk : okT T) (w : World) (Bm : Box w mb [.map (some b)] 54) (Hm : HoldsMap eW eT okW w b E) :
    Calls Tryz.prog 61 #[.pointer (some ⟨mb, 0, none⟩), .agg #[.int .i64 T.A.x, .int .i64 T.A.y, .int .i64 T.B.x, .int .i64 T.B.y, .int .i64 T.C.x, .int .i64 T.C.y]] w fun e w' => e = .returned (.bool false) ∧ Below w.heap.size w w' := by
 have ce := zCs T
 go_enter Tryz.func61, Tryz.ntmps61
 go_wp2_with fail;refine zA1 fun W1 hW => ?_;obtain ⟨Bt, hw⟩ := N1 hW;clear hW;refine (ce _).mono ?_;rintro e w2 ⟨rfl, hb⟩;obtain ⟨Bt, hw, Ft⟩ := X1 Bt hw hb;clear hb;go_wp2_with fail;refine zA2 fun W3 hW => ?_;obtain ⟨bke, hbe⟩ : ∃ b, w2.heap.size = b := ⟨_, rfl⟩;rw [hbe];obtain ⟨lte, fe, Be, Bt, hw⟩ := M1 hW hbe Bt hw;clear hW hbe;have BM : Box W3 (mb) [.map (some b)] 54 := Bm.ee hw;refine wp_loop_rounds 5 ?_;try rw [rounds_succ]
 have Ft := Bt.f;have Fe := Be.f;have FM := BM.f;go_wp2_with fail;refine zA2 fun W4 hW => ?_;subst hW;clear Ft Fe FM;have hl : ∀ d os, (Instr.lookup 52 (.map (some b)) (.agg #[.int .i64 T.A.x, .int .i64 T.A.y, .int .i64 T.B.x, .int .i64 T.B.y]) true).run Tryz.prog (grow (redrawn W4 d) os) = .ok (.tuple #[.agg #[.int .i64 0, .int .i64 0, .int .i64 0, .int .i64 0, .int .i64 0, .int .i64 0], .bool false]) (grow (redrawn W4 d) os) := fun d os => ((Hm.ee hw).ext (below_regrown W4 d os) rfl).look_none kvR zAp (okT_w hk).1 hg0;clear hg0;have g_teM := J3 Bt.cells Be.cells BM.cells;refine zA3 11 7 25 [.int .i64 0, .int .i64 0, .int .i64 0, .int .i64 0, .int .i64 0, .int .i64 0] (zs := [.int .i64 0, .int .i64 0, .int .i64 0, .int .i64 0, .int .i64 0, .int .i64 0]) (eff := eff6 (.int .i64 0) (.int .i64 0) (.int .i64 0) (.int .i64 0) (.int .i64 0) (.int .i64 0)) zAc rfl rfl rfl rfl rfl rfl rfl (by simp) (fun ρ W => by simp [execOp, go_sem]; rfl) (by kernel_rfl) (by as_aux_lemma => kernel_rfl) (C := fun w' => ∃ p : Regrown, w' = grow (redrawn W4 p.d) p.os) rgB ?_ (fun ρ W b e1 e2 hB => by obtain ⟨x, y, _, _⟩ := hB.f; simp [execOp, go_sem, e1, e2, x, y, eff6]);simp only [tK1, tK0, dP1, dP0];repeat (first | (refine zA0 (Eq.refl false) ?_; simp only [Act.put, sT2, sT1, sT0]) | (refine rWalk_step (fun K hK => ?_); go_simp; refine hK _ ?_; clear hK K))
 refine rWalk_nil ⟨rfl, ?_⟩;intro w5 bks0 hb h1b h2b Bs0;have lts0 := Bt.lt;have les0 := Be.lt;have lMs0 := BM.lt;have hw0z := hw.size;clear g_teM;obtain ⟨Bt, Be, BM, hw, -⟩ := X3 Bt Be BM hw hb;have fs0 := h1b;have hwz : w.heap.size ≤ W4.heap.size := hw0z;clear hb h1b h2b hw0z;simp only [Act.put];clear hl;have Ft := Bt.f;have Fe := Be.f;have FM := BM.f;have Fs0 := Bs0.f;go_wp2_with fail;clear Ft Fe FM Fs0;clear Bs0;try rw [rounds_succ]
 have Ft := Bt.f;have Fe := Be.f;have FM := BM.f;go_wp2_with fail;refine zA2 fun W6 hW => ?_;subst hW;clear Ft Fe FM;have hl : ∀ d os, (Instr.lookup 52 (.map (some b)) (.agg #[.int .i64 T.B.x, .int .i64 T.B.y, .int .i64 T.C.x, .int .i64 T.C.y]) true).run Tryz.prog (grow (redrawn W6 d) os) = .ok (.tuple #[.agg #[.int .i64 0, .int .i64 0, .int .i64 0, .int .i64 0, .int .i64 0, .int .i64 0], .bool false]) (grow (redrawn W6 d) os) := fun d os => ((Hm.ee hw).ext (below_regrown W6 d os) rfl).look_none kvR zAp (okT_w hk).2.1 hg1;clear hg1;have g_teM := J3 Bt.cells Be.cells BM.cells;refine zA3 11 7 25 [.int .i64 0, .int .i64 0, .int .i64 0, .int .i64 0, .int .i64 0, .int .i64 0] (zs := [.int .i64 0, .int .i64 0, .int .i64 0, .int .i64 0, .int .i64 0, .int .i64 0]) (eff := eff6 (.int .i64 0) (.int .i64 0) (.int .i64 0) (.int .i64 0) (.int .i64 0) (.int .i64 0)) zAc rfl rfl rfl rfl rfl rfl rfl (by simp) (fun ρ W => by simp [execOp, go_sem]; rfl) (by kernel_rfl) (by as_aux_lemma => kernel_rfl) (C := fun w' => ∃ p : Regrown, w' = grow (redrawn W6 p.d) p.os) rgB ?_ (fun ρ W b e1 e2 hB => by obtain ⟨x, y, _, _⟩ := hB.f; simp [execOp, go_sem, e1, e2, x, y, eff6]);simp only [tK1, tK0, dP1, dP0];repeat (first | (refine zA0 (Eq.refl false) ?_; simp only [Act.put, sT2, sT1, sT0]) | (refine rWalk_step (fun K hK => ?_); go_simp; refine hK _ ?_; clear hK K))
 refine rWalk_nil ⟨rfl, ?_⟩;intro w7 bks1 hb h1b h2b Bs1;have lts1 := Bt.lt;have les1 := Be.lt;have lMs1 := BM.lt;have hw0z := hw.size;clear g_teM;obtain ⟨Bt, Be, BM, hw, -⟩ := X3 Bt Be BM hw hb;have fs1 := h1b;have hwz : w.heap.size ≤ W6.heap.size := hw0z;clear hb h1b h2b hw0z;simp only [Act.put];clear hl;have Ft := Bt.f;have Fe := Be.f;have FM := BM.f;have Fs1 := Bs1.f;go_wp2_with fail;clear Ft Fe FM Fs1;clear Bs1;try rw [rounds_succ]
 have Ft := Bt.f;have Fe := Be.f;have FM := BM.f;go_wp2_with fail;refine zA2 fun W8 hW => ?_;subst hW;clear Ft Fe FM;have hl : ∀ d os, (Instr.lookup 52 (.map (some b)) (.agg #[.int .i64 T.C.x, .int .i64 T.C.y, .int .i64 T.A.x, .int .i64 T.A.y]) true).run Tryz.prog (grow (redrawn W8 d) os) = .ok (.tuple #[.agg #[.int .i64 S.A.x, .int .i64 S.A.y, .int .i64 S.B.x, .int .i64 S.B.y, .int .i64 S.C.x, .int .i64 S.C.y], .bool true]) (grow (redrawn W8 d) os) := fun d os => ((Hm.ee hw).ext (below_regrown W8 d os) rfl).look_some kvR zAp (okT_w hk).2.2 hg2;clear hg2;have g_teM := J3 Bt.cells Be.cells BM.cells;refine zA3 11 7 25 [.int .i64 S.A.x, .int .i64 S.A.y, .int .i64 S.B.x, .int .i64 S.B.y, .int .i64 S.C.x, .int .i64 S.C.y] (zs := [.int .i64 0, .int .i64 0, .int .i64 0, .int .i64 0, .int .i64 0, .int .i64 0]) (eff := eff6 (.int .i64 S.A.x) (.int .i64 S.A.y) (.int .i64 S.B.x) (.int .i64 S.B.y) (.int .i64 S.C.x) (.int .i64 S.C.y)) zAc rfl rfl rfl rfl rfl rfl rfl (by simp) (fun ρ W => by simp [execOp, go_sem]; rfl) (by kernel_rfl) (by as_aux_lemma => kernel_rfl) (C := fun w' => ∃ p : Regrown, w' = grow (redrawn W8 p.d) p.os) rgB ?_ (fun ρ W b e1 e2 hB => by obtain ⟨x, y, _, _⟩ := hB.f; simp [execOp, go_sem, e1, e2, x, y, eff6]);simp only [tK1, tK0, dP1, dP0];repeat (first | (refine zA0 (Eq.refl false) ?_; simp only [Act.put, sT2, sT1, sT0]) | (refine rWalk_step (fun K hK => ?_); go_simp; refine hK _ ?_; clear hK K))
 refine rWalk_nil ⟨rfl, ?_⟩;intro w9 bks2 hb h1b h2b Bs2;have lts2 := Bt.lt;have les2 := Be.lt;have lMs2 := BM.lt;have hw0z := hw.size;clear g_teM;obtain ⟨Bt, Be, BM, hw, -⟩ := X3 Bt Be BM hw hb;have fs2 := h1b;have hwz : w.heap.size ≤ W8.heap.size := hw0z;clear hb h1b h2b hw0z;simp only [Act.put];clear hl;have Ft := Bt.f;have Fe := Be.f;have FM := BM.f;have Fs2 := Bs2.f;go_wp2
 go_ret
 exact ⟨rfl, hw⟩
theorem rput_3 (mb b : Nat) (E : Es) (T : Tri3) (hg0 : getE E (T.A, T.B) = none) (hg1 : getE E (T.B, T.C) = none) (hg2 : getE E (T.C, T.A) = none) (hk : okT T) (w : World) (Bm : Box w mb [.map (some b)] 54) (Hm : HoldsMap eW eT okW w b E) :
    Calls Tryz.prog 61 #[.pointer (some ⟨mb, 0, none⟩), .agg #[.int .i64 T.A.x, .int .i64 T.A.y, .int .i64 T.B.x, .int .i64 T.B.y, .int .i64 T.C.x, .int .i64 T.C.y]] w fun e w' => e = .returned (.bool true) ∧ w.grownBy w' (some b) ∧ HoldsMap eW eT okW w' b (putT E T) := by
 have ce := zCs T
 go_enter Tryz.func61, Tryz.ntmps61
 go_wp2_with fail;refine zA1 fun W1 hW => ?_;obtain ⟨Bt, hw⟩ := N1 hW;clear hW;refine (ce _).mono ?_;rintro e w2 ⟨rfl, hb⟩;obtain ⟨Bt, hw, Ft⟩ := X1 Bt hw hb;clear hb;go_wp2_with fail;refine zA2 fun W3 hW => ?_;obtain ⟨bke, hbe⟩ : ∃ b, w2.heap.size = b := ⟨_, rfl⟩;rw [hbe];obtain ⟨lte, fe, Be, Bt, hw⟩ := M1 hW hbe Bt hw;clear hW hbe;have BM : Box W3 (mb) [.map (some b)] 54 := Bm.ee hw;refine wp_loop_rounds 5 ?_;try rw [rounds_succ]
 have Ft := Bt.f;have Fe := Be.f;have FM := BM.f;go_wp2_with fail;refine zA2 fun W4 hW => ?_;subst hW;clear Ft Fe FM;have hl : ∀ d os, (Instr.lookup 52 (.map (some b)) (.agg #[.int .i64 T.A.x, .int .i64 T.A.y, .int .i64 T.B.x, .int .i64 T.B.y]) true).run Tryz.prog (grow (redrawn W4 d) os) = .ok (.tuple #[.agg #[.int .i64 0, .int .i64 0, .int .i64 0, .int .i64 0, .int .i64 0, .int .i64 0], .bool false]) (grow (redrawn W4 d) os) := fun d os => ((Hm.ee hw).ext (below_regrown W4 d os) rfl).look_none kvR zAp (okT_w hk).1 hg0;clear hg0;have g_teM := J3 Bt.cells Be.cells BM.cells;refine zA3 11 7 25 [.int .i64 0, .int .i64 0, .int .i64 0, .int .i64 0, .int .i64 0, .int .i64 0] (zs := [.int .i64 0, .int .i64 0, .int .i64 0, .int .i64 0, .int .i64 0, .int .i64 0]) (eff := eff6 (.int .i64 0) (.int .i64 0) (.int .i64 0) (.int .i64 0) (.int .i64 0) (.int .i64 0)) zAc rfl rfl rfl rfl rfl rfl rfl (by simp) (fun ρ W => by simp [execOp, go_sem]; rfl) (by kernel_rfl) (by as_aux_lemma => kernel_rfl) (C := fun w' => ∃ p : Regrown, w' = grow (redrawn W4 p.d) p.os) rgB ?_ (fun ρ W b e1 e2 hB => by obtain ⟨x, y, _, _⟩ := hB.f; simp [execOp, go_sem, e1, e2, x, y, eff6]);simp only [tK1, tK0, dP1, dP0];repeat (first | (refine zA0 (Eq.refl false) ?_; simp only [Act.put, sT2, sT1, sT0]) | (refine rWalk_step (fun K hK => ?_); go_simp; refine hK _ ?_; clear hK K))
 refine rWalk_nil ⟨rfl, ?_⟩;intro w5 bks0 hb h1b h2b Bs0;have lts0 := Bt.lt;have les0 := Be.lt;have lMs0 := BM.lt;have hw0z := hw.size;clear g_teM;obtain ⟨Bt, Be, BM, hw, -⟩ := X3 Bt Be BM hw hb;have fs0 := h1b;have hwz : w.heap.size ≤ W4.heap.size := hw0z;clear hb h1b h2b hw0z;simp only [Act.put];clear hl;have Ft := Bt.f;have Fe := Be.f;have FM := BM.f;have Fs0 := Bs0.f;go_wp2_with fail;clear Ft Fe FM Fs0;clear Bs0;try rw [rounds_succ]
 have Ft := Bt.f;have Fe := Be.f;have FM := BM.f;go_wp2_with fail;refine zA2 fun W6 hW => ?_;subst hW;clear Ft Fe FM;have hl : ∀ d os, (Instr.lookup 52 (.map (some b)) (.agg #[.int .i64 T.B.x, .int .i64 T.B.y, .int .i64 T.C.x, .int .i64 T.C.y]) true).run Tryz.prog (grow (redrawn W6 d) os) = .ok (.tuple #[.agg #[.int .i64 0, .int .i64 0, .int .i64 0, .int .i64 0, .int .i64 0, .int .i64 0], .bool false]) (grow (redrawn W6 d) os) := fun d os => ((Hm.ee hw).ext (below_regrown W6 d os) rfl).look_none kvR zAp (okT_w hk).2.1 hg1;clear hg1;have g_teM := J3 Bt.cells Be.cells BM.cells;refine zA3 11 7 25 [.int .i64 0, .int .i64 0, .int .i64 0, .int .i64 0, .int .i64 0, .int .i64 0] (zs := [.int .i64 0, .int .i64 0, .int .i64 0, .int .i64 0, .int .i64 0, .int .i64 0]) (eff := eff6 (.int .i64 0) (.int .i64 0) (.int .i64 0) (.int .i64 0) (.int .i64 0) (.int .i64 0)) zAc rfl rfl rfl rfl rfl rfl rfl (by simp) (fun ρ W => by simp [execOp, go_sem]; rfl) (by kernel_rfl) (by as_aux_lemma => kernel_rfl) (C := fun w' => ∃ p : Regrown, w' = grow (redrawn W6 p.d) p.os) rgB ?_ (fun ρ W b e1 e2 hB => by obtain ⟨x, y, _, _⟩ := hB.f; simp [execOp, go_sem, e1, e2, x, y, eff6]);simp only [tK1, tK0, dP1, dP0];repeat (first | (refine zA0 (Eq.refl false) ?_; simp only [Act.put, sT2, sT1, sT0]) | (refine rWalk_step (fun K hK => ?_); go_simp; refine hK _ ?_; clear hK K))
 refine rWalk_nil ⟨rfl, ?_⟩;intro w7 bks1 hb h1b h2b Bs1;have lts1 := Bt.lt;have les1 := Be.lt;have lMs1 := BM.lt;have hw0z := hw.size;clear g_teM;obtain ⟨Bt, Be, BM, hw, -⟩ := X3 Bt Be BM hw hb;have fs1 := h1b;have hwz : w.heap.size ≤ W6.heap.size := hw0z;clear hb h1b h2b hw0z;simp only [Act.put];clear hl;have Ft := Bt.f;have Fe := Be.f;have FM := BM.f;have Fs1 := Bs1.f;go_wp2_with fail;clear Ft Fe FM Fs1;clear Bs1;try rw [rounds_succ]
 have Ft := Bt.f;have Fe := Be.f;have FM := BM.f;go_wp2_with fail;refine zA2 fun W8 hW => ?_;subst hW;clear Ft Fe FM;have hl : ∀ d os, (Instr.lookup 52 (.map (some b)) (.agg #[.int .i64 T.C.x, .int .i64 T.C.y, .int .i64 T.A.x, .int .i64 T.A.y]) true).run Tryz.prog (grow (redrawn W8 d) os) = .ok (.tuple #[.agg #[.int .i64 0, .int .i64 0, .int .i64 0, .int .i64 0, .int .i64 0, .int .i64 0], .bool false]) (grow (redrawn W8 d) os) := fun d os => ((Hm.ee hw).ext (below_regrown W8 d os) rfl).look_none kvR zAp (okT_w hk).2.2 hg2;clear hg2;have g_teM := J3 Bt.cells Be.cells BM.cells;refine zA3 11 7 25 [.int .i64 0, .int .i64 0, .int .i64 0, .int .i64 0, .int .i64 0, .int .i64 0] (zs := [.int .i64 0, .int .i64 0, .int .i64 0, .int .i64 0, .int .i64 0, .int .i64 0]) (eff := eff6 (.int .i64 0) (.int .i64 0) (.int .i64 0) (.int .i64 0) (.int .i64 0) (.int .i64 0)) zAc rfl rfl rfl rfl rfl rfl rfl (by simp) (fun ρ W => by simp [execOp, go_sem]; rfl) (by kernel_rfl) (by as_aux_lemma => kernel_rfl) (C := fun w' => ∃ p : Regrown, w' = grow (redrawn W8 p.d) p.os) rgB ?_ (fun ρ W b e1 e2 hB => by obtain ⟨x, y, _, _⟩ := hB.f; simp [execOp, go_sem, e1, e2, x, y, eff6]);simp only [tK1, tK0, dP1, dP0];repeat (first | (refine zA0 (Eq.refl false) ?_; simp only [Act.put, sT2, sT1, sT0]) | (refine rWalk_step (fun K hK => ?_); go_simp; refine hK _ ?_; clear hK K))
 refine rWalk_nil ⟨rfl, ?_⟩;intro w9 bks2 hb h1b h2b Bs2;have lts2 := Bt.lt;have les2 := Be.lt;have lMs2 := BM.lt;have hw0z := hw.size;clear g_teM;obtain ⟨Bt, Be, BM, hw, -⟩ := X3 Bt Be BM hw hb;have fs2 := h1b;have hwz : w.heap.size ≤ W8.heap.size := hw0z;clear hb h1b h2b hw0z;simp only [Act.put];clear hl;have Ft := Bt.f;have Fe := Be.f;have FM := BM.f;have Fs2 := Bs2.f;go_wp2_with fail;clear Ft Fe FM Fs2;clear Bs2;try rw [rounds_succ]
 have Ft := Bt.f;have Fe := Be.f;have FM := BM.f;go_wp2_with fail;refine zA2 fun W10 hW => ?_;subst hW;clear Ft Fe FM;refine wp_loop_rounds 5 ?_;have HF := Hm.ee hw;have hg : w.grownBy W10 (some b) := zA7 hw _;clear hw;try rw [rounds_succ]
 have Ft := Bt.f;have Fe := Be.f;have FM := BM.f;go_wp2_with fail;have hw : Below W10.heap.size W10 W10 := Below.refl _ _;have g_teM := J3 Bt.cells Be.cells BM.cells;refine wrt 8 (by kernel_rfl) (by kernel_rfl) ?_;simp only [tK1, tK0, dP1, dP0];repeat (first | (refine zA0 (Eq.refl false) ?_; simp only [Act.put, sT2, sT1, sT0]) | (refine rWalk_step (fun K hK => ?_); go_simp; refine hK _ ?_; clear hK K))
 refine rWalk_nil ?_;intro w11 hb;clear g_teM;clear Ft Fe FM;obtain ⟨Bt, Be, BM, hw, -⟩ := X3 Bt Be BM hw hb;replace HF := HF.ee hw;replace hg := zAb hg hw;clear hw;refine zBd _ rfl _ _ _ rfl kvR rfl HF (T.A, T.B) T rfl rfl (okT_w hk).1 ?_;intro c0 HG hh hs;replace Bt := Bt.turn HF hh;replace Be := Be.turn HF hh;replace BM := BM.turn HF hh;replace hg := zA9 hg hh;clear HF hh hs;have HF := HG;clear HG;have Ft := Bt.f;have Fe := Be.f;have FM := BM.f;go_wp2_with fail;clear Ft Fe FM;try rw [rounds_succ]
 have Ft := Bt.f;have Fe := Be.f;have FM := BM.f;go_wp2_with fail;have hw : Below c0.heap.size c0 c0 := Below.refl _ _;have g_teM := J3 Bt.cells Be.cells BM.cells;refine wrt 8 (by kernel_rfl) (by kernel_rfl) ?_;simp only [tK1, tK0, dP1, dP0];repeat (first | (refine zA0 (Eq.refl false) ?_; simp only [Act.put, sT2, sT1, sT0]) | (refine rWalk_step (fun K hK => ?_); go_simp; refine hK _ ?_; clear hK K))
 refine rWalk_nil ?_;intro w12 hb;clear g_teM;clear Ft Fe FM;obtain ⟨Bt, Be, BM, hw, -⟩ := X3 Bt Be BM hw hb;replace HF := HF.ee hw;replace hg := zAb hg hw;clear hw;refine zBd _ rfl _ _ _ rfl kvR rfl HF (T.B, T.C) T rfl rfl (okT_w hk).2.1 ?_;intro c1 HG hh hs;replace Bt := Bt.turn HF hh;replace Be := Be.turn HF hh;replace BM := BM.turn HF hh;replace hg := zA9 hg hh;clear HF hh hs;have HF := HG;clear HG;have Ft := Bt.f;have Fe := Be.f;have FM := BM.f;go_wp2_with fail;clear Ft Fe FM;try rw [rounds_succ]
 have Ft := Bt.f;have Fe := Be.f;have FM := BM.f;go_wp2_with fail;have hw : Below c1.heap.size c1 c1 := Below.refl _ _;have g_teM := J3 Bt.cells Be.cells BM.cells;refine wrt 8 (by kernel_rfl) (by kernel_rfl) ?_;simp only [tK1, tK0, dP1, dP0];repeat (first | (refine zA0 (Eq.refl false) ?_; simp only [Act.put, sT2, sT1, sT0]) | (refine rWalk_step (fun K hK => ?_); go_simp; refine hK _ ?_; clear hK K))
 refine rWalk_nil ?_;intro w13 hb;clear g_teM;clear Ft Fe FM;obtain ⟨Bt, Be, BM, hw, -⟩ := X3 Bt Be BM hw hb;replace HF := HF.ee hw;replace hg := zAb hg hw;clear hw;refine zBd _ rfl _ _ _ rfl kvR rfl HF (T.C, T.A) T rfl rfl (okT_w hk).2.2 ?_;intro c2 HG hh hs;replace Bt := Bt.turn HF hh;replace Be := Be.turn HF hh;replace BM := BM.turn HF hh;replace hg := zA9 hg hh;clear HF hh hs;have HF := HG;clear HG;have Ft := Bt.f;have Fe := Be.f;have FM := BM.f;go_wp2_with fail;clear Ft Fe FM;try rw [rounds_succ]
 have Ft := Bt.f;have Fe := Be.f;have FM := BM.f;go_wp2
 go_ret
 exact ⟨rfl, hg, HF⟩
def freeE (E : Es) (T : Tri3) : Bool := (getE E (T.A, T.B)).isNone && ((getE E (T.B, T.C)).isNone && (getE E (T.C, T.A)).isNone)
theorem zDj (E : Es) (T : Tri3) : fitsE E T = (freeE E T && valT T) := by unfold fitsE freeE; simp only [Bool.and_assoc]
theorem zJd (mb b : Nat) (E : Es) (T : Tri3) (hf : freeE E T = false) (hk : okT T) (w : World) (Bm : Box w mb [.map (some b)] 54) (Hm : HoldsMap eW eT okW w b E) :
    Calls Tryz.prog 61 #[.pointer (some ⟨mb, 0, none⟩), .agg #[.int .i64 T.A.x, .int .i64 T.A.y, .int .i64 T.B.x, .int .i64 T.B.y, .int .i64 T.C.x, .int .i64 T.C.y]] w fun e w' => e = .returned (.bool false) ∧ Below w.heap.size w w' := by
 unfold freeE at hf;cases h0 : getE E (T.A, T.B) with
 | some S => exact rput_0 mb b E T S h0 hk w Bm Hm
 | none =>
  cases h1 : getE E (T.B, T.C) with
  | some S => exact rput_1 mb b E T S h0 h1 hk w Bm Hm
  | none =>
   cases h2 : getE E (T.C, T.A) with
   | some S => exact rput_2 mb b E T S h0 h1 h2 hk w Bm Hm
   | none => rw [h0, h1, h2] at hf; simp at hf
theorem zF8 (mb b : Nat) (E : Es) (T : Tri3) (hf : freeE E T = true) (hk : okT T) (w : World) (Bm : Box w mb [.map (some b)] 54) (Hm : HoldsMap eW eT okW w b E) :
    Calls Tryz.prog 61 #[.pointer (some ⟨mb, 0, none⟩), .agg #[.int .i64 T.A.x, .int .i64 T.A.y, .int .i64 T.B.x, .int .i64 T.B.y, .int .i64 T.C.x, .int .i64 T.C.y]] w fun e w' => e = .returned (.bool true) ∧ w.grownBy w' (some b) ∧ HoldsMap eW eT okW w' b (putT E T) := by
 unfold freeE at hf;simp only [Bool.and_eq_true, Option.isNone_iff_eq_none] at hf;exact rput_3 mb b E T hf.1 hf.2.1 hf.2.2 hk w Bm Hm
end Go.Proofs.YtjkfakaehjmnbaaGreat
namespace Go.Proofs.YtjkfakaehjmnbaaGreat
open Go.RowKit Go.Sort
attribute [local go_sem] rOper rAt rUpon cell_set sg_i64 sg_u64 alloc_cell alloc_frozen
attribute [local go_sem 10000] pt_eql pt_neq tri_eql
attribute [local irreducible] rWalk
attribute [local go_sem] rmap_nil run_makeMap
def Six (w : World) (A : Addr) (T : Tri3) : Prop := A.block < w.heap.size ∧ (w.cell? A = some (.int .i64 T.A.x) ∧ w.cell? ⟨A.block, A.off + 1, none⟩ = some (.int .i64 T.A.y) ∧ w.cell? ⟨A.block, A.off + 2, none⟩ = some (.int .i64 T.B.x) ∧
      w.cell? ⟨A.block, A.off + 3, none⟩ = some (.int .i64 T.B.y) ∧ w.cell? ⟨A.block, A.off + 4, none⟩ = some (.int .i64 T.C.x) ∧ w.cell? ⟨A.block, A.off + 5, none⟩ = some (.int .i64 T.C.y))
theorem RowAt.six {w : World} {a : Option Addr} {L : List Tri3} (h : RowAt cT 6 w a L) {j : Nat} (hj : j < L.length) : ∃ ad A, a = some ad ∧ ad.add (j * 6) = A ∧ Six w A L[j] := by
 obtain ⟨ad, A, h1, h2, _, h4, h5⟩ := h.tri hj;exact ⟨ad, A, h1, h2, h4, h5⟩
theorem Six.ext {w w' : World} {A : Addr} {T : Tri3} {n : Nat} (h : Six w A T) (hb : Below n w w') (hn : n = w.heap.size) : Six w' A T := by
 obtain ⟨h0, h1, h2, h3, h4, h5, h6⟩ := h;have e : ∀ p : Addr, p.block = A.block → w'.cell? p = w.cell? p := fun p hp => hb.cell (by rw [hp, hn]; exact h0);exact ⟨Nat.lt_of_lt_of_le h0 hb.size, (e A rfl).trans h1, (e ⟨A.block, A.off + 1, none⟩ rfl).trans h2, (e ⟨A.block, A.off + 2, none⟩ rfl).trans h3, (e ⟨A.block, A.off + 3, none⟩ rfl).trans h4, (e ⟨A.block, A.off + 4, none⟩ rfl).trans h5, (e ⟨A.block, A.off + 5, none⟩ rfl).trans h6⟩
theorem Six.ee {w w' : World} {A : Addr} {T : Tri3} (h : Six w A T) (hb : Below w.heap.size w w') : Six w' A T := h.ext hb rfl
theorem Six.f {w : World} {A : Addr} {T : Tri3} (h : Six w A T) : (A.block = w.heap.size) = False ∧ w.cell? A = some (.int .i64 T.A.x) ∧ w.cell? ⟨A.block, A.off + 1, none⟩ = some (.int .i64 T.A.y) ∧ w.cell? ⟨A.block, A.off + 2, none⟩ = some (.int .i64 T.B.x) ∧
      w.cell? ⟨A.block, A.off + 3, none⟩ = some (.int .i64 T.B.y) ∧ w.cell? ⟨A.block, A.off + 4, none⟩ = some (.int .i64 T.C.x) ∧ w.cell? ⟨A.block, A.off + 5, none⟩ = some (.int .i64 T.C.y) := ⟨by simp; have := h.1; omega, h.2⟩
def RNewPost (w : World) (n : Nat) (L : List Tri3) (e : Ending) (w' : World) : Prop :=
 (∃ mb b, e = .returned (.pointer (some ⟨mb, 0, none⟩)) ∧ Box w' mb [.map (some b)] 54 ∧ HoldsMap eW eT okW w' b (putRun [] L).2 ∧ w.heap.size ≤ b ∧ w.heap.size ≤ mb ∧ Below w.heap.size w w' ∧ (putRun [] L).1 = n) ∨
 (e = .returned (.pointer none) ∧ Below w.heap.size w w' ∧ (putRun [] L).1 < n)
theorem rnew_any (a : Option Addr) (cap n : Nat) (L : List Tri3) (hn : Hid (L.length = n)) (hn1 : n ≤ 1000000) (hok : ∀ T ∈ L, okT T) (w : World) (Hr : RowAt cT 6 w a L) :
    Calls Tryz.prog 48 #[.slice a n cap] w (RNewPost w n L) := by
 go_enter Tryz.func48, Tryz.ntmps48
 go_wp2_with fail;refine zA2 fun W1 hW => ?_;have BM : Box W1 (w.heap.size + 1) [.map (some w.heap.size)] 54 := by rw [hW]; exact Box.new (by simp)
 have HM : HoldsMap eW eT okW W1 w.heap.size ([] : Es) := by rw [hW]; exact (HoldsMap.made w).alloc _
 have hw : Below w.heap.size w W1 := by rw [hW]; go_grown
 clear hW
 go_loopw [4] (fun i wr => ∃ (k : Nat) (F : Es), k ≤ n ∧ i = .int .i64 k ∧ Hid (putRun [] L = (k + (putRun F (L.drop k)).1, (putRun F (L.drop k)).2)) ∧ Box wr (w.heap.size + 1) [.map (some w.heap.size)] 54 ∧ HoldsMap eW eT okW wr w.heap.size F ∧ Below w.heap.size w wr) (fun i _ => n - (intOf i).toNat)
 case atStart => exact ⟨0, [], Nat.zero_le _, rfl, Lib.hid (by simp), BM, HM, hw⟩
 case round =>
  clear BM HM hw;obtain ⟨k, F, hk, rfl, hR, BM, HF, hw⟩ := hrel;by_cases hlt : k < n
  ·have hlk : k < L.length := hn.out ▸ hlt;have hokk := hok L[k] (List.getElem_mem hlk);have hst := fun hf => zE8 hlk hR.out hf;have hsp := fun hf => zE7 hlk hR.out hf;obtain ⟨ad, A, ea, eA, hA⟩ := (Hr.ee hw).six hlk;generalize L[k] = T at *
   have cv := zCd T;cases hv : valT T with
   | false =>
    have HP := Lib.hid (hsp (by rw [zDj, hv, Bool.and_false]));rw [hv] at cv;clear hst hsp hv;obtain ⟨zA, q0, q1, q2, q3, q4, q5⟩ := hA.f;go_wp2_with fail;refine (cv _).mono ?_;rintro e w2 ⟨rfl, hb⟩;clear zA q0 q1 q2 q3 q4 q5;go_wp2
    go_ret
    exact .inr ⟨rfl, (upB hw hb), by rw [HP.out]; exact hlt⟩
   | true =>
    rw [hv] at cv;cases hf : freeE F T with
    | false =>
     have HP := Lib.hid (hsp (by rw [zDj, hf, Bool.false_and]));have cp := zJd (w.heap.size + 1) w.heap.size F T hf hokk;clear hst hsp hv hf;obtain ⟨zA, q0, q1, q2, q3, q4, q5⟩ := hA.f;go_wp2_with fail;refine (cv _).mono ?_;rintro e w2 ⟨rfl, hb⟩;clear zA q0 q1 q2 q3 q4 q5;obtain ⟨zA, q0, q1, q2, q3, q4, q5⟩ := (hA.ee hb).f;replace hw := upB hw hb;go_wp2_with fail;refine (cp _ (BM.ee hb) (HF.ee hb)).mono ?_;rintro e w3 ⟨rfl, hb2⟩;clear zA q0 q1 q2 q3 q4 q5;go_wp2
     go_ret
     exact .inr ⟨rfl, (upB hw hb2), by rw [HP.out]; exact hlt⟩
    | true =>
     have HP := Lib.hid (hst (by rw [zDj, hf, hv]; rfl));have cp := zF8 (w.heap.size + 1) w.heap.size F T hf hokk;clear hst hsp hv hf;obtain ⟨zA, q0, q1, q2, q3, q4, q5⟩ := hA.f;go_wp2_with fail;refine (cv _).mono ?_;rintro e w2 ⟨rfl, hb⟩;clear zA q0 q1 q2 q3 q4 q5;obtain ⟨zA, q0, q1, q2, q3, q4, q5⟩ := (hA.ee hb).f;replace hw := upB hw hb;replace BM := BM.ee hb;replace HF := HF.ee hb;go_wp2_with fail;refine (cp _ BM HF).mono ?_;rintro e w3 ⟨rfl, hg, HG⟩;clear zA q0 q1 q2 q3 q4 q5;replace BM := BM.turn HF hg;replace hw := zAi hw hg hw.size (Nat.le_refl _);clear HF hg hb hA;go_wp2;rw [← ea]
     go_roundw
     case rel => exact ⟨k + 1, putT F T, by omega, by go_num, HP, BM, HG, hw⟩
     case measure => simp [intOf]; omega
  ·have HP := Lib.hid (zFa (by rw [hn.out]; omega) hR.out);go_wp2
   go_ret
   exact .inl ⟨_, _, rfl, BM, by rw [HP.out]; exact HF, Nat.le_refl _, by omega, hw, by rw [HP.out]; omega⟩
end Go.Proofs.YtjkfakaehjmnbaaGreat
namespace Go.Proofs.YtjkfakaehjmnbaaGreat
open Go.RowKit Go.Sort Go.Lib Go.Shelf
theorem zFs (x : Tri3) : (cT x).length = 6 := rfl
theorem zCz (x : Pt) : (cP x).length = 2 := rfl
theorem zL4 (x : Tri3) : ∀ v ∈ cT x, v.oneCell' = true := by intro v hv; simp [cT] at hv; rcases hv with rfl | rfl | rfl | rfl | rfl | rfl <;> rfl
theorem cP_one (x : Pt) : ∀ v ∈ cP x, v.oneCell' = true := by intro v hv; simp [cP] at hv; rcases hv with rfl | rfl <;> rfl
theorem cmpLaysT (blk off size : Nat) (w : World) : CmpLays Tryz.prog 116 #[] cT 6 cmpT blk off size w := fun _ _ _ _ x y =>
 (dcmpT_any x y _).mono fun _ _ ⟨he, hx⟩ => ⟨he, hx.grown⟩
theorem cmpLaysP (blk off size : Nat) (w : World) : CmpLays Tryz.prog 81 #[] cP 2 cmpP blk off size w := fun _ _ _ _ x y =>
 (zIx x y _).mono fun _ _ ⟨he, hx⟩ => ⟨he, hx.grown⟩
theorem enterT : ∀ args w, (callFunc 116 args).run Tryz.prog w = .ok (.enter 116 args) w := enters_of Tryz.func116 (by kernel_rfl) rfl
theorem enterP : ∀ args w, (callFunc 81 args).run Tryz.prog w = .ok (.enter 81 args) w := enters_of Tryz.func81 (by kernel_rfl) rfl
theorem sortT_any (B : Nat) (v : Value) (L : List Tri3) (hL : L.length ≤ 3000000) (w : World) (h : w.ownsRow B 43 6 v L.length (L.flatMap cT)) :
    Calls Tryz.prog 115 #[v, .func (.func 116) #[] #[]] w fun e w' => e = .returned (.tuple #[]) ∧ w.grownBy w' v.ownBlock ∧ ∃ a cap, v = .slice a L.length cap ∧ RowAt cT 6 w' a (srt cmpT L) := by
 have h2 := h.2;rcases h2 with ⟨rfl, h0⟩ | ⟨g, cap, cur, rfl, hB, hb, h1, h2, h3, h4⟩
 ·have : L = [] := List.eq_nil_of_length_eq_zero h0;subst this;have hc := AnyF.slices_SortFunc_none { sortTri with } none 0 (.func (.func 116) #[] #[]) w
  change Calls Tryz.prog 115 _ _ _ at hc
  exact hc.mono fun e w' ⟨he, hw⟩ => ⟨he, hw ▸ zC8 _ _, none, 0, rfl, by rw [show srt cmpT ([] : List Tri3) = [] by simp [srt]]; exact RowAt.nil⟩
 ·obtain ⟨hH, hg⟩ := zDx zFs h;have hc := AnyQ.slices_SortFunc_total sortTri 6 Tryz.isAgg43 Tryz.sizeOf43 cT zFs zL4 cmpT wholeT.swo 116 #[] g 0 cap L.toArray w enterT (cmpLaysT g 0 _ w) hH hg (by simp; omega) wholeT.one
  change Calls Tryz.prog 115 _ _ _ at hc
  rw [show L.toArray.size = L.length by simp] at hc;refine hc.mono fun e w' ⟨he, n, os, hw⟩ => ⟨he, ?_, _, cap, rfl, ?_⟩
  ·rw [hw]; exact zC1 _
  ·rw [hw];exact zDc zFs (zFh hH hg (by simp)) (Nat.lt_of_lt_of_le hg (zC1 (c := cT) (k := 6) _).size)
end Go.Proofs.YtjkfakaehjmnbaaGreat
namespace Go.Proofs.YtjkfakaehjmnbaaGreat
open Go.RowKit Go.Sort
attribute [local go_sem] rOper rAt rUpon cell_set sg_i64 sg_u64 alloc_cell alloc_frozen
attribute [local go_sem 10000] pt_eql pt_neq tri_eql
attribute [local irreducible] rWalk
theorem info_tri : (Tryz.prog.info? 43).map (fun i => (i.zero, i.size, i.bytes)) = some (some (.agg #[.int .i64 0, .int .i64 0, .int .i64 0, .int .i64 0, .int .i64 0, .int .i64 0]), 6, 48) := by kernel_rfl
theorem zB3 {w : World} {ops : Array Oper} {rest : List Oper} {o : Oper} {a : Act} {Q : Exit → Act → World → Prop} (hgd : o.guard = none) (s x : Operand)
    (ho : o.op = .call { callee := .builtin .append, args := #[s, x], argTypes := #[24, 24] })
    (B : Nat) (v : Value) (L : List Tri3) (hs : a.eval s = v) (hown : w.ownsRow B 43 6 v L.length (L.flatMap cT))
    (bx : Nat) (T : Tri3) (hx : a.eval x = .slice (some ⟨bx, 0, none⟩) 1 1) (hbx : Box w bx (cT T) 43) (hn : L.length ≤ 1000000) (hbase : B ≤ w.heap.size)
    (h : ∀ w' v', w'.ownsRow B 43 6 v' (L ++ [T]).length ((L ++ [T]).flatMap cT) → w.grownBy w' v.ownBlock → wpList Tryz.prog ops Q rest (a.put o.dst v') w') : wpList Tryz.prog ops Q (o :: rest) a w := by
 obtain ⟨i0, hi, hz0, hz1, hz2⟩ := info_parts info_tri;refine wpList_append_own w hgd s x 24 ho B 43 i0 _ 6 48 Tryz.underlying24 hi hz0 hz1 hz2 rfl (by decide) v L.length _ hs hown ⟨bx, 0, none⟩ 1 1 (cT T) hx rfl ?_ (zL4 T) ?_ ?_ hbase ?_
 ·intro j u hj;have := hbx.f.1 j;rw [hj] at this;rw [Addr.add_lit, Nat.zero_add];exact this
 ·unfold maxLen; omega
 ·omega
 ·intro v' w' hown' hg _;refine h w' v' ?_ hg;rw [List.length_append, List.length_singleton, List.flatMap_append]
  simpa using hown'
def heads (p : Tri3 → Bool) (E : Es) : List Tri3 := (E.filter fun e => decide (e.1.1 = e.2.A) && p e.2).map (·.2)
theorem zCw {p : Tri3 → Bool} {E F : Es} (h : E.Perm F) : (heads p E).Perm (heads p F) := (h.filter _).map _
theorem zAy (p : Tri3 → Bool) (E F : Es) : heads p (E ++ F) = heads p E ++ heads p F := by unfold heads; rw [List.filter_append, List.map_append]
theorem zD5 (p : Tri3 → Bool) (E : Es) : (heads p E).length ≤ E.length := by unfold heads; rw [List.length_map]; exact List.length_filter_le _ _
theorem zGx {p : Tri3 → Bool} {e : (Pt × Pt) × Tri3} (h : e.1.1 = e.2.A) (hp : p e.2 = true) : heads p [e] = [e.2] := by simp [heads, h, hp]
theorem zFi {p : Tri3 → Bool} {e : (Pt × Pt) × Tri3} (h : ¬ (e.1.1 = e.2.A ∧ p e.2 = true)) : heads p [e] = [] := by
 unfold heads;rw [List.filter_cons_of_neg]
 ·rfl
 ·simpa using h
theorem zG5 {w : World} {B k : Nat} {T : TypeId} {v : Value} {n : Nat} {xs : List Value} (h : w.ownsRow B T k v n xs) : ∀ g, v.ownBlock = some g → ∃ cs T', w.heap[g]? = some (.cells cs T' (0, 0)) := fun g hg => by
 rcases h.2 with ⟨rfl, _⟩ | ⟨g', cap, cur, rfl, _, hb, _⟩
 ·simp [Value.ownBlock] at hg
 ·simp [Value.ownBlock] at hg;subst hg;exact ⟨_, _, hb⟩
theorem zC7 {w : World} {B k b : Nat} {T : TypeId} {v : Value} {n : Nat} {xs : List Value} {E : Es} (h : w.ownsRow B T k v n xs) (H : HoldsMap eW eT okW w b E) : some b ≠ v.ownBlock := fun e => by
 obtain ⟨cs, T', hc⟩ := zG5 h b e.symm;obtain ⟨es, clock, hb, _⟩ := H;rw [hb] at hc; cases hc
theorem zAz {w : World} {B k b r : Nat} {T : TypeId} {v : Value} {n : Nat} {xs : List Value} {E R : Es} (h : w.ownsRow B T k v n xs) (H : Ranging eW eT okW w b r E R) : some r ≠ v.ownBlock := fun e => by
 obtain ⟨cs, T', hc⟩ := zG5 h r e.symm;obtain ⟨es, clock, _, _, _, _, _, _, _, _, hr, _⟩ := H;rw [hr] at hc; cases hc
theorem zAg {w : World} {b r : Nat} {E R : Es} (H : Ranging eW eT okW w b r E R) : w.rangeLeft b r = R.length := by
 obtain ⟨es, clock, since, seen, c0, hb, _, _, _, _, hr, _, hl, _⟩ := H;simp only [World.rangeLeft, hb, hr];have := hl.length_eq
 simpa using this
theorem those_any (mb b : Nat) (E : Es) (g : FuncId) (cb : Array Value) (p : Tri3 → Bool) (hE : E.length ≤ 1000000) (w : World) (Bm : Box w mb [.map (some b)] 98) (Hm : HoldsMap eW eT okW w b E)
    (eg : ∀ args w, (callFunc g args).run Tryz.prog w = .ok (.enter g args) w)
    (hp : ∀ (T : Tri3) (W : World), Below w.heap.size w W → Calls Tryz.prog g (#[.agg #[.int .i64 T.A.x, .int .i64 T.A.y, .int .i64 T.B.x, .int .i64 T.B.y, .int .i64 T.C.x, .int .i64 T.C.y]] ++ cb) W fun e w' => e = .returned (.bool (p T)) ∧ Below W.heap.size W w') :
    Calls Tryz.prog 70 #[.pointer (some ⟨mb, 0, none⟩), .func (.func g) #[] cb] w fun e w' => ∃ a cap, e = .returned (.slice a (srt cmpT (heads p E)).length cap) ∧ RowAt cT 6 w' a (srt cmpT (heads p E)) ∧ Below w.heap.size w w' := by
 obtain ⟨xm, ym, zm, vm⟩ := Bm.f
 go_enter Tryz.func70, Tryz.ntmps70
 go_wp2_with (at_range; refine zB7 _ rfl _ rfl kvM rfl Hm ?_)
 intro w0 HR0 hw0 _;clear xm ym zm vm;go_wp2
 go_loopw [5] (fun v wr => ∃ D R : Es, Hid ((D ++ R).Perm E) ∧ wr.ownsRow w.heap.size 43 6 v (heads p D).length ((heads p D).flatMap cT) ∧ Ranging eW eT okW wr b w.heap.size E R ∧ Below w.heap.size w wr) (fun _ wr => wr.rangeLeft b w.heap.size)
 case atStart => exact ⟨[], E, Lib.hid (by simp), World.ownsRow_nil _ _ _ _, HR0, hw0⟩
 case round =>
  clear HR0 hw0;obtain ⟨D, R, hD, hown, HR, hw⟩ := hrel;go_wp2_with (at_next; refine zBe _ rfl _ rfl rfl HR ?_ ?_)
  ·intro hR;subst hR;have hp0 : (heads p D).Perm (heads p E) := zCw (by simpa using hD.out);have hle : (heads p D).length ≤ 3000000 := by have := hp0.length_eq; have := zD5 p E; omega
   have HS := Lib.hid (wholeT.srt_of_perm hp0);go_wp2_with fail;refine (sortT_any _ _ _ hle _ hown).mono ?_;rintro e w2 ⟨rfl, hg2, a, cap, rfl, hr⟩;go_wp2
   go_ret
   have hlen : (heads p D).length = (srt cmpT (heads p E)).length := by rw [← HS.out]; exact (zAo _).length_eq.symm
   rw [HS.out] at hr;refine ⟨a, cap, by rw [hlen]; rfl, hr, hw.grown hg2 hw.size (fun k hk => ?_)⟩;exact (hown.lt k hk).1
  ·intro u x T R' w1 hperm HR1 hg1 hs1 hen;have hD2 := Lib.hid (show ((D ++ [((u, x), T)]) ++ R').Perm E by have := (hperm.append_left D).symm.trans hD.out; simpa using this);have own1 := hown.kept hg1 (.inr (fun e => zAz hown HR e.symm));have hw1 := hw.grown hg1 hw.size (fun k hk => by cases hk; exact Nat.le_refl _);have HL := Lib.hid (show w1.rangeLeft b w.heap.size < wr.rangeLeft b w.heap.size by rw [zAg HR1, zAg HR, hperm.length_eq]; simp);have hen2 : (Instr.entry (.pointer (some ⟨w.heap.size, 0, none⟩))).run Tryz.prog w1 = .ok (.tuple #[.agg #[.int .i64 u.x, .int .i64 u.y, .int .i64 x.x, .int .i64 x.y], .agg #[.int .i64 T.A.x, .int .i64 T.A.y, .int .i64 T.B.x, .int .i64 T.B.y, .int .i64 T.C.x, .int .i64 T.C.y]]) w1 := hen;have hle : (heads p D).length ≤ 1000000 := by have := hD2.out.length_eq; have := zD5 p D; simp at *; omega
   clear hown HR hg1 hs1 hen hperm hw;have hnx : Hid (∀ W : World, Below w1.heap.size w1 W → (W.rangeLeft b w.heap.size < wr.rangeLeft b w.heap.size)) := Lib.hid (fun W hW => by
    rw [zAg (HR1.ee hW), ← zAg HR1]; exact HL.out)
   by_cases hA : u = T.A
   ·have hd : peqI u.x u.y T.A.x T.A.y = true := zBk.2 hA;cases hT : p T with
    | false =>
     have HH := Lib.hid (show heads p (D ++ [((u, x), T)]) = heads p D by rw [zAy, zFi (by simp [hT])]; simp);have cp := fun W hW => hp T W hW;rw [hT] at cp;clear hA hT;go_wp2_with fail;refine zA1 fun W2 hW => ?_;have hb2 : Below w1.heap.size w1 W2 := by rw [hW]; go_grown
     clear hW;refine (cp _ ((upB hw1 hb2))).mono ?_;rintro e w3 ⟨rfl, hb⟩;have hb3 := (upB hb2 hb);clear hb hb2;go_wp2
     go_roundw
     case rel => exact ⟨D ++ [((u, x), T)], R', hD2, by rw [HH.out]; exact own1.kept (zA7 hb3 none) (by cases u5.ownBlock <;> simp), HR1.ee hb3, (upB hw1 hb3)⟩
     case measure => exact hnx.out _ hb3
    | true =>
     have HH := Lib.hid (show heads p (D ++ [((u, x), T)]) = heads p D ++ [T] by rw [zAy, zGx hA hT]);have cp := fun W hW => hp T W hW;rw [hT] at cp;clear hA hT;go_wp2_with fail;refine zA1 fun W2 hW => ?_;have hb2 : Below w1.heap.size w1 W2 := by rw [hW]; go_grown
     have Bt : Box W2 (w1.heap.size + 1) (cT T) 43 := by rw [hW]; exact Box.new (by simp)
     clear hW;refine (cp _ ((upB hw1 hb2))).mono ?_;rintro e w3 ⟨rfl, hb⟩;have hb3 := (upB hb2 hb);replace Bt := Bt.ee hb;have own3 := own1.kept (zA7 hb3 none) (by cases u5.ownBlock <;> simp);have HB := Lib.hid (Nat.le_trans hw1.size hb3.size);clear hb hb2;obtain ⟨xt, yt, zt, vt⟩ := Bt.f;unfold cT at xt;go_wp2_with (at_builtin; refine zB3 rfl _ _ rfl w.heap.size _ (heads p D) rfl (own3.alloc _) w3.heap.size T rfl (Box.new rfl) hle (by have := HB.out; simp; omega) ?_; intro w4 v4 hown4 hg4)
     have hR3 := (HR1.ee hb3).kept (World.grownBy_alloc w3 (.cells (cT T).toArray 43) none) (by simp) (by simp);have hR4 := hR3.kept hg4 (zC7 (own3.alloc _) hR3.holds) (zAz (own3.alloc _) hR3);have hw4 := ((((upB hw1 hb3)).alloc (by have := HB.out; omega) (.cells (cT T).toArray 43))).grown hg4 (by have := HB.out; simp; omega) (fun k hk => ((own3.alloc (.cells (cT T).toArray 43)).lt k hk).1)
     go_roundw
     case rel => exact ⟨D ++ [((u, x), T)], R', hD2, by rw [HH.out]; exact hown4, hR4, hw4⟩
     case measure => rw [zAg hR4, ← zAg HR1]; exact HL.out
   ·have hd : peqI u.x u.y T.A.x T.A.y = false := by rw [← Bool.not_eq_true, zBk]; exact hA
    have HH := Lib.hid (show heads p (D ++ [((u, x), T)]) = heads p D by rw [zAy, zFi (by simp [hA])]; simp);clear hA;go_wp2
    go_roundw
    case rel => exact ⟨D ++ [((u, x), T)], R', hD2, by rw [HH.out]; exact (own1.alloc _).alloc _, HR1.ext (by go_grown) rfl, by have := hw1.size; go_grown⟩
    case measure => exact hnx.out _ (by go_grown)
theorem trueCl (T : Tri3) (w : World) : Calls Tryz.prog 78 #[.agg #[.int .i64 T.A.x, .int .i64 T.A.y, .int .i64 T.B.x, .int .i64 T.B.y, .int .i64 T.C.x, .int .i64 T.C.y]] w fun e w' => e = .returned (.bool true) ∧ Below w.heap.size w w' := by
 go_enter Tryz.func78, Tryz.ntmps78
 go_wp2
 go_ret
 exact ⟨rfl, by go_grown⟩
theorem enterCl : ∀ args w, (callFunc 78 args).run Tryz.prog w = .ok (.enter 78 args) w := enters_of Tryz.func78 (by kernel_rfl) rfl
theorem zIf (mb b : Nat) (E : Es) (hE : E.length ≤ 1000000) (w : World) (Bm : Box w mb [.map (some b)] 98) (Hm : HoldsMap eW eT okW w b E) :
    Calls Tryz.prog 33 #[.pointer (some ⟨mb, 0, none⟩)] w fun e w' => ∃ a cap, e = .returned (.slice a (srt cmpT (heads (fun _ => true) E)).length cap) ∧ RowAt cT 6 w' a (srt cmpT (heads (fun _ => true) E)) ∧ Below w.heap.size w w' := by
 have ct := those_any mb b E 78 #[] (fun _ => true) hE w Bm Hm enterCl (fun T W _ => trueCl T W)
 go_enter Tryz.func33, Tryz.ntmps33
 go_wp2_with fail;refine ct.mono ?_;rintro e w1 ⟨a, cap, rfl, hr, hb⟩;go_wp2
 go_ret
 exact ⟨a, cap, rfl, hr, hb⟩
theorem RowAt.part {α : Type} {c : α → List Value} {k : Nat} {w : World} {a : Option Addr} {L : List α} (h : RowAt c k w a L) (lo m cap : Nat) (hcap : L.length ≤ cap) :
    RowAt c k w (if cap = lo then a else a.map fun x => x.add (lo * k)) ((L.drop lo).take m) := fun j x hj => by
 have hj2 : L[lo + j]? = some x := by
  rw [List.getElem?_take] at hj;split at hj
  ·rwa [List.getElem?_drop] at hj
  ·cases hj
 obtain ⟨ad, h1, h2, h3⟩ := h (lo + j) x hj2;have hl := (List.getElem?_eq_some_iff.1 hj2).1;refine ⟨ad.add (lo * k), ?_, by rw [zAk]; exact h2, fun i u hu => ?_⟩
 ·rw [if_neg (by omega), h1]; rfl
 ·rw [show (ad.add (lo * k)).add (j * k) = ad.add ((lo + j) * k) by rw [Go.Deep.add_add, ← Nat.add_mul]];exact h3 i u hu
theorem zF6 (a : Option Addr) (n cap lo hi : Nat) (h1 : lo ≤ hi) (h2 : hi ≤ cap) (w : World) : (Instr.slice 24 (.slice a n cap) (some (.int .i64 lo)) (some (.int .i64 hi)) none).run Tryz.prog w = .ok (.slice (if cap = lo then a else a.map fun x => x.add (lo * 6)) (hi - lo) (cap - lo)) w := by
 simp [Instr.slice, Instr.sliceBounds, Instr.sliceBound, asIntOf, run_underlying Tryz.underlying24, go_sem, h1, h2]
theorem run_from_tri (a : Option Addr) (n cap lo : Nat) (h1 : lo ≤ n) (w : World) : (Instr.slice 24 (.slice a n cap) (some (.int .i64 lo)) none none).run Tryz.prog w = .ok (.slice (if cap = lo then a else a.map fun x => x.add (lo * 6)) (n - lo) (cap - lo)) w := by
 simp [Instr.slice, Instr.sliceBounds, Instr.sliceBound, asIntOf, run_underlying Tryz.underlying24, go_sem, h1]
theorem run_upto_tri (a : Option Addr) (n cap hi : Nat) (h1 : hi ≤ cap) (w : World) : (Instr.slice 24 (.slice a n cap) none (some (.int .i64 hi)) none).run Tryz.prog w = .ok (.slice a hi cap) w := by
 cases a <;> simp [Instr.slice, Instr.sliceBounds, Instr.sliceBound, asIntOf, run_underlying Tryz.underlying24, go_sem, h1, Addr.add]
theorem zG0 (a : Option Addr) (n cap lo : Nat) (h1 : lo ≤ n) (w : World) : (Instr.slice 79 (.slice a n cap) (some (.int .i64 lo)) none none).run Tryz.prog w = .ok (.slice (if cap = lo then a else a.map fun x => x.add (lo * 2)) (n - lo) (cap - lo)) w := by
 simp [Instr.slice, Instr.sliceBounds, Instr.sliceBound, asIntOf, run_underlying Tryz.underlying79, go_sem, h1]
theorem run_upto_pt (a : Option Addr) (n cap hi : Nat) (h1 : hi ≤ cap) (w : World) : (Instr.slice 79 (.slice a n cap) none (some (.int .i64 hi)) none).run Tryz.prog w = .ok (.slice a hi cap) w := by
 cases a <;> simp [Instr.slice, Instr.sliceBounds, Instr.sliceBound, asIntOf, run_underlying Tryz.underlying79, go_sem, h1, Addr.add]
end Go.Proofs.YtjkfakaehjmnbaaGreat
namespace Go.Proofs.YtjkfakaehjmnbaaGreat
section
variable {α : Type} {c : α → α → Int}
def Blocks (c : α → α → Int) (n : Nat) (L : List α) : Prop := ∀ i j (hi : i < L.length) (hj : j < L.length), i < j → i / n = j / n → c L[i] L[j] ≤ 0
theorem blocks_one (L : List α) : Blocks c 1 L := fun i j _ _ h e => by rw [Nat.div_one, Nat.div_one] at e; omega
theorem blocks_all {n : Nat} {L : List α} (h : Blocks c n L) (hn : L.length ≤ n) : InOrder c L := by
 unfold InOrder;rw [List.pairwise_iff_getElem];intro i j hi hj hij;exact h i j hi hj hij (by rw [Nat.div_eq_of_lt (by omega), Nat.div_eq_of_lt (by omega)])
theorem zGc {n m : Nat} {L : List α} (h : Blocks c n L) : InOrder c ((L.drop (n * m)).take n) := by
 unfold InOrder;rw [List.pairwise_iff_getElem];intro i j hi hj hij;simp only [List.length_take, List.length_drop] at hi hj;simp only [List.getElem_take, List.getElem_drop];have h0 : 0 < n := by omega
 refine h _ _ (by omega) (by omega) (by omega) ?_;rw [Nat.mul_add_div h0, Nat.mul_add_div h0, Nat.div_eq_of_lt (by omega), Nat.div_eq_of_lt (by omega)]
theorem blocks_append {n m : Nat} {O M : List α} (h : Blocks c n O) (hl : O.length = n * m) (hM : InOrder c M) : Blocks c n (O ++ M) := by
 intro i j hi hj hij e;rw [List.length_append] at hi hj;by_cases h1 : j < O.length
 ·rw [List.getElem_append_left h1, List.getElem_append_left (by omega)];exact h i j (by omega) h1 hij e
 ·by_cases h2 : i < O.length
  ·exfalso
   have h0 : 0 < n := by rcases Nat.eq_zero_or_pos n with h | h; · subst h; rw [Nat.zero_mul] at hl; omega
                         ·exact h
   have e1 : i / n < m := by rw [Nat.div_lt_iff_lt_mul h0, Nat.mul_comm]; omega
   have e2 : m ≤ j / n := by rw [Nat.le_div_iff_mul_le h0, Nat.mul_comm]; omega
   omega
  ·rw [List.getElem_append_right (by omega), List.getElem_append_right (by omega)];unfold InOrder at hM;rw [List.pairwise_iff_getElem] at hM;exact hM (i - O.length) (j - O.length) (by omega) (by omega) (by omega)
structure Mrg (c : α → α → Int) (X M A B : List α) : Prop where
 perm : (M ++ (A ++ B)).Perm X
 m : InOrder c M
 a : InOrder c A
 b : InOrder c B
 le : ∀ x ∈ M, ∀ y ∈ A ++ B, c x y ≤ 0
theorem Mrg.start {A B : List α} (ha : InOrder c A) (hb : InOrder c B) : Mrg c (A ++ B) [] A B := ⟨by simp, by simp [InOrder], ha, hb, by simp⟩
theorem inOrder_snoc {M : List α} {x : α} (h : InOrder c M) (hx : ∀ y ∈ M, c y x ≤ 0) : InOrder c (M ++ [x]) := by
 unfold InOrder at *;rw [List.pairwise_append];exact ⟨h, by simp, fun a ha b hb => by simp at hb; subst hb; exact hx a ha⟩
theorem Mrg.left (W : Whole c) {X M A B : List α} {x : α} (h : Mrg c X M (x :: A) B) (hx : ∀ y, B.head? = some y → c x y ≤ 0) : Mrg c X (M ++ [x]) A B := by
 have hA := h.a;unfold InOrder at hA;rw [List.pairwise_cons] at hA;have hxB : ∀ y ∈ B, c x y ≤ 0 := fun y hy => by
  cases B with
  | nil => simp at hy
  | cons z B =>
   have hb := h.b;unfold InOrder at hb;rw [List.pairwise_cons] at hb;rcases List.mem_cons.1 hy with rfl | hy
   ·exact hx _ rfl
   ·exact W.le_trans (hx _ rfl) (hb.1 y hy)
 refine ⟨by simpa using h.perm, inOrder_snoc h.m (fun y hy => h.le y hy x (by simp)), hA.2, h.b, fun z hz y hy => ?_⟩;rcases List.mem_append.1 hz with hz | hz
 ·exact h.le z hz y (by simp at hy ⊢; exact .inr hy)
 ·simp at hz; subst hz;rcases List.mem_append.1 hy with hy | hy
  ·exact hA.1 y hy
  ·exact hxB y hy
theorem Mrg.right (W : Whole c) {X M A B : List α} {x : α} (h : Mrg c X M A (x :: B)) (hx : ∀ y, A.head? = some y → c x y ≤ 0) : Mrg c X (M ++ [x]) A B := by
 have h2 : Mrg c X M (x :: B) A := ⟨((List.perm_append_comm).append_left M).trans h.perm, h.m, h.b, h.a, fun z hz y hy => h.le z hz y (by simp at hy ⊢; rcases hy with h | h | h <;> simp [h])⟩;have h3 := h2.left W hx;exact ⟨((List.perm_append_comm).append_left _).trans h3.perm, h3.m, h3.b, h3.a, fun z hz y hy => h3.le z hz y (by simp at hy ⊢; exact hy.symm)⟩
theorem Mrg.done {X M : List α} (h : Mrg c X M [] []) : M.Perm X := by simpa using h.perm
theorem two_blocks (L : List α) (at_ n : Nat) : (L.drop at_).take n ++ (L.drop (at_ + n)).take n = (L.drop at_).take (2 * n) := by
 rw [← List.drop_drop, Nat.two_mul, List.take_add]
end
open Go.RowKit Go.Sort
attribute [local go_sem] rOper rAt rUpon cell_set sg_i64 sg_u64 alloc_cell alloc_frozen
attribute [local go_sem 10000] pt_eql pt_neq tri_eql
attribute [local irreducible] rWalk
theorem zAr {α : Type} {c : α → List Value} {k : Nat} {w : World} {B : Nat} {T : TypeId} {v : Value} {L : List α} (hc : ∀ x, (c x).length = k) (h : w.ownsRow B T k v L.length (L.flatMap c)) :
    ∃ a cap, v = .slice a L.length cap ∧ L.length ≤ cap ∧ RowAt c k w a L := by
 have h2 := h.2;obtain ⟨a, cap, rfl, hr⟩ := zEh hc h;refine ⟨a, cap, rfl, ?_, hr⟩;rcases h2 with ⟨h3, h4⟩ | ⟨g, cap2, cur, h3, _, _, h4, _⟩
 ·omega
 ·simp only [Value.slice.injEq] at h3;omega
theorem Six.cells {w : World} {A : Addr} {T : Tri3} (h : Six w A T) : (∀ d os, (grow (redrawn w d) os).cell? A = some (.int .i64 T.A.x)) ∧ (∀ d os, (grow (redrawn w d) os).cell? ⟨A.block, A.off + 1, none⟩ = some (.int .i64 T.A.y)) ∧ (∀ d os, (grow (redrawn w d) os).cell? ⟨A.block, A.off + 2, none⟩ = some (.int .i64 T.B.x)) ∧
      (∀ d os, (grow (redrawn w d) os).cell? ⟨A.block, A.off + 3, none⟩ = some (.int .i64 T.B.y)) ∧ (∀ d os, (grow (redrawn w d) os).cell? ⟨A.block, A.off + 4, none⟩ = some (.int .i64 T.C.x)) ∧ (∀ d os, (grow (redrawn w d) os).cell? ⟨A.block, A.off + 5, none⟩ = some (.int .i64 T.C.y)) :=
 ⟨fun d os => (h.ext (below_regrown w d os) rfl).2.1, fun d os => (h.ext (below_regrown w d os) rfl).2.2.1, fun d os => (h.ext (below_regrown w d os) rfl).2.2.2.1, fun d os => (h.ext (below_regrown w d os) rfl).2.2.2.2.1, fun d os => (h.ext (below_regrown w d os) rfl).2.2.2.2.2.1, fun d os => (h.ext (below_regrown w d os) rfl).2.2.2.2.2.2⟩
theorem RowAt.first {w : World} {a : Option Addr} {x : Tri3} {L : List Tri3} (h : RowAt cT 6 w a (x :: L)) : ∃ ad, a = some ad ∧ Six w ad x := by
 obtain ⟨ad, A, h1, h2, h3⟩ := h.six (j := 0) (by simp);rw [Nat.zero_mul, Addr.add_zero'] at h2;subst h2;exact ⟨ad, h1, h3⟩
theorem RowAt.rest {w : World} {a : Option Addr} {x : Tri3} {L : List Tri3} {c : Nat} (h : RowAt cT 6 w a (x :: L)) (hc : (x :: L).length ≤ c) :
    ∃ a', (∀ w', (Instr.slice 24 (.slice a (L.length + 1) c) (some (.int .i64 1)) none none).run Tryz.prog w' = .ok (.slice a' L.length (c - 1)) w') ∧ RowAt cT 6 w a' L ∧ L.length ≤ c - 1 := by
 have h1 := h.part 1 L.length c hc;have e : ((x :: L).drop 1).take L.length = L := by simp
 rw [e] at h1;refine ⟨_, fun w' => ?_, h1, by simp at hc; omega⟩;have := run_from_tri a (L.length + 1) c 1 (by omega) w'
 simpa using this
def lenOf : Value → Nat | .slice _ n _ => n | _ => 0
theorem zF7 (a0 : Option Addr) (c0 N : Nat) (L : List Tri3) (hL : Hid (L.length = N)) (hN : N ≤ 1000000) (hc0 : N ≤ c0) (w : World) (h0 : RowAt cT 6 w a0 L) :
    Calls Tryz.prog 53 #[.slice a0 N c0] w fun e w' => ∃ a cap, e = .returned (.slice a N cap) ∧ N ≤ cap ∧ RowAt cT 6 w' a (srt cmpT L) ∧ Below w.heap.size w w' := by
 go_enter Tryz.func53, Tryz.ntmps53
 go_wp2
 go_loopw [0, 3] (fun vl vn wr => ∃ (nn : Nat) (X : List Tri3) (a : Option Addr) (cap : Nat), vl = .slice a N cap ∧ vn = .int .i64 nn ∧ 1 ≤ nn ∧ nn ≤ 2000000 ∧ Hid (X.Perm L) ∧ Hid (X.length = N) ∧ Hid (Blocks cmpT nn X) ∧ RowAt cT 6 wr a X ∧ N ≤ cap ∧ Below w.heap.size w wr) (fun _ vn _ => N - (intOf vn).toNat)
 case atStart => exact ⟨1, L, a0, c0, rfl, rfl, Nat.le_refl _, by omega, Lib.hid (List.Perm.refl _), hL, Lib.hid (blocks_one L), h0, hc0, Below.refl _ _⟩
 case round =>
  obtain ⟨nn, X, a, cap, rfl, rfl, hn1, hn2, hX, hXl, hB, hr, hcap, hw⟩ := hrel;by_cases hlt : nn < N
  case neg =>
   have HS := Lib.hid (wholeT.srt_eq hX.out (blocks_all hB.out (by rw [hXl.out]; omega)));go_wp2
   go_ret
   exact ⟨a, cap, rfl, hcap, by rw [← HS.out]; exact hr, hw⟩
  case pos =>
   go_wp2;obtain ⟨W0, rfl⟩ : ∃ W0, W0 = wr := ⟨_, rfl⟩
   go_loopw [4, 5] (fun vo vat wr => ∃ (m at_ : Nat) (O : List Tri3), vat = .int .i64 at_ ∧ Hid (at_ = 2 * nn * m) ∧ at_ ≤ 5000000 ∧ Hid (O.Perm (X.take at_)) ∧ Hid (Blocks cmpT (2 * nn) O) ∧ wr.ownsRow W0.heap.size 43 6 vo O.length (O.flatMap cT) ∧ Below W0.heap.size W0 wr) (fun _ vat _ => N - (intOf vat).toNat)
   case atStart => exact ⟨0, 0, [], rfl, Lib.hid (by simp), by omega, Lib.hid (by simp), Lib.hid (fun i j hi => by simp at hi), World.ownsRow_nil _ _ _ _, Below.refl _ _⟩
   case round =>
    obtain ⟨m, at_, O, rfl, hat, hat2, hO, hOB, hown, hw1⟩ := hrel;by_cases hlt2 : at_ < N
    case neg =>
     obtain ⟨a', cap', rfl, hcap', hr'⟩ := zAr zFs hown;have hOX : O.Perm X := by have := hO.out; rwa [List.take_of_length_le (by rw [hXl.out]; omega)] at this
     have HN := Lib.hid (show O.length = N by rw [hOX.length_eq, hXl.out]);rw [HN.out] at hcap';rw [HN.out];have HX := Lib.hid (hOX.trans hX.out);have e2 : wrap64 (2 * (nn : Int)) = ((2 * nn : Nat) : Int) := by rw [w64]; omega
     clear hOX;go_wp2
     go_roundw
     case rel => exact ⟨2 * nn, O, a', cap', rfl, by go_num, by omega, by omega, HX, HN, hOB, hr', hcap', (upB hw hw1)⟩
     case measure => simp [intOf]; omega
    case pos =>
     obtain ⟨p1, hp1⟩ : ∃ p1, p1 = min (at_ + nn) N := ⟨_, rfl⟩;obtain ⟨p2, hp2⟩ : ∃ p2, p2 = min (at_ + 2 * nn) N := ⟨_, rfl⟩;have i1 : IntKind.i64.wrap ((at_ : Int) + nn) = (at_ : Int) + nn := by rw [IntKind.wrap_i64]; omega
     have i2 : IntKind.i64.wrap (2 * (nn : Int)) = 2 * (nn : Int) := by rw [IntKind.wrap_i64]; omega
     have i3 : IntKind.i64.wrap ((at_ : Int) + 2 * (nn : Int)) = (at_ : Int) + 2 * (nn : Int) := by rw [IntKind.wrap_i64]; omega
     have m1 : min ((at_ : Int) + nn) (N : Int) = (p1 : Int) := by rw [hp1]; omega
     have m2 : min ((at_ : Int) + 2 * (nn : Int)) (N : Int) = (p2 : Int) := by rw [hp2]; omega
     have s1 := fun w => zF6 a N cap at_ p1 (by omega) (by omega) w;have s2 := fun w => zF6 a N cap p1 p2 (by omega) (by omega) w;have r1 := hr.part at_ nn cap (by rw [hXl.out]; exact hcap);have r2 := hr.part p1 nn cap (by rw [hXl.out]; exact hcap);generalize (if cap = at_ then a else a.map fun x => x.add (at_ * 6)) = a1 at s1 r1
     generalize (if cap = p1 then a else a.map fun x => x.add (p1 * 6)) = a2 at s2 r2
     obtain ⟨A, hA⟩ : ∃ A, A = (X.drop at_).take nn := ⟨_, rfl⟩;obtain ⟨B, hBq⟩ : ∃ B, B = (X.drop (at_ + nn)).take nn := ⟨_, rfl⟩;have hB2 : B = (X.drop p1).take nn := by
      rw [hBq, hp1];rcases Nat.le_total (at_ + nn) N with h | h
      ·rw [Nat.min_eq_left h]
      ·rw [Nat.min_eq_right h, List.drop_eq_nil_of_le (by rw [hXl.out]; omega), List.drop_eq_nil_of_le (by rw [hXl.out]; omega)]
     have lA : p1 - at_ = A.length := by rw [hA, List.length_take, List.length_drop, hXl.out]; omega
     have lB : p2 - p1 = B.length := by rw [hB2, List.length_take, List.length_drop, hXl.out]; omega
     rw [← hA] at r1;rw [← hB2] at r2;rw [lA] at s1;rw [lB] at s2;have cA : A.length ≤ cap - at_ := by omega
     have cB : B.length ≤ cap - p1 := by omega
     have HM0 := Lib.hid (Mrg.start (c := cmpT) (A := A) (B := B) (by rw [hA, hat.out, show 2 * nn * m = nn * (2 * m) by rw [Nat.mul_comm 2 nn, Nat.mul_assoc]]; exact zGc hB.out) (by rw [hBq, hat.out, show 2 * nn * m + nn = nn * (2 * m + 1) by rw [Nat.mul_comm 2 nn, Nat.mul_assoc, Nat.mul_add, Nat.mul_one]]; exact zGc hB.out));have HAB := Lib.hid (show A ++ B = (X.drop at_).take (2 * nn) by rw [hA, hBq]; exact two_blocks X at_ nn);have HOl := Lib.hid (show O.length = at_ by rw [(hO.out).length_eq, List.length_take, hXl.out]; omega);have HLB := Lib.hid (show A.length + B.length ≤ 2000000 by omega);clear hp1 hp2 hA hBq hB2 lA lB;generalize cap - at_ = cap1 at *
     generalize cap - p1 = cap2 at *
     go_wp2
     go_quiet (fail)
     clear i1 i2 i3 m1 m2 s1 s2;have hb : Below wr.heap.size wr (wr.drewN nq) := ⟨rfl, rfl, rfl, Nat.le_refl _, fun _ _ => rfl⟩;have own2 := hown.kept (zA7 hb none) (by cases u4.ownBlock <;> simp);have hw2 := (upB hw1 hb);clear hown hw1 hb;generalize wr.drewN nq = W1 at *
     go_wp2
     go_loopw [4, 6, 7] (fun vo va vb wr => ∃ (M A' B' : List Tri3) (a1 : Option Addr) (c1 : Nat) (a2 : Option Addr) (c2 : Nat), va = .slice a1 A'.length c1 ∧ vb = .slice a2 B'.length c2 ∧ A'.length ≤ c1 ∧ B'.length ≤ c2 ∧ Hid (Mrg cmpT (A ++ B) M A' B') ∧ RowAt cT 6 W0 a1 A' ∧ RowAt cT 6 W0 a2 B' ∧ wr.ownsRow W0.heap.size 43 6 vo (O ++ M).length ((O ++ M).flatMap cT) ∧ Below W0.heap.size W0 wr) (fun _ va vb _ => lenOf va + lenOf vb)
     case atStart => exact ⟨[], A, B, a1, cap1, a2, cap2, rfl, rfl, cA, cB, HM0, r1, r2, by simpa using own2, hw2⟩
     case round =>
      clear own2 hw2 r1 r2 cA cB;obtain ⟨M, A', B', a1, c1, a2, c2, rfl, rfl, hc1, hc2, HM, ra, rb, own2, hw2⟩ := hrel;have HLe := Lib.hid (show (O ++ M).length ≤ 1000000 by
       have e1 := HM.out.perm.length_eq;have e2 := congrArg List.length HAB.out;have e3 := HOl.out;have e4 := hXl.out;simp only [List.length_append, List.length_take, List.length_drop] at e1 e2 ⊢;omega)
      rcases A' with _ | ⟨x, A'⟩ <;> rcases B' with _ | ⟨y, B'⟩
      ·have HO := Lib.hid (show (O ++ M).Perm (X.take (at_ + 2 * nn)) by
         rw [List.take_add];refine (hO.out).append ?_;rw [← HAB.out]; exact HM.out.done)
       have HBl := Lib.hid (blocks_append hOB.out (HOl.out.trans hat.out) HM.out.m);have e2 : wrap64 (2 * (nn : Int)) = 2 * (nn : Int) := by rw [w64]; omega
       have e3 : wrap64 ((at_ : Int) + 2 * (nn : Int)) = (at_ : Int) + 2 * (nn : Int) := by rw [w64]; omega
       simp only [List.length_nil];go_wp2
       go_roundw
       case rel => exact ⟨m + 1, at_ + 2 * nn, O ++ M, by go_num, Lib.hid (by rw [hat.out, Nat.mul_add, Nat.mul_one]), by omega, HO, HBl, own2, hw2⟩
       case measure => simp [intOf]; omega
      ·skip
       have HP := Lib.hid (HM.out.right wholeT (by simp));simp only [List.length_nil, List.length_cons];obtain ⟨ad2, e2, SB0⟩ := rb.first;have SB := SB0.ee hw2;obtain ⟨a2', f2, rb', hc2'⟩ := rb.rest hc2;rw [e2] at f2;clear HM rb hc2 SB0;go_wp2;refine wrt 17 (by kernel_rfl) (by kernel_rfl) ?_;simp only [tK1, tK0, dP1, dP0];repeat (first | (refine zA0 (Eq.refl false) ?_; simp only [Act.put, sT2, sT1, sT0]) | (refine rWalk_step (fun K hK => ?_); go_simp; refine hK _ ?_; clear hK K))
       refine rWalk_nil ?_;intro w2 hb;have own3 := own2.kept (zA7 hb none) (by cases u4.ownBlock <;> simp);have hw3 := (upB hw2 hb);have hle : (O ++ M).length ≤ 1000000 := HLe.out;clear own2 hw2;obtain ⟨zA, q0, q1, q2, q3, q4, q5⟩ := (SB.ee hb).f;have HB := Lib.hid hw3.size;go_wp2_with (at_builtin; refine zB3 rfl _ _ rfl W0.heap.size _ (O ++ M) rfl (own3.alloc _) w2.heap.size y rfl (Box.new rfl) hle (by have := HB.out; simp; omega) ?_; intro w4 v4 hown4 hg4)
       clear zA q0 q1 q2 q3 q4 q5;have hw4 := (hw3.alloc HB.out (.cells (cT y).toArray 43)).grown hg4 (by have := HB.out; simp; omega) (fun k hk => ((own3.alloc (.cells (cT y).toArray 43)).lt k hk).1)
       go_roundw
       case rel => exact ⟨M ++ [y], [], B', a1, c1, a2', c2 - 1, (by first | rfl | (rw [e1]; rfl) | (rw [e2]; rfl)), (by first | rfl | (rw [e1]; rfl) | (rw [e2]; rfl)), hc1, hc2', HP, ra, rb', by rw [← List.append_assoc]; exact hown4, hw4⟩
       case measure => simp [lenOf]
      ·skip
       have HP := Lib.hid (HM.out.left wholeT (by simp));simp only [List.length_nil, List.length_cons];obtain ⟨ad1, e1, SA0⟩ := ra.first;have SA := SA0.ee hw2;obtain ⟨a1', f1, ra1', hc1'⟩ := ra.rest hc1;rw [e1] at f1;clear HM ra hc1 SA0;go_wp2;refine wrt 17 (by kernel_rfl) (by kernel_rfl) ?_;simp only [tK1, tK0, dP1, dP0];repeat (first | (refine zA0 (Eq.refl false) ?_; simp only [Act.put, sT2, sT1, sT0]) | (refine rWalk_step (fun K hK => ?_); go_simp; refine hK _ ?_; clear hK K))
       refine rWalk_nil ?_;intro w2 hb;have own3 := own2.kept (zA7 hb none) (by cases u4.ownBlock <;> simp);have hw3 := (upB hw2 hb);have hle : (O ++ M).length ≤ 1000000 := HLe.out;clear own2 hw2;obtain ⟨zA, q0, q1, q2, q3, q4, q5⟩ := (SA.ee hb).f;have HB := Lib.hid hw3.size;go_wp2_with (at_builtin; refine zB3 rfl _ _ rfl W0.heap.size _ (O ++ M) rfl (own3.alloc _) w2.heap.size x rfl (Box.new rfl) hle (by have := HB.out; simp; omega) ?_; intro w4 v4 hown4 hg4)
       clear zA q0 q1 q2 q3 q4 q5;have hw4 := (hw3.alloc HB.out (.cells (cT x).toArray 43)).grown hg4 (by have := HB.out; simp; omega) (fun k hk => ((own3.alloc (.cells (cT x).toArray 43)).lt k hk).1)
       go_roundw
       case rel => exact ⟨M ++ [x], A', [], a1', c1 - 1, a2, c2, (by first | rfl | (rw [e1]; rfl) | (rw [e2]; rfl)), (by first | rfl | (rw [e1]; rfl) | (rw [e2]; rfl)), hc1', hc2, HP, ra1', rb, by rw [← List.append_assoc]; exact hown4, hw4⟩
       case measure => simp [lenOf]
      ·skip
       simp only [List.length_cons];have cc := rcmpT_any x y;by_cases hxy : cmpT x y ≤ 0
       ·have HP := Lib.hid (HM.out.left wholeT (by simpa using hxy));have hd : decide (cmpT x y ≤ 0) = true := by simpa using hxy
        generalize cmpT x y = n at *
        clear hxy HM;obtain ⟨ad1, e1, SA0⟩ := ra.first;have SA := SA0.ee hw2;obtain ⟨a1', f1, ra1', hc1'⟩ := ra.rest hc1;rw [e1] at f1;obtain ⟨ad2, e2, SB0⟩ := rb.first;have SB := SB0.ee hw2;obtain ⟨t0, t1, t2, t3, t4, t5⟩ := SA.cells;obtain ⟨s0, s1, s2, s3, s4, s5⟩ := SB.cells;clear ra hc1 SA0 SB0;go_wp2;refine wrt 17 (by kernel_rfl) (by kernel_rfl) ?_;simp only [tK1, tK0, dP1, dP0];repeat (first | (refine zA0 (Eq.refl false) ?_; simp only [Act.put, sT2, sT1, sT0]) | (refine rWalk_step (fun K hK => ?_); go_simp; first | (refine hK _ ?_; clear hK K) | (apply Exists.intro; refine ⟨fun _ => ?_, hK _ ?_⟩; (first | with_reducible exact toExt cc _); clear hK K)))
        refine rWalk_nil ?_;intro w2 hb;have own3 := own2.kept (zA7 hb none) (by cases u4.ownBlock <;> simp);have hw3 := (upB hw2 hb);have hle : (O ++ M).length ≤ 1000000 := HLe.out;clear own2 hw2;clear t0 t1 t2 t3 t4 t5 s0 s1 s2 s3 s4 s5;obtain ⟨zA, q0, q1, q2, q3, q4, q5⟩ := (SA.ee hb).f;have HB := Lib.hid hw3.size;go_wp2_with (at_builtin; refine zB3 rfl _ _ rfl W0.heap.size _ (O ++ M) rfl (own3.alloc _) w2.heap.size x rfl (Box.new rfl) hle (by have := HB.out; simp; omega) ?_; intro w4 v4 hown4 hg4)
        clear zA q0 q1 q2 q3 q4 q5;have hw4 := (hw3.alloc HB.out (.cells (cT x).toArray 43)).grown hg4 (by have := HB.out; simp; omega) (fun k hk => ((own3.alloc (.cells (cT x).toArray 43)).lt k hk).1)
        go_roundw
        case rel => exact ⟨M ++ [x], A', y :: B', a1', c1 - 1, a2, c2, (by first | rfl | (rw [e1]; rfl) | (rw [e2]; rfl)), (by first | rfl | (rw [e1]; rfl) | (rw [e2]; rfl)), hc1', hc2, HP, ra1', rb, by rw [← List.append_assoc]; exact hown4, hw4⟩
        case measure => simp [lenOf]
       ·have HP := Lib.hid (HM.out.right wholeT (by have := zK3 x y; simp; omega));have hd : decide (cmpT x y ≤ 0) = false := by simpa using hxy
        generalize cmpT x y = n at *
        clear hxy HM;obtain ⟨ad1, e1, SA0⟩ := ra.first;have SA := SA0.ee hw2;obtain ⟨ad2, e2, SB0⟩ := rb.first;have SB := SB0.ee hw2;obtain ⟨a2', f2, rb', hc2'⟩ := rb.rest hc2;rw [e2] at f2;obtain ⟨t0, t1, t2, t3, t4, t5⟩ := SA.cells;obtain ⟨s0, s1, s2, s3, s4, s5⟩ := SB.cells;clear rb hc2 SA0 SB0;go_wp2;refine wrt 17 (by kernel_rfl) (by kernel_rfl) ?_;simp only [tK1, tK0, dP1, dP0];repeat (first | (refine zA0 (Eq.refl false) ?_; simp only [Act.put, sT2, sT1, sT0]) | (refine rWalk_step (fun K hK => ?_); go_simp; first | (refine hK _ ?_; clear hK K) | (apply Exists.intro; refine ⟨fun _ => ?_, hK _ ?_⟩; (first | with_reducible exact toExt cc _); clear hK K)))
        refine rWalk_nil ?_;intro w2 hb;have own3 := own2.kept (zA7 hb none) (by cases u4.ownBlock <;> simp);have hw3 := (upB hw2 hb);have hle : (O ++ M).length ≤ 1000000 := HLe.out;clear own2 hw2;clear t0 t1 t2 t3 t4 t5 s0 s1 s2 s3 s4 s5;obtain ⟨zA, q0, q1, q2, q3, q4, q5⟩ := (SB.ee hb).f;have HB := Lib.hid hw3.size;go_wp2_with (at_builtin; refine zB3 rfl _ _ rfl W0.heap.size _ (O ++ M) rfl (own3.alloc _) w2.heap.size y rfl (Box.new rfl) hle (by have := HB.out; simp; omega) ?_; intro w4 v4 hown4 hg4)
        clear zA q0 q1 q2 q3 q4 q5;have hw4 := (hw3.alloc HB.out (.cells (cT y).toArray 43)).grown hg4 (by have := HB.out; simp; omega) (fun k hk => ((own3.alloc (.cells (cT y).toArray 43)).lt k hk).1)
        go_roundw
        case rel => exact ⟨M ++ [y], x :: A', B', a1, c1, a2', c2 - 1, (by first | rfl | (rw [e1]; rfl) | (rw [e2]; rfl)), (by first | rfl | (rw [e1]; rfl) | (rw [e2]; rfl)), hc1, hc2', HP, ra, rb', by rw [← List.append_assoc]; exact hown4, hw4⟩
        case measure => simp [lenOf]
theorem zC6 (a0 : Option Addr) (c0 N : Nat) (L : List Tri3) (hL : Hid (L.length = N)) (hN : N ≤ 1000000) (hc0 : N ≤ c0) (w : World) (h0 : RowAt cT 6 w a0 L) :
    Calls Tryz.prog 53 #[.slice a0 N c0] w fun e w' => ∃ a cap, e = .returned (.slice a N cap) ∧ RowAt cT 6 w' a (srt cmpT L) ∧ Below w.heap.size w w' :=
 (zF7 a0 c0 N L hL hN hc0 w h0).mono fun _ _ h => by
  obtain ⟨a, cap, h1, _, h2⟩ := h;exact ⟨a, cap, h1, h2⟩
end Go.Proofs.YtjkfakaehjmnbaaGreat
