/- Put together: ExU, ExO, ExP, ExQ, ExV, ExW, TrA. -/
import Derived.Test.YtjkfakaehjmnbaaGreatRows
import Derived.Test.YtjkfakaehjmnbaaGreatPmf3
import Derived.Test.YtjkfakaehjmnbaaGreatPmf1
import Derived.Test.YtjkfakaehjmnbaaGreatPmf4
import Derived.WalkKit
import Derived.WalkSpells
import Derived.WalkLawsBesides
import Derived.Laws.Externs
import Derived.Deep.QuietTactic
import Derived.BigQuiet
import Derived.Lib.Hide
import Derived.Handy
import Derived.LoopN
import Derived.RegionTactic
set_option maxRecDepth 100000
set_option maxHeartbeats 8000000
namespace Go.Proofs.YtjkfakaehjmnbaaGreat
open Go.RowKit Go.Sort
attribute [local go_sem] rOper rAt rUpon cell_set sg_i64 sg_u64 alloc_cell alloc_frozen
attribute [local go_sem 10000] pt_eql pt_neq
attribute [local irreducible] rWalk
theorem Box.drew {w : World} {b : Nat} {cs : List Value} {T : TypeId} (h : Box w b cs T) : Box w.drew b cs T := h
theorem rmake_0 (a b c : Pt) (h0 : ori a b c = 0) (w : World) :
    Calls Tryz.prog 47 #[.agg #[.int .i64 a.x, .int .i64 a.y], .agg #[.int .i64 b.x, .int .i64 b.y], .agg #[.int .i64 c.x, .int .i64 c.y]] w fun e w' => e = .returned (.tuple #[.agg #[.int .i64 0, .int .i64 0, .int .i64 0, .int .i64 0, .int .i64 0, .int .i64 0], .bool false]) ∧ Below w.heap.size w w' := by
 have co := zA5 a b c;rw [h0] at co;clear h0
 go_enter Tryz.func47, Tryz.ntmps47
 go_wp2_with fail;refine zA1 fun W1 hW => ?_;obtain ⟨Ba, Bb, Bc, Br, hw⟩ := N4 hW;clear hW;refine (co _).mono ?_;rintro e w2 ⟨rfl, hb⟩;obtain ⟨Ba, Bb, Bc, Br, hw, -⟩ := X4 Ba Bb Bc Br hw hb;clear hb;have Fa := Ba.f;have Fb := Bb.f;have Fc := Bc.f;have Fr := Br.f;go_wp2_with fail;refine bodyPost_ret (v := .tuple #[.agg #[.int .i64 0, .int .i64 0, .int .i64 0, .int .i64 0, .int .i64 0, .int .i64 0], .bool false]) (by simp [results, Tryz.results47, go_sem, Fr]) rfl ⟨rfl, by have hl := hw.size; go_grown⟩
theorem rmake_p0 (a b c : Pt) (h0 : ori a b c = 1) (tba : decide (cmpP b a < 0) = false) (tca : decide (cmpP c a < 0) = false) (w : World) :
    Calls Tryz.prog 47 #[.agg #[.int .i64 a.x, .int .i64 a.y], .agg #[.int .i64 b.x, .int .i64 b.y], .agg #[.int .i64 c.x, .int .i64 c.y]] w fun e w' => e = .returned (.tuple #[.agg #[.int .i64 a.x, .int .i64 a.y, .int .i64 b.x, .int .i64 b.y, .int .i64 c.x, .int .i64 c.y], .bool true]) ∧ Below w.heap.size w w' := by
 have co := zA5 a b c;rw [h0] at co;clear h0;have kba := zAd b a;generalize cmpP b a = nba at *
 have kca := zAd c a;generalize cmpP c a = nca at *
 go_enter Tryz.func47, Tryz.ntmps47
 go_wp2_with fail;refine zA1 fun W1 hW => ?_;obtain ⟨Ba, Bb, Bc, Br, hw⟩ := N4 hW;clear hW;refine (co _).mono ?_;rintro e w2 ⟨rfl, hb⟩;obtain ⟨Ba, Bb, Bc, Br, hw, -⟩ := X4 Ba Bb Bc Br hw hb;clear hb;have Fa := Ba.f;have Fb := Bb.f;have Fc := Bc.f;have Fr := Br.f;go_wp2_with fail;refine zA2 fun W3 hW => ?_;subst hW;clear Fa Fb Fc Fr;refine wp_loop_rounds 4 ?_;try rw [rounds_succ]
 have Fa := Ba.f;have Fb := Bb.f;have Fc := Bc.f;have Fr := Br.f;go_wp2_with fail;refine (kba _).mono ?_;rintro e w4 ⟨rfl, hb⟩;clear Fa Fb Fc Fr;obtain ⟨Ba, Bb, Bc, Br, hw, -⟩ := X4 Ba Bb Bc Br hw hb;clear hb;have Fa := Ba.f;have Fb := Bb.f;have Fc := Bc.f;have Fr := Br.f;go_wp2_with fail;refine (kca _).mono ?_;rintro e w5 ⟨rfl, hb⟩;clear Fa Fb Fc Fr;obtain ⟨Ba, Bb, Bc, Br, hw, -⟩ := X4 Ba Bb Bc Br hw hb;clear hb;have Fa := Ba.f;have Fb := Bb.f;have Fc := Bc.f;have Fr := Br.f;go_wp2_with fail;refine bodyPost_ret (v := .tuple #[.agg #[.int .i64 a.x, .int .i64 a.y, .int .i64 b.x, .int .i64 b.y, .int .i64 c.x, .int .i64 c.y], .bool true]) (by simp [results, Tryz.results47, go_sem, Fr]) rfl ⟨rfl, by have hl := hw.size; go_grown⟩
theorem rmake_p1 (a b c : Pt) (h0 : ori a b c = 1) (tba : decide (cmpP b a < 0) = true) (tcb : decide (cmpP c b < 0) = false) (tab : decide (cmpP a b < 0) = false) (w : World) :
    Calls Tryz.prog 47 #[.agg #[.int .i64 a.x, .int .i64 a.y], .agg #[.int .i64 b.x, .int .i64 b.y], .agg #[.int .i64 c.x, .int .i64 c.y]] w fun e w' => e = .returned (.tuple #[.agg #[.int .i64 b.x, .int .i64 b.y, .int .i64 c.x, .int .i64 c.y, .int .i64 a.x, .int .i64 a.y], .bool true]) ∧ Below w.heap.size w w' := by
 have co := zA5 a b c;rw [h0] at co;clear h0;have kba := zAd b a;generalize cmpP b a = nba at *
 have kcb := zAd c b;generalize cmpP c b = ncb at *
 have kab := zAd a b;generalize cmpP a b = nab at *
 go_enter Tryz.func47, Tryz.ntmps47
 go_wp2_with fail;refine zA1 fun W1 hW => ?_;obtain ⟨Ba, Bb, Bc, Br, hw⟩ := N4 hW;clear hW;refine (co _).mono ?_;rintro e w2 ⟨rfl, hb⟩;obtain ⟨Ba, Bb, Bc, Br, hw, -⟩ := X4 Ba Bb Bc Br hw hb;clear hb;have Fa := Ba.f;have Fb := Bb.f;have Fc := Bc.f;have Fr := Br.f;go_wp2_with fail;refine zA2 fun W3 hW => ?_;subst hW;clear Fa Fb Fc Fr;refine wp_loop_rounds 4 ?_;try rw [rounds_succ]
 have Fa := Ba.f;have Fb := Bb.f;have Fc := Bc.f;have Fr := Br.f;go_wp2_with fail;refine (kba _).mono ?_;rintro e w4 ⟨rfl, hb⟩;clear Fa Fb Fc Fr;obtain ⟨Ba, Bb, Bc, Br, hw, -⟩ := X4 Ba Bb Bc Br hw hb;clear hb;have Fa := Ba.f;have Fb := Bb.f;have Fc := Bc.f;have Fr := Br.f;go_wp2_with fail
 go_region
 go_wp2_with fail;refine zA2 fun W5 hW => ?_;have Ca : Box W5 (w.heap.size) [.int .i64 b.x, .int .i64 b.y] 30 := by rw [hW]; exact (((((((Ba.set 0 (.int .i64 b.x)).set 1 (.int .i64 b.y)).set_ne ⟨w.heap.size + 1, 0, none⟩ (.int .i64 c.x) (by show (w.heap.size + 1 : Nat) ≠ _; omega)).set_ne ⟨w.heap.size + 1, 1, none⟩ (.int .i64 c.y) (by show (w.heap.size + 1 : Nat) ≠ _; omega)).set_ne ⟨w.heap.size + 1 + 1, 0, none⟩ (.int .i64 a.x) (by show (w.heap.size + 1 + 1 : Nat) ≠ _; omega)).set_ne ⟨w.heap.size + 1 + 1, 1, none⟩ (.int .i64 a.y) (by show (w.heap.size + 1 + 1 : Nat) ≠ _; omega))).drew
 have Cb : Box W5 (w.heap.size + 1) [.int .i64 c.x, .int .i64 c.y] 30 := by rw [hW]; exact (((((((Bb.set_ne ⟨w.heap.size, 0, none⟩ (.int .i64 b.x) (by show (w.heap.size : Nat) ≠ _; omega)).set_ne ⟨w.heap.size, 1, none⟩ (.int .i64 b.y) (by show (w.heap.size : Nat) ≠ _; omega)).set 0 (.int .i64 c.x)).set 1 (.int .i64 c.y)).set_ne ⟨w.heap.size + 1 + 1, 0, none⟩ (.int .i64 a.x) (by show (w.heap.size + 1 + 1 : Nat) ≠ _; omega)).set_ne ⟨w.heap.size + 1 + 1, 1, none⟩ (.int .i64 a.y) (by show (w.heap.size + 1 + 1 : Nat) ≠ _; omega))).drew
 have Cc : Box W5 (w.heap.size + 1 + 1) [.int .i64 a.x, .int .i64 a.y] 30 := by rw [hW]; exact (((((((Bc.set_ne ⟨w.heap.size, 0, none⟩ (.int .i64 b.x) (by show (w.heap.size : Nat) ≠ _; omega)).set_ne ⟨w.heap.size, 1, none⟩ (.int .i64 b.y) (by show (w.heap.size : Nat) ≠ _; omega)).set_ne ⟨w.heap.size + 1, 0, none⟩ (.int .i64 c.x) (by show (w.heap.size + 1 : Nat) ≠ _; omega)).set_ne ⟨w.heap.size + 1, 1, none⟩ (.int .i64 c.y) (by show (w.heap.size + 1 : Nat) ≠ _; omega)).set 0 (.int .i64 a.x)).set 1 (.int .i64 a.y))).drew
 have Cr : Box W5 (w.heap.size + 1 + 1 + 1) [.int .i64 0, .int .i64 0, .int .i64 0, .int .i64 0, .int .i64 0, .int .i64 0] 43 := by rw [hW]; exact (((((((Br.set_ne ⟨w.heap.size, 0, none⟩ (.int .i64 b.x) (by show (w.heap.size : Nat) ≠ _; omega)).set_ne ⟨w.heap.size, 1, none⟩ (.int .i64 b.y) (by show (w.heap.size : Nat) ≠ _; omega)).set_ne ⟨w.heap.size + 1, 0, none⟩ (.int .i64 c.x) (by show (w.heap.size + 1 : Nat) ≠ _; omega)).set_ne ⟨w.heap.size + 1, 1, none⟩ (.int .i64 c.y) (by show (w.heap.size + 1 : Nat) ≠ _; omega)).set_ne ⟨w.heap.size + 1 + 1, 0, none⟩ (.int .i64 a.x) (by show (w.heap.size + 1 + 1 : Nat) ≠ _; omega)).set_ne ⟨w.heap.size + 1 + 1, 1, none⟩ (.int .i64 a.y) (by show (w.heap.size + 1 + 1 : Nat) ≠ _; omega))).drew
 replace hw : Below w.heap.size w W5 := by have hl := hw.size; rw [hW]; go_grown
 clear Fa Fb Fc Fr;clear hW Ba Bb Bc Br;have Ba := Ca;have Bb := Cb;have Bc := Cc;have Br := Cr;clear Ca Cb Cc Cr;try rw [rounds_succ]
 have Fa := Ba.f;have Fb := Bb.f;have Fc := Bc.f;have Fr := Br.f;go_wp2_with fail;refine (kcb _).mono ?_;rintro e w6 ⟨rfl, hb⟩;clear Fa Fb Fc Fr;obtain ⟨Ba, Bb, Bc, Br, hw, -⟩ := X4 Ba Bb Bc Br hw hb;clear hb;have Fa := Ba.f;have Fb := Bb.f;have Fc := Bc.f;have Fr := Br.f;go_wp2_with fail;refine (kab _).mono ?_;rintro e w7 ⟨rfl, hb⟩;clear Fa Fb Fc Fr;obtain ⟨Ba, Bb, Bc, Br, hw, -⟩ := X4 Ba Bb Bc Br hw hb;clear hb;have Fa := Ba.f;have Fb := Bb.f;have Fc := Bc.f;have Fr := Br.f;go_wp2_with fail;refine bodyPost_ret (v := .tuple #[.agg #[.int .i64 b.x, .int .i64 b.y, .int .i64 c.x, .int .i64 c.y, .int .i64 a.x, .int .i64 a.y], .bool true]) (by simp [results, Tryz.results47, go_sem, Fr]) rfl ⟨rfl, by have hl := hw.size; go_grown⟩
theorem rmake_p2 (a b c : Pt) (h0 : ori a b c = 1) (tba : decide (cmpP b a < 0) = true) (tcb : decide (cmpP c b < 0) = true) (tac : decide (cmpP a c < 0) = false) (tbc : decide (cmpP b c < 0) = false) (w : World) :
    Calls Tryz.prog 47 #[.agg #[.int .i64 a.x, .int .i64 a.y], .agg #[.int .i64 b.x, .int .i64 b.y], .agg #[.int .i64 c.x, .int .i64 c.y]] w fun e w' => e = .returned (.tuple #[.agg #[.int .i64 c.x, .int .i64 c.y, .int .i64 a.x, .int .i64 a.y, .int .i64 b.x, .int .i64 b.y], .bool true]) ∧ Below w.heap.size w w' := by
 have co := zA5 a b c;rw [h0] at co;clear h0;have kba := zAd b a;generalize cmpP b a = nba at *
 have kcb := zAd c b;generalize cmpP c b = ncb at *
 have kac := zAd a c;generalize cmpP a c = nac at *
 have kbc := zAd b c;generalize cmpP b c = nbc at *
 go_enter Tryz.func47, Tryz.ntmps47
 go_wp2_with fail;refine zA1 fun W1 hW => ?_;obtain ⟨Ba, Bb, Bc, Br, hw⟩ := N4 hW;clear hW;refine (co _).mono ?_;rintro e w2 ⟨rfl, hb⟩;obtain ⟨Ba, Bb, Bc, Br, hw, -⟩ := X4 Ba Bb Bc Br hw hb;clear hb;have Fa := Ba.f;have Fb := Bb.f;have Fc := Bc.f;have Fr := Br.f;go_wp2_with fail;refine zA2 fun W3 hW => ?_;subst hW;clear Fa Fb Fc Fr;refine wp_loop_rounds 4 ?_;try rw [rounds_succ]
 have Fa := Ba.f;have Fb := Bb.f;have Fc := Bc.f;have Fr := Br.f;go_wp2_with fail;refine (kba _).mono ?_;rintro e w4 ⟨rfl, hb⟩;clear Fa Fb Fc Fr;obtain ⟨Ba, Bb, Bc, Br, hw, -⟩ := X4 Ba Bb Bc Br hw hb;clear hb;have Fa := Ba.f;have Fb := Bb.f;have Fc := Bc.f;have Fr := Br.f;go_wp2_with fail
 go_region
 go_wp2_with fail;refine zA2 fun W5 hW => ?_;have Ca : Box W5 (w.heap.size) [.int .i64 b.x, .int .i64 b.y] 30 := by rw [hW]; exact (((((((Ba.set 0 (.int .i64 b.x)).set 1 (.int .i64 b.y)).set_ne ⟨w.heap.size + 1, 0, none⟩ (.int .i64 c.x) (by show (w.heap.size + 1 : Nat) ≠ _; omega)).set_ne ⟨w.heap.size + 1, 1, none⟩ (.int .i64 c.y) (by show (w.heap.size + 1 : Nat) ≠ _; omega)).set_ne ⟨w.heap.size + 1 + 1, 0, none⟩ (.int .i64 a.x) (by show (w.heap.size + 1 + 1 : Nat) ≠ _; omega)).set_ne ⟨w.heap.size + 1 + 1, 1, none⟩ (.int .i64 a.y) (by show (w.heap.size + 1 + 1 : Nat) ≠ _; omega))).drew
 have Cb : Box W5 (w.heap.size + 1) [.int .i64 c.x, .int .i64 c.y] 30 := by rw [hW]; exact (((((((Bb.set_ne ⟨w.heap.size, 0, none⟩ (.int .i64 b.x) (by show (w.heap.size : Nat) ≠ _; omega)).set_ne ⟨w.heap.size, 1, none⟩ (.int .i64 b.y) (by show (w.heap.size : Nat) ≠ _; omega)).set 0 (.int .i64 c.x)).set 1 (.int .i64 c.y)).set_ne ⟨w.heap.size + 1 + 1, 0, none⟩ (.int .i64 a.x) (by show (w.heap.size + 1 + 1 : Nat) ≠ _; omega)).set_ne ⟨w.heap.size + 1 + 1, 1, none⟩ (.int .i64 a.y) (by show (w.heap.size + 1 + 1 : Nat) ≠ _; omega))).drew
 have Cc : Box W5 (w.heap.size + 1 + 1) [.int .i64 a.x, .int .i64 a.y] 30 := by rw [hW]; exact (((((((Bc.set_ne ⟨w.heap.size, 0, none⟩ (.int .i64 b.x) (by show (w.heap.size : Nat) ≠ _; omega)).set_ne ⟨w.heap.size, 1, none⟩ (.int .i64 b.y) (by show (w.heap.size : Nat) ≠ _; omega)).set_ne ⟨w.heap.size + 1, 0, none⟩ (.int .i64 c.x) (by show (w.heap.size + 1 : Nat) ≠ _; omega)).set_ne ⟨w.heap.size + 1, 1, none⟩ (.int .i64 c.y) (by show (w.heap.size + 1 : Nat) ≠ _; omega)).set 0 (.int .i64 a.x)).set 1 (.int .i64 a.y))).drew
 have Cr : Box W5 (w.heap.size + 1 + 1 + 1) [.int .i64 0, .int .i64 0, .int .i64 0, .int .i64 0, .int .i64 0, .int .i64 0] 43 := by rw [hW]; exact (((((((Br.set_ne ⟨w.heap.size, 0, none⟩ (.int .i64 b.x) (by show (w.heap.size : Nat) ≠ _; omega)).set_ne ⟨w.heap.size, 1, none⟩ (.int .i64 b.y) (by show (w.heap.size : Nat) ≠ _; omega)).set_ne ⟨w.heap.size + 1, 0, none⟩ (.int .i64 c.x) (by show (w.heap.size + 1 : Nat) ≠ _; omega)).set_ne ⟨w.heap.size + 1, 1, none⟩ (.int .i64 c.y) (by show (w.heap.size + 1 : Nat) ≠ _; omega)).set_ne ⟨w.heap.size + 1 + 1, 0, none⟩ (.int .i64 a.x) (by show (w.heap.size + 1 + 1 : Nat) ≠ _; omega)).set_ne ⟨w.heap.size + 1 + 1, 1, none⟩ (.int .i64 a.y) (by show (w.heap.size + 1 + 1 : Nat) ≠ _; omega))).drew
 replace hw : Below w.heap.size w W5 := by have hl := hw.size; rw [hW]; go_grown
 clear Fa Fb Fc Fr;clear hW Ba Bb Bc Br;have Ba := Ca;have Bb := Cb;have Bc := Cc;have Br := Cr;clear Ca Cb Cc Cr;try rw [rounds_succ]
 have Fa := Ba.f;have Fb := Bb.f;have Fc := Bc.f;have Fr := Br.f;go_wp2_with fail;refine (kcb _).mono ?_;rintro e w6 ⟨rfl, hb⟩;clear Fa Fb Fc Fr;obtain ⟨Ba, Bb, Bc, Br, hw, -⟩ := X4 Ba Bb Bc Br hw hb;clear hb;have Fa := Ba.f;have Fb := Bb.f;have Fc := Bc.f;have Fr := Br.f;go_wp2_with fail
 go_region
 go_wp2_with fail;refine zA2 fun W7 hW => ?_;have Ca : Box W7 (w.heap.size) [.int .i64 c.x, .int .i64 c.y] 30 := by rw [hW]; exact (((((((Ba.set 0 (.int .i64 c.x)).set 1 (.int .i64 c.y)).set_ne ⟨w.heap.size + 1, 0, none⟩ (.int .i64 a.x) (by show (w.heap.size + 1 : Nat) ≠ _; omega)).set_ne ⟨w.heap.size + 1, 1, none⟩ (.int .i64 a.y) (by show (w.heap.size + 1 : Nat) ≠ _; omega)).set_ne ⟨w.heap.size + 1 + 1, 0, none⟩ (.int .i64 b.x) (by show (w.heap.size + 1 + 1 : Nat) ≠ _; omega)).set_ne ⟨w.heap.size + 1 + 1, 1, none⟩ (.int .i64 b.y) (by show (w.heap.size + 1 + 1 : Nat) ≠ _; omega))).drew
 have Cb : Box W7 (w.heap.size + 1) [.int .i64 a.x, .int .i64 a.y] 30 := by rw [hW]; exact (((((((Bb.set_ne ⟨w.heap.size, 0, none⟩ (.int .i64 c.x) (by show (w.heap.size : Nat) ≠ _; omega)).set_ne ⟨w.heap.size, 1, none⟩ (.int .i64 c.y) (by show (w.heap.size : Nat) ≠ _; omega)).set 0 (.int .i64 a.x)).set 1 (.int .i64 a.y)).set_ne ⟨w.heap.size + 1 + 1, 0, none⟩ (.int .i64 b.x) (by show (w.heap.size + 1 + 1 : Nat) ≠ _; omega)).set_ne ⟨w.heap.size + 1 + 1, 1, none⟩ (.int .i64 b.y) (by show (w.heap.size + 1 + 1 : Nat) ≠ _; omega))).drew
 have Cc : Box W7 (w.heap.size + 1 + 1) [.int .i64 b.x, .int .i64 b.y] 30 := by rw [hW]; exact (((((((Bc.set_ne ⟨w.heap.size, 0, none⟩ (.int .i64 c.x) (by show (w.heap.size : Nat) ≠ _; omega)).set_ne ⟨w.heap.size, 1, none⟩ (.int .i64 c.y) (by show (w.heap.size : Nat) ≠ _; omega)).set_ne ⟨w.heap.size + 1, 0, none⟩ (.int .i64 a.x) (by show (w.heap.size + 1 : Nat) ≠ _; omega)).set_ne ⟨w.heap.size + 1, 1, none⟩ (.int .i64 a.y) (by show (w.heap.size + 1 : Nat) ≠ _; omega)).set 0 (.int .i64 b.x)).set 1 (.int .i64 b.y))).drew
 have Cr : Box W7 (w.heap.size + 1 + 1 + 1) [.int .i64 0, .int .i64 0, .int .i64 0, .int .i64 0, .int .i64 0, .int .i64 0] 43 := by rw [hW]; exact (((((((Br.set_ne ⟨w.heap.size, 0, none⟩ (.int .i64 c.x) (by show (w.heap.size : Nat) ≠ _; omega)).set_ne ⟨w.heap.size, 1, none⟩ (.int .i64 c.y) (by show (w.heap.size : Nat) ≠ _; omega)).set_ne ⟨w.heap.size + 1, 0, none⟩ (.int .i64 a.x) (by show (w.heap.size + 1 : Nat) ≠ _; omega)).set_ne ⟨w.heap.size + 1, 1, none⟩ (.int .i64 a.y) (by show (w.heap.size + 1 : Nat) ≠ _; omega)).set_ne ⟨w.heap.size + 1 + 1, 0, none⟩ (.int .i64 b.x) (by show (w.heap.size + 1 + 1 : Nat) ≠ _; omega)).set_ne ⟨w.heap.size + 1 + 1, 1, none⟩ (.int .i64 b.y) (by show (w.heap.size + 1 + 1 : Nat) ≠ _; omega))).drew
 replace hw : Below w.heap.size w W7 := by have hl := hw.size; rw [hW]; go_grown
 clear Fa Fb Fc Fr;clear hW Ba Bb Bc Br;have Ba := Ca;have Bb := Cb;have Bc := Cc;have Br := Cr;clear Ca Cb Cc Cr;try rw [rounds_succ]
 have Fa := Ba.f;have Fb := Bb.f;have Fc := Bc.f;have Fr := Br.f;go_wp2_with fail;refine (kac _).mono ?_;rintro e w8 ⟨rfl, hb⟩;clear Fa Fb Fc Fr;obtain ⟨Ba, Bb, Bc, Br, hw, -⟩ := X4 Ba Bb Bc Br hw hb;clear hb;have Fa := Ba.f;have Fb := Bb.f;have Fc := Bc.f;have Fr := Br.f;go_wp2_with fail;refine (kbc _).mono ?_;rintro e w9 ⟨rfl, hb⟩;clear Fa Fb Fc Fr;obtain ⟨Ba, Bb, Bc, Br, hw, -⟩ := X4 Ba Bb Bc Br hw hb;clear hb;have Fa := Ba.f;have Fb := Bb.f;have Fc := Bc.f;have Fr := Br.f;go_wp2_with fail;refine bodyPost_ret (v := .tuple #[.agg #[.int .i64 c.x, .int .i64 c.y, .int .i64 a.x, .int .i64 a.y, .int .i64 b.x, .int .i64 b.y], .bool true]) (by simp [results, Tryz.results47, go_sem, Fr]) rfl ⟨rfl, by have hl := hw.size; go_grown⟩
theorem rmake_p3 (a b c : Pt) (h0 : ori a b c = 1) (tba : decide (cmpP b a < 0) = false) (tca : decide (cmpP c a < 0) = true) (tcb : decide (cmpP c b < 0) = true) (tac : decide (cmpP a c < 0) = false) (tbc : decide (cmpP b c < 0) = false) (w : World) :
    Calls Tryz.prog 47 #[.agg #[.int .i64 a.x, .int .i64 a.y], .agg #[.int .i64 b.x, .int .i64 b.y], .agg #[.int .i64 c.x, .int .i64 c.y]] w fun e w' => e = .returned (.tuple #[.agg #[.int .i64 c.x, .int .i64 c.y, .int .i64 a.x, .int .i64 a.y, .int .i64 b.x, .int .i64 b.y], .bool true]) ∧ Below w.heap.size w w' := by
 have co := zA5 a b c;rw [h0] at co;clear h0;have kba := zAd b a;generalize cmpP b a = nba at *
 have kca := zAd c a;generalize cmpP c a = nca at *
 have kcb := zAd c b;generalize cmpP c b = ncb at *
 have kac := zAd a c;generalize cmpP a c = nac at *
 have kbc := zAd b c;generalize cmpP b c = nbc at *
 go_enter Tryz.func47, Tryz.ntmps47
 go_wp2_with fail;refine zA1 fun W1 hW => ?_;obtain ⟨Ba, Bb, Bc, Br, hw⟩ := N4 hW;clear hW;refine (co _).mono ?_;rintro e w2 ⟨rfl, hb⟩;obtain ⟨Ba, Bb, Bc, Br, hw, -⟩ := X4 Ba Bb Bc Br hw hb;clear hb;have Fa := Ba.f;have Fb := Bb.f;have Fc := Bc.f;have Fr := Br.f;go_wp2_with fail;refine zA2 fun W3 hW => ?_;subst hW;clear Fa Fb Fc Fr;refine wp_loop_rounds 4 ?_;try rw [rounds_succ]
 have Fa := Ba.f;have Fb := Bb.f;have Fc := Bc.f;have Fr := Br.f;go_wp2_with fail;refine (kba _).mono ?_;rintro e w4 ⟨rfl, hb⟩;clear Fa Fb Fc Fr;obtain ⟨Ba, Bb, Bc, Br, hw, -⟩ := X4 Ba Bb Bc Br hw hb;clear hb;have Fa := Ba.f;have Fb := Bb.f;have Fc := Bc.f;have Fr := Br.f;go_wp2_with fail;refine (kca _).mono ?_;rintro e w5 ⟨rfl, hb⟩;clear Fa Fb Fc Fr;obtain ⟨Ba, Bb, Bc, Br, hw, -⟩ := X4 Ba Bb Bc Br hw hb;clear hb;have Fa := Ba.f;have Fb := Bb.f;have Fc := Bc.f;have Fr := Br.f;go_wp2_with fail
 go_region
 go_wp2_with fail;refine zA2 fun W6 hW => ?_;have Ca : Box W6 (w.heap.size) [.int .i64 b.x, .int .i64 b.y] 30 := by rw [hW]; exact (((((((Ba.set 0 (.int .i64 b.x)).set 1 (.int .i64 b.y)).set_ne ⟨w.heap.size + 1, 0, none⟩ (.int .i64 c.x) (by show (w.heap.size + 1 : Nat) ≠ _; omega)).set_ne ⟨w.heap.size + 1, 1, none⟩ (.int .i64 c.y) (by show (w.heap.size + 1 : Nat) ≠ _; omega)).set_ne ⟨w.heap.size + 1 + 1, 0, none⟩ (.int .i64 a.x) (by show (w.heap.size + 1 + 1 : Nat) ≠ _; omega)).set_ne ⟨w.heap.size + 1 + 1, 1, none⟩ (.int .i64 a.y) (by show (w.heap.size + 1 + 1 : Nat) ≠ _; omega))).drew
 have Cb : Box W6 (w.heap.size + 1) [.int .i64 c.x, .int .i64 c.y] 30 := by rw [hW]; exact (((((((Bb.set_ne ⟨w.heap.size, 0, none⟩ (.int .i64 b.x) (by show (w.heap.size : Nat) ≠ _; omega)).set_ne ⟨w.heap.size, 1, none⟩ (.int .i64 b.y) (by show (w.heap.size : Nat) ≠ _; omega)).set 0 (.int .i64 c.x)).set 1 (.int .i64 c.y)).set_ne ⟨w.heap.size + 1 + 1, 0, none⟩ (.int .i64 a.x) (by show (w.heap.size + 1 + 1 : Nat) ≠ _; omega)).set_ne ⟨w.heap.size + 1 + 1, 1, none⟩ (.int .i64 a.y) (by show (w.heap.size + 1 + 1 : Nat) ≠ _; omega))).drew
 have Cc : Box W6 (w.heap.size + 1 + 1) [.int .i64 a.x, .int .i64 a.y] 30 := by rw [hW]; exact (((((((Bc.set_ne ⟨w.heap.size, 0, none⟩ (.int .i64 b.x) (by show (w.heap.size : Nat) ≠ _; omega)).set_ne ⟨w.heap.size, 1, none⟩ (.int .i64 b.y) (by show (w.heap.size : Nat) ≠ _; omega)).set_ne ⟨w.heap.size + 1, 0, none⟩ (.int .i64 c.x) (by show (w.heap.size + 1 : Nat) ≠ _; omega)).set_ne ⟨w.heap.size + 1, 1, none⟩ (.int .i64 c.y) (by show (w.heap.size + 1 : Nat) ≠ _; omega)).set 0 (.int .i64 a.x)).set 1 (.int .i64 a.y))).drew
 have Cr : Box W6 (w.heap.size + 1 + 1 + 1) [.int .i64 0, .int .i64 0, .int .i64 0, .int .i64 0, .int .i64 0, .int .i64 0] 43 := by rw [hW]; exact (((((((Br.set_ne ⟨w.heap.size, 0, none⟩ (.int .i64 b.x) (by show (w.heap.size : Nat) ≠ _; omega)).set_ne ⟨w.heap.size, 1, none⟩ (.int .i64 b.y) (by show (w.heap.size : Nat) ≠ _; omega)).set_ne ⟨w.heap.size + 1, 0, none⟩ (.int .i64 c.x) (by show (w.heap.size + 1 : Nat) ≠ _; omega)).set_ne ⟨w.heap.size + 1, 1, none⟩ (.int .i64 c.y) (by show (w.heap.size + 1 : Nat) ≠ _; omega)).set_ne ⟨w.heap.size + 1 + 1, 0, none⟩ (.int .i64 a.x) (by show (w.heap.size + 1 + 1 : Nat) ≠ _; omega)).set_ne ⟨w.heap.size + 1 + 1, 1, none⟩ (.int .i64 a.y) (by show (w.heap.size + 1 + 1 : Nat) ≠ _; omega))).drew
 replace hw : Below w.heap.size w W6 := by have hl := hw.size; rw [hW]; go_grown
 clear Fa Fb Fc Fr;clear hW Ba Bb Bc Br;have Ba := Ca;have Bb := Cb;have Bc := Cc;have Br := Cr;clear Ca Cb Cc Cr;try rw [rounds_succ]
 have Fa := Ba.f;have Fb := Bb.f;have Fc := Bc.f;have Fr := Br.f;go_wp2_with fail;refine (kcb _).mono ?_;rintro e w7 ⟨rfl, hb⟩;clear Fa Fb Fc Fr;obtain ⟨Ba, Bb, Bc, Br, hw, -⟩ := X4 Ba Bb Bc Br hw hb;clear hb;have Fa := Ba.f;have Fb := Bb.f;have Fc := Bc.f;have Fr := Br.f;go_wp2_with fail
 go_region
 go_wp2_with fail;refine zA2 fun W8 hW => ?_;have Ca : Box W8 (w.heap.size) [.int .i64 c.x, .int .i64 c.y] 30 := by rw [hW]; exact (((((((Ba.set 0 (.int .i64 c.x)).set 1 (.int .i64 c.y)).set_ne ⟨w.heap.size + 1, 0, none⟩ (.int .i64 a.x) (by show (w.heap.size + 1 : Nat) ≠ _; omega)).set_ne ⟨w.heap.size + 1, 1, none⟩ (.int .i64 a.y) (by show (w.heap.size + 1 : Nat) ≠ _; omega)).set_ne ⟨w.heap.size + 1 + 1, 0, none⟩ (.int .i64 b.x) (by show (w.heap.size + 1 + 1 : Nat) ≠ _; omega)).set_ne ⟨w.heap.size + 1 + 1, 1, none⟩ (.int .i64 b.y) (by show (w.heap.size + 1 + 1 : Nat) ≠ _; omega))).drew
 have Cb : Box W8 (w.heap.size + 1) [.int .i64 a.x, .int .i64 a.y] 30 := by rw [hW]; exact (((((((Bb.set_ne ⟨w.heap.size, 0, none⟩ (.int .i64 c.x) (by show (w.heap.size : Nat) ≠ _; omega)).set_ne ⟨w.heap.size, 1, none⟩ (.int .i64 c.y) (by show (w.heap.size : Nat) ≠ _; omega)).set 0 (.int .i64 a.x)).set 1 (.int .i64 a.y)).set_ne ⟨w.heap.size + 1 + 1, 0, none⟩ (.int .i64 b.x) (by show (w.heap.size + 1 + 1 : Nat) ≠ _; omega)).set_ne ⟨w.heap.size + 1 + 1, 1, none⟩ (.int .i64 b.y) (by show (w.heap.size + 1 + 1 : Nat) ≠ _; omega))).drew
 have Cc : Box W8 (w.heap.size + 1 + 1) [.int .i64 b.x, .int .i64 b.y] 30 := by rw [hW]; exact (((((((Bc.set_ne ⟨w.heap.size, 0, none⟩ (.int .i64 c.x) (by show (w.heap.size : Nat) ≠ _; omega)).set_ne ⟨w.heap.size, 1, none⟩ (.int .i64 c.y) (by show (w.heap.size : Nat) ≠ _; omega)).set_ne ⟨w.heap.size + 1, 0, none⟩ (.int .i64 a.x) (by show (w.heap.size + 1 : Nat) ≠ _; omega)).set_ne ⟨w.heap.size + 1, 1, none⟩ (.int .i64 a.y) (by show (w.heap.size + 1 : Nat) ≠ _; omega)).set 0 (.int .i64 b.x)).set 1 (.int .i64 b.y))).drew
 have Cr : Box W8 (w.heap.size + 1 + 1 + 1) [.int .i64 0, .int .i64 0, .int .i64 0, .int .i64 0, .int .i64 0, .int .i64 0] 43 := by rw [hW]; exact (((((((Br.set_ne ⟨w.heap.size, 0, none⟩ (.int .i64 c.x) (by show (w.heap.size : Nat) ≠ _; omega)).set_ne ⟨w.heap.size, 1, none⟩ (.int .i64 c.y) (by show (w.heap.size : Nat) ≠ _; omega)).set_ne ⟨w.heap.size + 1, 0, none⟩ (.int .i64 a.x) (by show (w.heap.size + 1 : Nat) ≠ _; omega)).set_ne ⟨w.heap.size + 1, 1, none⟩ (.int .i64 a.y) (by show (w.heap.size + 1 : Nat) ≠ _; omega)).set_ne ⟨w.heap.size + 1 + 1, 0, none⟩ (.int .i64 b.x) (by show (w.heap.size + 1 + 1 : Nat) ≠ _; omega)).set_ne ⟨w.heap.size + 1 + 1, 1, none⟩ (.int .i64 b.y) (by show (w.heap.size + 1 + 1 : Nat) ≠ _; omega))).drew
 replace hw : Below w.heap.size w W8 := by have hl := hw.size; rw [hW]; go_grown
 clear Fa Fb Fc Fr;clear hW Ba Bb Bc Br;have Ba := Ca;have Bb := Cb;have Bc := Cc;have Br := Cr;clear Ca Cb Cc Cr;try rw [rounds_succ]
 have Fa := Ba.f;have Fb := Bb.f;have Fc := Bc.f;have Fr := Br.f;go_wp2_with fail;refine (kac _).mono ?_;rintro e w9 ⟨rfl, hb⟩;clear Fa Fb Fc Fr;obtain ⟨Ba, Bb, Bc, Br, hw, -⟩ := X4 Ba Bb Bc Br hw hb;clear hb;have Fa := Ba.f;have Fb := Bb.f;have Fc := Bc.f;have Fr := Br.f;go_wp2_with fail;refine (kbc _).mono ?_;rintro e w10 ⟨rfl, hb⟩;clear Fa Fb Fc Fr;obtain ⟨Ba, Bb, Bc, Br, hw, -⟩ := X4 Ba Bb Bc Br hw hb;clear hb;have Fa := Ba.f;have Fb := Bb.f;have Fc := Bc.f;have Fr := Br.f;go_wp2_with fail;refine bodyPost_ret (v := .tuple #[.agg #[.int .i64 c.x, .int .i64 c.y, .int .i64 a.x, .int .i64 a.y, .int .i64 b.x, .int .i64 b.y], .bool true]) (by simp [results, Tryz.results47, go_sem, Fr]) rfl ⟨rfl, by have hl := hw.size; go_grown⟩
theorem rmake_n0 (a b c : Pt) (h0 : ori a b c = -1) (tca : decide (cmpP c a < 0) = false) (tba : decide (cmpP b a < 0) = false) (w : World) :
    Calls Tryz.prog 47 #[.agg #[.int .i64 a.x, .int .i64 a.y], .agg #[.int .i64 b.x, .int .i64 b.y], .agg #[.int .i64 c.x, .int .i64 c.y]] w fun e w' => e = .returned (.tuple #[.agg #[.int .i64 a.x, .int .i64 a.y, .int .i64 c.x, .int .i64 c.y, .int .i64 b.x, .int .i64 b.y], .bool true]) ∧ Below w.heap.size w w' := by
 have co := zA5 a b c;rw [h0] at co;clear h0;have kca := zAd c a;generalize cmpP c a = nca at *
 have kba := zAd b a;generalize cmpP b a = nba at *
 go_enter Tryz.func47, Tryz.ntmps47
 go_wp2_with fail;refine zA1 fun W1 hW => ?_;obtain ⟨Ba, Bb, Bc, Br, hw⟩ := N4 hW;clear hW;refine (co _).mono ?_;rintro e w2 ⟨rfl, hb⟩;obtain ⟨Ba, Bb, Bc, Br, hw, -⟩ := X4 Ba Bb Bc Br hw hb;clear hb;have Fa := Ba.f;have Fb := Bb.f;have Fc := Bc.f;have Fr := Br.f;go_wp2_with fail;refine zA2 fun W3 hW => ?_;have Ca : Box W3 (w.heap.size) [.int .i64 a.x, .int .i64 a.y] 30 := by rw [hW]; exact ((((Ba.set_ne ⟨w.heap.size + 1, 0, none⟩ (.int .i64 c.x) (by show (w.heap.size + 1 : Nat) ≠ _; omega)).set_ne ⟨w.heap.size + 1, 1, none⟩ (.int .i64 c.y) (by show (w.heap.size + 1 : Nat) ≠ _; omega)).set_ne ⟨w.heap.size + 1 + 1, 0, none⟩ (.int .i64 b.x) (by show (w.heap.size + 1 + 1 : Nat) ≠ _; omega)).set_ne ⟨w.heap.size + 1 + 1, 1, none⟩ (.int .i64 b.y) (by show (w.heap.size + 1 + 1 : Nat) ≠ _; omega))
 have Cb : Box W3 (w.heap.size + 1) [.int .i64 c.x, .int .i64 c.y] 30 := by rw [hW]; exact ((((Bb.set 0 (.int .i64 c.x)).set 1 (.int .i64 c.y)).set_ne ⟨w.heap.size + 1 + 1, 0, none⟩ (.int .i64 b.x) (by show (w.heap.size + 1 + 1 : Nat) ≠ _; omega)).set_ne ⟨w.heap.size + 1 + 1, 1, none⟩ (.int .i64 b.y) (by show (w.heap.size + 1 + 1 : Nat) ≠ _; omega))
 have Cc : Box W3 (w.heap.size + 1 + 1) [.int .i64 b.x, .int .i64 b.y] 30 := by rw [hW]; exact ((((Bc.set_ne ⟨w.heap.size + 1, 0, none⟩ (.int .i64 c.x) (by show (w.heap.size + 1 : Nat) ≠ _; omega)).set_ne ⟨w.heap.size + 1, 1, none⟩ (.int .i64 c.y) (by show (w.heap.size + 1 : Nat) ≠ _; omega)).set 0 (.int .i64 b.x)).set 1 (.int .i64 b.y))
 have Cr : Box W3 (w.heap.size + 1 + 1 + 1) [.int .i64 0, .int .i64 0, .int .i64 0, .int .i64 0, .int .i64 0, .int .i64 0] 43 := by rw [hW]; exact ((((Br.set_ne ⟨w.heap.size + 1, 0, none⟩ (.int .i64 c.x) (by show (w.heap.size + 1 : Nat) ≠ _; omega)).set_ne ⟨w.heap.size + 1, 1, none⟩ (.int .i64 c.y) (by show (w.heap.size + 1 : Nat) ≠ _; omega)).set_ne ⟨w.heap.size + 1 + 1, 0, none⟩ (.int .i64 b.x) (by show (w.heap.size + 1 + 1 : Nat) ≠ _; omega)).set_ne ⟨w.heap.size + 1 + 1, 1, none⟩ (.int .i64 b.y) (by show (w.heap.size + 1 + 1 : Nat) ≠ _; omega))
 replace hw : Below w.heap.size w W3 := by have hl := hw.size; rw [hW]; go_grown
 clear Fa Fb Fc Fr;clear hW Ba Bb Bc Br;have Ba := Ca;have Bb := Cb;have Bc := Cc;have Br := Cr;clear Ca Cb Cc Cr;refine wp_loop_rounds 4 ?_;try rw [rounds_succ]
 have Fa := Ba.f;have Fb := Bb.f;have Fc := Bc.f;have Fr := Br.f;go_wp2_with fail;refine (kca _).mono ?_;rintro e w4 ⟨rfl, hb⟩;clear Fa Fb Fc Fr;obtain ⟨Ba, Bb, Bc, Br, hw, -⟩ := X4 Ba Bb Bc Br hw hb;clear hb;have Fa := Ba.f;have Fb := Bb.f;have Fc := Bc.f;have Fr := Br.f;go_wp2_with fail;refine (kba _).mono ?_;rintro e w5 ⟨rfl, hb⟩;clear Fa Fb Fc Fr;obtain ⟨Ba, Bb, Bc, Br, hw, -⟩ := X4 Ba Bb Bc Br hw hb;clear hb;have Fa := Ba.f;have Fb := Bb.f;have Fc := Bc.f;have Fr := Br.f;go_wp2_with fail;refine bodyPost_ret (v := .tuple #[.agg #[.int .i64 a.x, .int .i64 a.y, .int .i64 c.x, .int .i64 c.y, .int .i64 b.x, .int .i64 b.y], .bool true]) (by simp [results, Tryz.results47, go_sem, Fr]) rfl ⟨rfl, by have hl := hw.size; go_grown⟩
theorem rmake_n1 (a b c : Pt) (h0 : ori a b c = -1) (tca : decide (cmpP c a < 0) = true) (tbc : decide (cmpP b c < 0) = false) (tac : decide (cmpP a c < 0) = false) (w : World) :
    Calls Tryz.prog 47 #[.agg #[.int .i64 a.x, .int .i64 a.y], .agg #[.int .i64 b.x, .int .i64 b.y], .agg #[.int .i64 c.x, .int .i64 c.y]] w fun e w' => e = .returned (.tuple #[.agg #[.int .i64 c.x, .int .i64 c.y, .int .i64 b.x, .int .i64 b.y, .int .i64 a.x, .int .i64 a.y], .bool true]) ∧ Below w.heap.size w w' := by
 have co := zA5 a b c;rw [h0] at co;clear h0;have kca := zAd c a;generalize cmpP c a = nca at *
 have kbc := zAd b c;generalize cmpP b c = nbc at *
 have kac := zAd a c;generalize cmpP a c = nac at *
 go_enter Tryz.func47, Tryz.ntmps47
 go_wp2_with fail;refine zA1 fun W1 hW => ?_;obtain ⟨Ba, Bb, Bc, Br, hw⟩ := N4 hW;clear hW;refine (co _).mono ?_;rintro e w2 ⟨rfl, hb⟩;obtain ⟨Ba, Bb, Bc, Br, hw, -⟩ := X4 Ba Bb Bc Br hw hb;clear hb;have Fa := Ba.f;have Fb := Bb.f;have Fc := Bc.f;have Fr := Br.f;go_wp2_with fail;refine zA2 fun W3 hW => ?_;have Ca : Box W3 (w.heap.size) [.int .i64 a.x, .int .i64 a.y] 30 := by rw [hW]; exact ((((Ba.set_ne ⟨w.heap.size + 1, 0, none⟩ (.int .i64 c.x) (by show (w.heap.size + 1 : Nat) ≠ _; omega)).set_ne ⟨w.heap.size + 1, 1, none⟩ (.int .i64 c.y) (by show (w.heap.size + 1 : Nat) ≠ _; omega)).set_ne ⟨w.heap.size + 1 + 1, 0, none⟩ (.int .i64 b.x) (by show (w.heap.size + 1 + 1 : Nat) ≠ _; omega)).set_ne ⟨w.heap.size + 1 + 1, 1, none⟩ (.int .i64 b.y) (by show (w.heap.size + 1 + 1 : Nat) ≠ _; omega))
 have Cb : Box W3 (w.heap.size + 1) [.int .i64 c.x, .int .i64 c.y] 30 := by rw [hW]; exact ((((Bb.set 0 (.int .i64 c.x)).set 1 (.int .i64 c.y)).set_ne ⟨w.heap.size + 1 + 1, 0, none⟩ (.int .i64 b.x) (by show (w.heap.size + 1 + 1 : Nat) ≠ _; omega)).set_ne ⟨w.heap.size + 1 + 1, 1, none⟩ (.int .i64 b.y) (by show (w.heap.size + 1 + 1 : Nat) ≠ _; omega))
 have Cc : Box W3 (w.heap.size + 1 + 1) [.int .i64 b.x, .int .i64 b.y] 30 := by rw [hW]; exact ((((Bc.set_ne ⟨w.heap.size + 1, 0, none⟩ (.int .i64 c.x) (by show (w.heap.size + 1 : Nat) ≠ _; omega)).set_ne ⟨w.heap.size + 1, 1, none⟩ (.int .i64 c.y) (by show (w.heap.size + 1 : Nat) ≠ _; omega)).set 0 (.int .i64 b.x)).set 1 (.int .i64 b.y))
 have Cr : Box W3 (w.heap.size + 1 + 1 + 1) [.int .i64 0, .int .i64 0, .int .i64 0, .int .i64 0, .int .i64 0, .int .i64 0] 43 := by rw [hW]; exact ((((Br.set_ne ⟨w.heap.size + 1, 0, none⟩ (.int .i64 c.x) (by show (w.heap.size + 1 : Nat) ≠ _; omega)).set_ne ⟨w.heap.size + 1, 1, none⟩ (.int .i64 c.y) (by show (w.heap.size + 1 : Nat) ≠ _; omega)).set_ne ⟨w.heap.size + 1 + 1, 0, none⟩ (.int .i64 b.x) (by show (w.heap.size + 1 + 1 : Nat) ≠ _; omega)).set_ne ⟨w.heap.size + 1 + 1, 1, none⟩ (.int .i64 b.y) (by show (w.heap.size + 1 + 1 : Nat) ≠ _; omega))
 replace hw : Below w.heap.size w W3 := by have hl := hw.size; rw [hW]; go_grown
 clear Fa Fb Fc Fr;clear hW Ba Bb Bc Br;have Ba := Ca;have Bb := Cb;have Bc := Cc;have Br := Cr;clear Ca Cb Cc Cr;refine wp_loop_rounds 4 ?_;try rw [rounds_succ]
 have Fa := Ba.f;have Fb := Bb.f;have Fc := Bc.f;have Fr := Br.f;go_wp2_with fail;refine (kca _).mono ?_;rintro e w4 ⟨rfl, hb⟩;clear Fa Fb Fc Fr;obtain ⟨Ba, Bb, Bc, Br, hw, -⟩ := X4 Ba Bb Bc Br hw hb;clear hb;have Fa := Ba.f;have Fb := Bb.f;have Fc := Bc.f;have Fr := Br.f;go_wp2_with fail
 go_region
 go_wp2_with fail;refine zA2 fun W5 hW => ?_;have Ca : Box W5 (w.heap.size) [.int .i64 c.x, .int .i64 c.y] 30 := by rw [hW]; exact (((((((Ba.set 0 (.int .i64 c.x)).set 1 (.int .i64 c.y)).set_ne ⟨w.heap.size + 1, 0, none⟩ (.int .i64 b.x) (by show (w.heap.size + 1 : Nat) ≠ _; omega)).set_ne ⟨w.heap.size + 1, 1, none⟩ (.int .i64 b.y) (by show (w.heap.size + 1 : Nat) ≠ _; omega)).set_ne ⟨w.heap.size + 1 + 1, 0, none⟩ (.int .i64 a.x) (by show (w.heap.size + 1 + 1 : Nat) ≠ _; omega)).set_ne ⟨w.heap.size + 1 + 1, 1, none⟩ (.int .i64 a.y) (by show (w.heap.size + 1 + 1 : Nat) ≠ _; omega))).drew
 have Cb : Box W5 (w.heap.size + 1) [.int .i64 b.x, .int .i64 b.y] 30 := by rw [hW]; exact (((((((Bb.set_ne ⟨w.heap.size, 0, none⟩ (.int .i64 c.x) (by show (w.heap.size : Nat) ≠ _; omega)).set_ne ⟨w.heap.size, 1, none⟩ (.int .i64 c.y) (by show (w.heap.size : Nat) ≠ _; omega)).set 0 (.int .i64 b.x)).set 1 (.int .i64 b.y)).set_ne ⟨w.heap.size + 1 + 1, 0, none⟩ (.int .i64 a.x) (by show (w.heap.size + 1 + 1 : Nat) ≠ _; omega)).set_ne ⟨w.heap.size + 1 + 1, 1, none⟩ (.int .i64 a.y) (by show (w.heap.size + 1 + 1 : Nat) ≠ _; omega))).drew
 have Cc : Box W5 (w.heap.size + 1 + 1) [.int .i64 a.x, .int .i64 a.y] 30 := by rw [hW]; exact (((((((Bc.set_ne ⟨w.heap.size, 0, none⟩ (.int .i64 c.x) (by show (w.heap.size : Nat) ≠ _; omega)).set_ne ⟨w.heap.size, 1, none⟩ (.int .i64 c.y) (by show (w.heap.size : Nat) ≠ _; omega)).set_ne ⟨w.heap.size + 1, 0, none⟩ (.int .i64 b.x) (by show (w.heap.size + 1 : Nat) ≠ _; omega)).set_ne ⟨w.heap.size + 1, 1, none⟩ (.int .i64 b.y) (by show (w.heap.size + 1 : Nat) ≠ _; omega)).set 0 (.int .i64 a.x)).set 1 (.int .i64 a.y))).drew
 have Cr : Box W5 (w.heap.size + 1 + 1 + 1) [.int .i64 0, .int .i64 0, .int .i64 0, .int .i64 0, .int .i64 0, .int .i64 0] 43 := by rw [hW]; exact (((((((Br.set_ne ⟨w.heap.size, 0, none⟩ (.int .i64 c.x) (by show (w.heap.size : Nat) ≠ _; omega)).set_ne ⟨w.heap.size, 1, none⟩ (.int .i64 c.y) (by show (w.heap.size : Nat) ≠ _; omega)).set_ne ⟨w.heap.size + 1, 0, none⟩ (.int .i64 b.x) (by show (w.heap.size + 1 : Nat) ≠ _; omega)).set_ne ⟨w.heap.size + 1, 1, none⟩ (.int .i64 b.y) (by show (w.heap.size + 1 : Nat) ≠ _; omega)).set_ne ⟨w.heap.size + 1 + 1, 0, none⟩ (.int .i64 a.x) (by show (w.heap.size + 1 + 1 : Nat) ≠ _; omega)).set_ne ⟨w.heap.size + 1 + 1, 1, none⟩ (.int .i64 a.y) (by show (w.heap.size + 1 + 1 : Nat) ≠ _; omega))).drew
 replace hw : Below w.heap.size w W5 := by have hl := hw.size; rw [hW]; go_grown
 clear Fa Fb Fc Fr;clear hW Ba Bb Bc Br;have Ba := Ca;have Bb := Cb;have Bc := Cc;have Br := Cr;clear Ca Cb Cc Cr;try rw [rounds_succ]
 have Fa := Ba.f;have Fb := Bb.f;have Fc := Bc.f;have Fr := Br.f;go_wp2_with fail;refine (kbc _).mono ?_;rintro e w6 ⟨rfl, hb⟩;clear Fa Fb Fc Fr;obtain ⟨Ba, Bb, Bc, Br, hw, -⟩ := X4 Ba Bb Bc Br hw hb;clear hb;have Fa := Ba.f;have Fb := Bb.f;have Fc := Bc.f;have Fr := Br.f;go_wp2_with fail;refine (kac _).mono ?_;rintro e w7 ⟨rfl, hb⟩;clear Fa Fb Fc Fr;obtain ⟨Ba, Bb, Bc, Br, hw, -⟩ := X4 Ba Bb Bc Br hw hb;clear hb;have Fa := Ba.f;have Fb := Bb.f;have Fc := Bc.f;have Fr := Br.f;go_wp2_with fail;refine bodyPost_ret (v := .tuple #[.agg #[.int .i64 c.x, .int .i64 c.y, .int .i64 b.x, .int .i64 b.y, .int .i64 a.x, .int .i64 a.y], .bool true]) (by simp [results, Tryz.results47, go_sem, Fr]) rfl ⟨rfl, by have hl := hw.size; go_grown⟩
theorem rmake_n2 (a b c : Pt) (h0 : ori a b c = -1) (tca : decide (cmpP c a < 0) = true) (tbc : decide (cmpP b c < 0) = true) (tab : decide (cmpP a b < 0) = false) (tcb : decide (cmpP c b < 0) = false) (w : World) :
    Calls Tryz.prog 47 #[.agg #[.int .i64 a.x, .int .i64 a.y], .agg #[.int .i64 b.x, .int .i64 b.y], .agg #[.int .i64 c.x, .int .i64 c.y]] w fun e w' => e = .returned (.tuple #[.agg #[.int .i64 b.x, .int .i64 b.y, .int .i64 a.x, .int .i64 a.y, .int .i64 c.x, .int .i64 c.y], .bool true]) ∧ Below w.heap.size w w' := by
 have co := zA5 a b c;rw [h0] at co;clear h0;have kca := zAd c a;generalize cmpP c a = nca at *
 have kbc := zAd b c;generalize cmpP b c = nbc at *
 have kab := zAd a b;generalize cmpP a b = nab at *
 have kcb := zAd c b;generalize cmpP c b = ncb at *
 go_enter Tryz.func47, Tryz.ntmps47
 go_wp2_with fail;refine zA1 fun W1 hW => ?_;obtain ⟨Ba, Bb, Bc, Br, hw⟩ := N4 hW;clear hW;refine (co _).mono ?_;rintro e w2 ⟨rfl, hb⟩;obtain ⟨Ba, Bb, Bc, Br, hw, -⟩ := X4 Ba Bb Bc Br hw hb;clear hb;have Fa := Ba.f;have Fb := Bb.f;have Fc := Bc.f;have Fr := Br.f;go_wp2_with fail;refine zA2 fun W3 hW => ?_;have Ca : Box W3 (w.heap.size) [.int .i64 a.x, .int .i64 a.y] 30 := by rw [hW]; exact ((((Ba.set_ne ⟨w.heap.size + 1, 0, none⟩ (.int .i64 c.x) (by show (w.heap.size + 1 : Nat) ≠ _; omega)).set_ne ⟨w.heap.size + 1, 1, none⟩ (.int .i64 c.y) (by show (w.heap.size + 1 : Nat) ≠ _; omega)).set_ne ⟨w.heap.size + 1 + 1, 0, none⟩ (.int .i64 b.x) (by show (w.heap.size + 1 + 1 : Nat) ≠ _; omega)).set_ne ⟨w.heap.size + 1 + 1, 1, none⟩ (.int .i64 b.y) (by show (w.heap.size + 1 + 1 : Nat) ≠ _; omega))
 have Cb : Box W3 (w.heap.size + 1) [.int .i64 c.x, .int .i64 c.y] 30 := by rw [hW]; exact ((((Bb.set 0 (.int .i64 c.x)).set 1 (.int .i64 c.y)).set_ne ⟨w.heap.size + 1 + 1, 0, none⟩ (.int .i64 b.x) (by show (w.heap.size + 1 + 1 : Nat) ≠ _; omega)).set_ne ⟨w.heap.size + 1 + 1, 1, none⟩ (.int .i64 b.y) (by show (w.heap.size + 1 + 1 : Nat) ≠ _; omega))
 have Cc : Box W3 (w.heap.size + 1 + 1) [.int .i64 b.x, .int .i64 b.y] 30 := by rw [hW]; exact ((((Bc.set_ne ⟨w.heap.size + 1, 0, none⟩ (.int .i64 c.x) (by show (w.heap.size + 1 : Nat) ≠ _; omega)).set_ne ⟨w.heap.size + 1, 1, none⟩ (.int .i64 c.y) (by show (w.heap.size + 1 : Nat) ≠ _; omega)).set 0 (.int .i64 b.x)).set 1 (.int .i64 b.y))
 have Cr : Box W3 (w.heap.size + 1 + 1 + 1) [.int .i64 0, .int .i64 0, .int .i64 0, .int .i64 0, .int .i64 0, .int .i64 0] 43 := by rw [hW]; exact ((((Br.set_ne ⟨w.heap.size + 1, 0, none⟩ (.int .i64 c.x) (by show (w.heap.size + 1 : Nat) ≠ _; omega)).set_ne ⟨w.heap.size + 1, 1, none⟩ (.int .i64 c.y) (by show (w.heap.size + 1 : Nat) ≠ _; omega)).set_ne ⟨w.heap.size + 1 + 1, 0, none⟩ (.int .i64 b.x) (by show (w.heap.size + 1 + 1 : Nat) ≠ _; omega)).set_ne ⟨w.heap.size + 1 + 1, 1, none⟩ (.int .i64 b.y) (by show (w.heap.size + 1 + 1 : Nat) ≠ _; omega))
 replace hw : Below w.heap.size w W3 := by have hl := hw.size; rw [hW]; go_grown
 clear Fa Fb Fc Fr;clear hW Ba Bb Bc Br;have Ba := Ca;have Bb := Cb;have Bc := Cc;have Br := Cr;clear Ca Cb Cc Cr;refine wp_loop_rounds 4 ?_;try rw [rounds_succ]
 have Fa := Ba.f;have Fb := Bb.f;have Fc := Bc.f;have Fr := Br.f;go_wp2_with fail;refine (kca _).mono ?_;rintro e w4 ⟨rfl, hb⟩;clear Fa Fb Fc Fr;obtain ⟨Ba, Bb, Bc, Br, hw, -⟩ := X4 Ba Bb Bc Br hw hb;clear hb;have Fa := Ba.f;have Fb := Bb.f;have Fc := Bc.f;have Fr := Br.f;go_wp2_with fail
 go_region
 go_wp2_with fail;refine zA2 fun W5 hW => ?_;have Ca : Box W5 (w.heap.size) [.int .i64 c.x, .int .i64 c.y] 30 := by rw [hW]; exact (((((((Ba.set 0 (.int .i64 c.x)).set 1 (.int .i64 c.y)).set_ne ⟨w.heap.size + 1, 0, none⟩ (.int .i64 b.x) (by show (w.heap.size + 1 : Nat) ≠ _; omega)).set_ne ⟨w.heap.size + 1, 1, none⟩ (.int .i64 b.y) (by show (w.heap.size + 1 : Nat) ≠ _; omega)).set_ne ⟨w.heap.size + 1 + 1, 0, none⟩ (.int .i64 a.x) (by show (w.heap.size + 1 + 1 : Nat) ≠ _; omega)).set_ne ⟨w.heap.size + 1 + 1, 1, none⟩ (.int .i64 a.y) (by show (w.heap.size + 1 + 1 : Nat) ≠ _; omega))).drew
 have Cb : Box W5 (w.heap.size + 1) [.int .i64 b.x, .int .i64 b.y] 30 := by rw [hW]; exact (((((((Bb.set_ne ⟨w.heap.size, 0, none⟩ (.int .i64 c.x) (by show (w.heap.size : Nat) ≠ _; omega)).set_ne ⟨w.heap.size, 1, none⟩ (.int .i64 c.y) (by show (w.heap.size : Nat) ≠ _; omega)).set 0 (.int .i64 b.x)).set 1 (.int .i64 b.y)).set_ne ⟨w.heap.size + 1 + 1, 0, none⟩ (.int .i64 a.x) (by show (w.heap.size + 1 + 1 : Nat) ≠ _; omega)).set_ne ⟨w.heap.size + 1 + 1, 1, none⟩ (.int .i64 a.y) (by show (w.heap.size + 1 + 1 : Nat) ≠ _; omega))).drew
 have Cc : Box W5 (w.heap.size + 1 + 1) [.int .i64 a.x, .int .i64 a.y] 30 := by rw [hW]; exact (((((((Bc.set_ne ⟨w.heap.size, 0, none⟩ (.int .i64 c.x) (by show (w.heap.size : Nat) ≠ _; omega)).set_ne ⟨w.heap.size, 1, none⟩ (.int .i64 c.y) (by show (w.heap.size : Nat) ≠ _; omega)).set_ne ⟨w.heap.size + 1, 0, none⟩ (.int .i64 b.x) (by show (w.heap.size + 1 : Nat) ≠ _; omega)).set_ne ⟨w.heap.size + 1, 1, none⟩ (.int .i64 b.y) (by show (w.heap.size + 1 : Nat) ≠ _; omega)).set 0 (.int .i64 a.x)).set 1 (.int .i64 a.y))).drew
 have Cr : Box W5 (w.heap.size + 1 + 1 + 1) [.int .i64 0, .int .i64 0, .int .i64 0, .int .i64 0, .int .i64 0, .int .i64 0] 43 := by rw [hW]; exact (((((((Br.set_ne ⟨w.heap.size, 0, none⟩ (.int .i64 c.x) (by show (w.heap.size : Nat) ≠ _; omega)).set_ne ⟨w.heap.size, 1, none⟩ (.int .i64 c.y) (by show (w.heap.size : Nat) ≠ _; omega)).set_ne ⟨w.heap.size + 1, 0, none⟩ (.int .i64 b.x) (by show (w.heap.size + 1 : Nat) ≠ _; omega)).set_ne ⟨w.heap.size + 1, 1, none⟩ (.int .i64 b.y) (by show (w.heap.size + 1 : Nat) ≠ _; omega)).set_ne ⟨w.heap.size + 1 + 1, 0, none⟩ (.int .i64 a.x) (by show (w.heap.size + 1 + 1 : Nat) ≠ _; omega)).set_ne ⟨w.heap.size + 1 + 1, 1, none⟩ (.int .i64 a.y) (by show (w.heap.size + 1 + 1 : Nat) ≠ _; omega))).drew
 replace hw : Below w.heap.size w W5 := by have hl := hw.size; rw [hW]; go_grown
 clear Fa Fb Fc Fr;clear hW Ba Bb Bc Br;have Ba := Ca;have Bb := Cb;have Bc := Cc;have Br := Cr;clear Ca Cb Cc Cr;try rw [rounds_succ]
 have Fa := Ba.f;have Fb := Bb.f;have Fc := Bc.f;have Fr := Br.f;go_wp2_with fail;refine (kbc _).mono ?_;rintro e w6 ⟨rfl, hb⟩;clear Fa Fb Fc Fr;obtain ⟨Ba, Bb, Bc, Br, hw, -⟩ := X4 Ba Bb Bc Br hw hb;clear hb;have Fa := Ba.f;have Fb := Bb.f;have Fc := Bc.f;have Fr := Br.f;go_wp2_with fail
 go_region
 go_wp2_with fail;refine zA2 fun W7 hW => ?_;have Ca : Box W7 (w.heap.size) [.int .i64 b.x, .int .i64 b.y] 30 := by rw [hW]; exact (((((((Ba.set 0 (.int .i64 b.x)).set 1 (.int .i64 b.y)).set_ne ⟨w.heap.size + 1, 0, none⟩ (.int .i64 a.x) (by show (w.heap.size + 1 : Nat) ≠ _; omega)).set_ne ⟨w.heap.size + 1, 1, none⟩ (.int .i64 a.y) (by show (w.heap.size + 1 : Nat) ≠ _; omega)).set_ne ⟨w.heap.size + 1 + 1, 0, none⟩ (.int .i64 c.x) (by show (w.heap.size + 1 + 1 : Nat) ≠ _; omega)).set_ne ⟨w.heap.size + 1 + 1, 1, none⟩ (.int .i64 c.y) (by show (w.heap.size + 1 + 1 : Nat) ≠ _; omega))).drew
 have Cb : Box W7 (w.heap.size + 1) [.int .i64 a.x, .int .i64 a.y] 30 := by rw [hW]; exact (((((((Bb.set_ne ⟨w.heap.size, 0, none⟩ (.int .i64 b.x) (by show (w.heap.size : Nat) ≠ _; omega)).set_ne ⟨w.heap.size, 1, none⟩ (.int .i64 b.y) (by show (w.heap.size : Nat) ≠ _; omega)).set 0 (.int .i64 a.x)).set 1 (.int .i64 a.y)).set_ne ⟨w.heap.size + 1 + 1, 0, none⟩ (.int .i64 c.x) (by show (w.heap.size + 1 + 1 : Nat) ≠ _; omega)).set_ne ⟨w.heap.size + 1 + 1, 1, none⟩ (.int .i64 c.y) (by show (w.heap.size + 1 + 1 : Nat) ≠ _; omega))).drew
 have Cc : Box W7 (w.heap.size + 1 + 1) [.int .i64 c.x, .int .i64 c.y] 30 := by rw [hW]; exact (((((((Bc.set_ne ⟨w.heap.size, 0, none⟩ (.int .i64 b.x) (by show (w.heap.size : Nat) ≠ _; omega)).set_ne ⟨w.heap.size, 1, none⟩ (.int .i64 b.y) (by show (w.heap.size : Nat) ≠ _; omega)).set_ne ⟨w.heap.size + 1, 0, none⟩ (.int .i64 a.x) (by show (w.heap.size + 1 : Nat) ≠ _; omega)).set_ne ⟨w.heap.size + 1, 1, none⟩ (.int .i64 a.y) (by show (w.heap.size + 1 : Nat) ≠ _; omega)).set 0 (.int .i64 c.x)).set 1 (.int .i64 c.y))).drew
 have Cr : Box W7 (w.heap.size + 1 + 1 + 1) [.int .i64 0, .int .i64 0, .int .i64 0, .int .i64 0, .int .i64 0, .int .i64 0] 43 := by rw [hW]; exact (((((((Br.set_ne ⟨w.heap.size, 0, none⟩ (.int .i64 b.x) (by show (w.heap.size : Nat) ≠ _; omega)).set_ne ⟨w.heap.size, 1, none⟩ (.int .i64 b.y) (by show (w.heap.size : Nat) ≠ _; omega)).set_ne ⟨w.heap.size + 1, 0, none⟩ (.int .i64 a.x) (by show (w.heap.size + 1 : Nat) ≠ _; omega)).set_ne ⟨w.heap.size + 1, 1, none⟩ (.int .i64 a.y) (by show (w.heap.size + 1 : Nat) ≠ _; omega)).set_ne ⟨w.heap.size + 1 + 1, 0, none⟩ (.int .i64 c.x) (by show (w.heap.size + 1 + 1 : Nat) ≠ _; omega)).set_ne ⟨w.heap.size + 1 + 1, 1, none⟩ (.int .i64 c.y) (by show (w.heap.size + 1 + 1 : Nat) ≠ _; omega))).drew
 replace hw : Below w.heap.size w W7 := by have hl := hw.size; rw [hW]; go_grown
 clear Fa Fb Fc Fr;clear hW Ba Bb Bc Br;have Ba := Ca;have Bb := Cb;have Bc := Cc;have Br := Cr;clear Ca Cb Cc Cr;try rw [rounds_succ]
 have Fa := Ba.f;have Fb := Bb.f;have Fc := Bc.f;have Fr := Br.f;go_wp2_with fail;refine (kab _).mono ?_;rintro e w8 ⟨rfl, hb⟩;clear Fa Fb Fc Fr;obtain ⟨Ba, Bb, Bc, Br, hw, -⟩ := X4 Ba Bb Bc Br hw hb;clear hb;have Fa := Ba.f;have Fb := Bb.f;have Fc := Bc.f;have Fr := Br.f;go_wp2_with fail;refine (kcb _).mono ?_;rintro e w9 ⟨rfl, hb⟩;clear Fa Fb Fc Fr;obtain ⟨Ba, Bb, Bc, Br, hw, -⟩ := X4 Ba Bb Bc Br hw hb;clear hb;have Fa := Ba.f;have Fb := Bb.f;have Fc := Bc.f;have Fr := Br.f;go_wp2_with fail;refine bodyPost_ret (v := .tuple #[.agg #[.int .i64 b.x, .int .i64 b.y, .int .i64 a.x, .int .i64 a.y, .int .i64 c.x, .int .i64 c.y], .bool true]) (by simp [results, Tryz.results47, go_sem, Fr]) rfl ⟨rfl, by have hl := hw.size; go_grown⟩
theorem rmake_n3 (a b c : Pt) (h0 : ori a b c = -1) (tca : decide (cmpP c a < 0) = false) (tba : decide (cmpP b a < 0) = true) (tbc : decide (cmpP b c < 0) = true) (tab : decide (cmpP a b < 0) = false) (tcb : decide (cmpP c b < 0) = false) (w : World) :
    Calls Tryz.prog 47 #[.agg #[.int .i64 a.x, .int .i64 a.y], .agg #[.int .i64 b.x, .int .i64 b.y], .agg #[.int .i64 c.x, .int .i64 c.y]] w fun e w' => e = .returned (.tuple #[.agg #[.int .i64 b.x, .int .i64 b.y, .int .i64 a.x, .int .i64 a.y, .int .i64 c.x, .int .i64 c.y], .bool true]) ∧ Below w.heap.size w w' := by
 have co := zA5 a b c;rw [h0] at co;clear h0;have kca := zAd c a;generalize cmpP c a = nca at *
 have kba := zAd b a;generalize cmpP b a = nba at *
 have kbc := zAd b c;generalize cmpP b c = nbc at *
 have kab := zAd a b;generalize cmpP a b = nab at *
 have kcb := zAd c b;generalize cmpP c b = ncb at *
 go_enter Tryz.func47, Tryz.ntmps47
 go_wp2_with fail;refine zA1 fun W1 hW => ?_;obtain ⟨Ba, Bb, Bc, Br, hw⟩ := N4 hW;clear hW;refine (co _).mono ?_;rintro e w2 ⟨rfl, hb⟩;obtain ⟨Ba, Bb, Bc, Br, hw, -⟩ := X4 Ba Bb Bc Br hw hb;clear hb;have Fa := Ba.f;have Fb := Bb.f;have Fc := Bc.f;have Fr := Br.f;go_wp2_with fail;refine zA2 fun W3 hW => ?_;have Ca : Box W3 (w.heap.size) [.int .i64 a.x, .int .i64 a.y] 30 := by rw [hW]; exact ((((Ba.set_ne ⟨w.heap.size + 1, 0, none⟩ (.int .i64 c.x) (by show (w.heap.size + 1 : Nat) ≠ _; omega)).set_ne ⟨w.heap.size + 1, 1, none⟩ (.int .i64 c.y) (by show (w.heap.size + 1 : Nat) ≠ _; omega)).set_ne ⟨w.heap.size + 1 + 1, 0, none⟩ (.int .i64 b.x) (by show (w.heap.size + 1 + 1 : Nat) ≠ _; omega)).set_ne ⟨w.heap.size + 1 + 1, 1, none⟩ (.int .i64 b.y) (by show (w.heap.size + 1 + 1 : Nat) ≠ _; omega))
 have Cb : Box W3 (w.heap.size + 1) [.int .i64 c.x, .int .i64 c.y] 30 := by rw [hW]; exact ((((Bb.set 0 (.int .i64 c.x)).set 1 (.int .i64 c.y)).set_ne ⟨w.heap.size + 1 + 1, 0, none⟩ (.int .i64 b.x) (by show (w.heap.size + 1 + 1 : Nat) ≠ _; omega)).set_ne ⟨w.heap.size + 1 + 1, 1, none⟩ (.int .i64 b.y) (by show (w.heap.size + 1 + 1 : Nat) ≠ _; omega))
 have Cc : Box W3 (w.heap.size + 1 + 1) [.int .i64 b.x, .int .i64 b.y] 30 := by rw [hW]; exact ((((Bc.set_ne ⟨w.heap.size + 1, 0, none⟩ (.int .i64 c.x) (by show (w.heap.size + 1 : Nat) ≠ _; omega)).set_ne ⟨w.heap.size + 1, 1, none⟩ (.int .i64 c.y) (by show (w.heap.size + 1 : Nat) ≠ _; omega)).set 0 (.int .i64 b.x)).set 1 (.int .i64 b.y))
 have Cr : Box W3 (w.heap.size + 1 + 1 + 1) [.int .i64 0, .int .i64 0, .int .i64 0, .int .i64 0, .int .i64 0, .int .i64 0] 43 := by rw [hW]; exact ((((Br.set_ne ⟨w.heap.size + 1, 0, none⟩ (.int .i64 c.x) (by show (w.heap.size + 1 : Nat) ≠ _; omega)).set_ne ⟨w.heap.size + 1, 1, none⟩ (.int .i64 c.y) (by show (w.heap.size + 1 : Nat) ≠ _; omega)).set_ne ⟨w.heap.size + 1 + 1, 0, none⟩ (.int .i64 b.x) (by show (w.heap.size + 1 + 1 : Nat) ≠ _; omega)).set_ne ⟨w.heap.size + 1 + 1, 1, none⟩ (.int .i64 b.y) (by show (w.heap.size + 1 + 1 : Nat) ≠ _; omega))
 replace hw : Below w.heap.size w W3 := by have hl := hw.size; rw [hW]; go_grown
 clear Fa Fb Fc Fr;clear hW Ba Bb Bc Br;have Ba := Ca;have Bb := Cb;have Bc := Cc;have Br := Cr;clear Ca Cb Cc Cr;refine wp_loop_rounds 4 ?_;try rw [rounds_succ]
 have Fa := Ba.f;have Fb := Bb.f;have Fc := Bc.f;have Fr := Br.f;go_wp2_with fail;refine (kca _).mono ?_;rintro e w4 ⟨rfl, hb⟩;clear Fa Fb Fc Fr;obtain ⟨Ba, Bb, Bc, Br, hw, -⟩ := X4 Ba Bb Bc Br hw hb;clear hb;have Fa := Ba.f;have Fb := Bb.f;have Fc := Bc.f;have Fr := Br.f;go_wp2_with fail;refine (kba _).mono ?_;rintro e w5 ⟨rfl, hb⟩;clear Fa Fb Fc Fr;obtain ⟨Ba, Bb, Bc, Br, hw, -⟩ := X4 Ba Bb Bc Br hw hb;clear hb;have Fa := Ba.f;have Fb := Bb.f;have Fc := Bc.f;have Fr := Br.f;go_wp2_with fail
 go_region
 go_wp2_with fail;refine zA2 fun W6 hW => ?_;have Ca : Box W6 (w.heap.size) [.int .i64 c.x, .int .i64 c.y] 30 := by rw [hW]; exact (((((((Ba.set 0 (.int .i64 c.x)).set 1 (.int .i64 c.y)).set_ne ⟨w.heap.size + 1, 0, none⟩ (.int .i64 b.x) (by show (w.heap.size + 1 : Nat) ≠ _; omega)).set_ne ⟨w.heap.size + 1, 1, none⟩ (.int .i64 b.y) (by show (w.heap.size + 1 : Nat) ≠ _; omega)).set_ne ⟨w.heap.size + 1 + 1, 0, none⟩ (.int .i64 a.x) (by show (w.heap.size + 1 + 1 : Nat) ≠ _; omega)).set_ne ⟨w.heap.size + 1 + 1, 1, none⟩ (.int .i64 a.y) (by show (w.heap.size + 1 + 1 : Nat) ≠ _; omega))).drew
 have Cb : Box W6 (w.heap.size + 1) [.int .i64 b.x, .int .i64 b.y] 30 := by rw [hW]; exact (((((((Bb.set_ne ⟨w.heap.size, 0, none⟩ (.int .i64 c.x) (by show (w.heap.size : Nat) ≠ _; omega)).set_ne ⟨w.heap.size, 1, none⟩ (.int .i64 c.y) (by show (w.heap.size : Nat) ≠ _; omega)).set 0 (.int .i64 b.x)).set 1 (.int .i64 b.y)).set_ne ⟨w.heap.size + 1 + 1, 0, none⟩ (.int .i64 a.x) (by show (w.heap.size + 1 + 1 : Nat) ≠ _; omega)).set_ne ⟨w.heap.size + 1 + 1, 1, none⟩ (.int .i64 a.y) (by show (w.heap.size + 1 + 1 : Nat) ≠ _; omega))).drew
 have Cc : Box W6 (w.heap.size + 1 + 1) [.int .i64 a.x, .int .i64 a.y] 30 := by rw [hW]; exact (((((((Bc.set_ne ⟨w.heap.size, 0, none⟩ (.int .i64 c.x) (by show (w.heap.size : Nat) ≠ _; omega)).set_ne ⟨w.heap.size, 1, none⟩ (.int .i64 c.y) (by show (w.heap.size : Nat) ≠ _; omega)).set_ne ⟨w.heap.size + 1, 0, none⟩ (.int .i64 b.x) (by show (w.heap.size + 1 : Nat) ≠ _; omega)).set_ne ⟨w.heap.size + 1, 1, none⟩ (.int .i64 b.y) (by show (w.heap.size + 1 : Nat) ≠ _; omega)).set 0 (.int .i64 a.x)).set 1 (.int .i64 a.y))).drew
 have Cr : Box W6 (w.heap.size + 1 + 1 + 1) [.int .i64 0, .int .i64 0, .int .i64 0, .int .i64 0, .int .i64 0, .int .i64 0] 43 := by rw [hW]; exact (((((((Br.set_ne ⟨w.heap.size, 0, none⟩ (.int .i64 c.x) (by show (w.heap.size : Nat) ≠ _; omega)).set_ne ⟨w.heap.size, 1, none⟩ (.int .i64 c.y) (by show (w.heap.size : Nat) ≠ _; omega)).set_ne ⟨w.heap.size + 1, 0, none⟩ (.int .i64 b.x) (by show (w.heap.size + 1 : Nat) ≠ _; omega)).set_ne ⟨w.heap.size + 1, 1, none⟩ (.int .i64 b.y) (by show (w.heap.size + 1 : Nat) ≠ _; omega)).set_ne ⟨w.heap.size + 1 + 1, 0, none⟩ (.int .i64 a.x) (by show (w.heap.size + 1 + 1 : Nat) ≠ _; omega)).set_ne ⟨w.heap.size + 1 + 1, 1, none⟩ (.int .i64 a.y) (by show (w.heap.size + 1 + 1 : Nat) ≠ _; omega))).drew
 replace hw : Below w.heap.size w W6 := by have hl := hw.size; rw [hW]; go_grown
 clear Fa Fb Fc Fr;clear hW Ba Bb Bc Br;have Ba := Ca;have Bb := Cb;have Bc := Cc;have Br := Cr;clear Ca Cb Cc Cr;try rw [rounds_succ]
 have Fa := Ba.f;have Fb := Bb.f;have Fc := Bc.f;have Fr := Br.f;go_wp2_with fail;refine (kbc _).mono ?_;rintro e w7 ⟨rfl, hb⟩;clear Fa Fb Fc Fr;obtain ⟨Ba, Bb, Bc, Br, hw, -⟩ := X4 Ba Bb Bc Br hw hb;clear hb;have Fa := Ba.f;have Fb := Bb.f;have Fc := Bc.f;have Fr := Br.f;go_wp2_with fail
 go_region
 go_wp2_with fail;refine zA2 fun W8 hW => ?_;have Ca : Box W8 (w.heap.size) [.int .i64 b.x, .int .i64 b.y] 30 := by rw [hW]; exact (((((((Ba.set 0 (.int .i64 b.x)).set 1 (.int .i64 b.y)).set_ne ⟨w.heap.size + 1, 0, none⟩ (.int .i64 a.x) (by show (w.heap.size + 1 : Nat) ≠ _; omega)).set_ne ⟨w.heap.size + 1, 1, none⟩ (.int .i64 a.y) (by show (w.heap.size + 1 : Nat) ≠ _; omega)).set_ne ⟨w.heap.size + 1 + 1, 0, none⟩ (.int .i64 c.x) (by show (w.heap.size + 1 + 1 : Nat) ≠ _; omega)).set_ne ⟨w.heap.size + 1 + 1, 1, none⟩ (.int .i64 c.y) (by show (w.heap.size + 1 + 1 : Nat) ≠ _; omega))).drew
 have Cb : Box W8 (w.heap.size + 1) [.int .i64 a.x, .int .i64 a.y] 30 := by rw [hW]; exact (((((((Bb.set_ne ⟨w.heap.size, 0, none⟩ (.int .i64 b.x) (by show (w.heap.size : Nat) ≠ _; omega)).set_ne ⟨w.heap.size, 1, none⟩ (.int .i64 b.y) (by show (w.heap.size : Nat) ≠ _; omega)).set 0 (.int .i64 a.x)).set 1 (.int .i64 a.y)).set_ne ⟨w.heap.size + 1 + 1, 0, none⟩ (.int .i64 c.x) (by show (w.heap.size + 1 + 1 : Nat) ≠ _; omega)).set_ne ⟨w.heap.size + 1 + 1, 1, none⟩ (.int .i64 c.y) (by show (w.heap.size + 1 + 1 : Nat) ≠ _; omega))).drew
 have Cc : Box W8 (w.heap.size + 1 + 1) [.int .i64 c.x, .int .i64 c.y] 30 := by rw [hW]; exact (((((((Bc.set_ne ⟨w.heap.size, 0, none⟩ (.int .i64 b.x) (by show (w.heap.size : Nat) ≠ _; omega)).set_ne ⟨w.heap.size, 1, none⟩ (.int .i64 b.y) (by show (w.heap.size : Nat) ≠ _; omega)).set_ne ⟨w.heap.size + 1, 0, none⟩ (.int .i64 a.x) (by show (w.heap.size + 1 : Nat) ≠ _; omega)).set_ne ⟨w.heap.size + 1, 1, none⟩ (.int .i64 a.y) (by show (w.heap.size + 1 : Nat) ≠ _; omega)).set 0 (.int .i64 c.x)).set 1 (.int .i64 c.y))).drew
 have Cr : Box W8 (w.heap.size + 1 + 1 + 1) [.int .i64 0, .int .i64 0, .int .i64 0, .int .i64 0, .int .i64 0, .int .i64 0] 43 := by rw [hW]; exact (((((((Br.set_ne ⟨w.heap.size, 0, none⟩ (.int .i64 b.x) (by show (w.heap.size : Nat) ≠ _; omega)).set_ne ⟨w.heap.size, 1, none⟩ (.int .i64 b.y) (by show (w.heap.size : Nat) ≠ _; omega)).set_ne ⟨w.heap.size + 1, 0, none⟩ (.int .i64 a.x) (by show (w.heap.size + 1 : Nat) ≠ _; omega)).set_ne ⟨w.heap.size + 1, 1, none⟩ (.int .i64 a.y) (by show (w.heap.size + 1 : Nat) ≠ _; omega)).set_ne ⟨w.heap.size + 1 + 1, 0, none⟩ (.int .i64 c.x) (by show (w.heap.size + 1 + 1 : Nat) ≠ _; omega)).set_ne ⟨w.heap.size + 1 + 1, 1, none⟩ (.int .i64 c.y) (by show (w.heap.size + 1 + 1 : Nat) ≠ _; omega))).drew
 replace hw : Below w.heap.size w W8 := by have hl := hw.size; rw [hW]; go_grown
 clear Fa Fb Fc Fr;clear hW Ba Bb Bc Br;have Ba := Ca;have Bb := Cb;have Bc := Cc;have Br := Cr;clear Ca Cb Cc Cr;try rw [rounds_succ]
 have Fa := Ba.f;have Fb := Bb.f;have Fc := Bc.f;have Fr := Br.f;go_wp2_with fail;refine (kab _).mono ?_;rintro e w9 ⟨rfl, hb⟩;clear Fa Fb Fc Fr;obtain ⟨Ba, Bb, Bc, Br, hw, -⟩ := X4 Ba Bb Bc Br hw hb;clear hb;have Fa := Ba.f;have Fb := Bb.f;have Fc := Bc.f;have Fr := Br.f;go_wp2_with fail;refine (kcb _).mono ?_;rintro e w10 ⟨rfl, hb⟩;clear Fa Fb Fc Fr;obtain ⟨Ba, Bb, Bc, Br, hw, -⟩ := X4 Ba Bb Bc Br hw hb;clear hb;have Fa := Ba.f;have Fb := Bb.f;have Fc := Bc.f;have Fr := Br.f;go_wp2_with fail;refine bodyPost_ret (v := .tuple #[.agg #[.int .i64 b.x, .int .i64 b.y, .int .i64 a.x, .int .i64 a.y, .int .i64 c.x, .int .i64 c.y], .bool true]) (by simp [results, Tryz.results47, go_sem, Fr]) rfl ⟨rfl, by have hl := hw.size; go_grown⟩
def mx4 (x y z v : Int) : Int := max (max (max x y) z) v
theorem run_max4 {P : Program} {w : World} (ts : Array TypeId) (t : TypeId) (k k' k'' k3 : IntKind) (x y z v : Int) : (Builtin.max_ ts t #[.int k x, .int k' y, .int k'' z, .int k3 v]).run P w = .ok (.int k (mx4 x y z v)) w := by
 have e : ∀ p q : Int, (if p < q then q else p) = max p q := fun p q => by split <;> omega
 simp [Builtin.max_, Builtin.max2, mx4, go_sem, e]
attribute [local go_sem] run_max4
def lap (a b c d : Pt) : Int := if cmpP (rg (rl a b) (rl c d)) (rl (rg a b) (rg c d)) < 0 then 3 else 0
def meetR (a b c d : Pt) : Int :=
 if vld a = false then 0 else if vld b = false then 0 else if vld c = false then 0 else if vld d = false then 0 else if peqI a.x a.y b.x b.y = true then 0 else if peqI c.x c.y d.x d.y = true then 0
 else if ori a b c = 0 ∧ ori a b d = 0 then lap a b c d
 else if ori a b c * ori a b d < 0 ∧ ori c d a * ori c d b < 0 then 1
 else mx4 (tch a c d) (tch b c d) (tch c a b) (tch d a b)
end Go.Proofs.YtjkfakaehjmnbaaGreat
namespace Go.Proofs.YtjkfakaehjmnbaaGreat
open Go.RowKit
def kk (a b p : Pt) : Int := (p.x - a.x) * (b.x - a.x) + (p.y - a.y) * (b.y - a.y)
def EE (a b : Pt) : Int := (b.x - a.x) * (b.x - a.x) + (b.y - a.y) * (b.y - a.y)
theorem zKc {a b : Pt} (h : a ≠ b) : 0 < EE a b := by
 have h1 := zDa (b.x - a.x);have h2 := zDa (b.y - a.y);have h3 : EE a b ≠ 0 := fun h0 => by
  unfold EE at h0;have g1 : (b.x - a.x) * (b.x - a.x) = 0 := by omega
  have g2 : (b.y - a.y) * (b.y - a.y) = 0 := by omega
  apply h; rw [Pt.eq_iff];have k1 : b.x - a.x = 0 := by rcases Int.mul_eq_zero.1 g1 with k | k <;> exact k
  have k2 : b.y - a.y = 0 := by rcases Int.mul_eq_zero.1 g2 with k | k <;> exact k
  omega
 have : 0 ≤ EE a b := by unfold EE; omega
 omega
theorem coll {a b p : Pt} (h : det a b p = 0) : EE a b * (p.x - a.x) = kk a b p * (b.x - a.x) ∧ EE a b * (p.y - a.y) = kk a b p * (b.y - a.y) := by
 have e1 : EE a b * (p.x - a.x) = kk a b p * (b.x - a.x) - (b.y - a.y) * det a b p := by unfold EE kk det; grind
 have e2 : EE a b * (p.y - a.y) = kk a b p * (b.y - a.y) + (b.x - a.x) * det a b p := by unfold EE kk det; grind
 rw [h] at e1 e2;simp only [Int.mul_zero, Int.sub_zero, Int.add_zero] at e1 e2;exact ⟨e1, e2⟩
theorem coll2 {a b p : Pt} (h : det a b p = 0) : EE a b * (p.x - b.x) = (kk a b p - EE a b) * (b.x - a.x) ∧ EE a b * (p.y - b.y) = (kk a b p - EE a b) * (b.y - a.y) := by
 obtain ⟨h1, h2⟩ := coll h;generalize EE a b = E at *
 generalize kk a b p = k at *
 exact ⟨by grind, by grind⟩
theorem zI3 {E x y z : Int} (hE : 0 < E) (h : E * x = y * z) : sgn x = sgn y * sgn z := by
 have h1 := zKg E x;rw [sgn_p hE, h, zKg] at h1;omega
theorem btw_t {n a b : Int} (h : btw n a b = true) : 0 ≤ (n - a) * (b - a) ∧ (n - a) * (b - a) ≤ (b - a) * (b - a) := by
 simp only [btw, decide_eq_true_eq] at h;rcases Int.le_total a b with k | k
 ·exact ⟨Int.mul_nonneg (by omega) (by omega), Int.mul_le_mul_of_nonneg_right (by omega) (by omega)⟩
 ·exact ⟨Int.mul_nonneg_of_nonpos_of_nonpos (by omega) (by omega), Int.mul_le_mul_of_nonpos_right (by omega) (by omega)⟩
theorem btw_of {E k n a b : Int} (hE : 0 < E) (k0 : 0 ≤ k) (k1 : k ≤ E) (h : E * (n - a) = k * (b - a)) : btw n a b = true := by
 simp only [btw, decide_eq_true_eq];rcases Int.le_total a b with c | c
 ·have h1 : E * 0 ≤ E * (n - a) := by rw [h, Int.mul_zero]; exact Int.mul_nonneg k0 (by omega)
  have h2 : E * (n - a) ≤ E * (b - a) := by rw [h]; exact Int.mul_le_mul_of_nonneg_right k1 (by omega)
  have g1 := Int.le_of_mul_le_mul_left h1 hE;have g2 := Int.le_of_mul_le_mul_left h2 hE;omega
 ·have h1 : E * (n - a) ≤ E * 0 := by rw [h, Int.mul_zero]; exact Int.mul_nonpos_of_nonneg_of_nonpos k0 (by omega)
  have h2 : E * (b - a) ≤ E * (n - a) := by rw [h]; exact Int.mul_le_mul_of_nonpos_right k1 (by omega)
  have g1 := Int.le_of_mul_le_mul_left h1 hE;have g2 := Int.le_of_mul_le_mul_left h2 hE;omega
theorem btw_k {a b p : Pt} (hab : a ≠ b) (h : det a b p = 0) : (btw p.x a.x b.x && btw p.y a.y b.y) = true ↔ (0 ≤ kk a b p ∧ kk a b p ≤ EE a b) := by
 have hE := zKc hab;obtain ⟨c1, c2⟩ := coll h;rw [Bool.and_eq_true];constructor
 ·rintro ⟨h1, h2⟩;have t1 := btw_t h1;have t2 := btw_t h2;unfold kk EE; omega
 ·rintro ⟨h1, h2⟩;exact ⟨btw_of hE h1 h2 c1, btw_of hE h1 h2 c2⟩
theorem tch_k {p a b : Pt} (hp : vld p = true) (ha : vld a = true) (hb : vld b = true) (hab : a ≠ b) :
    tch p a b = if det a b p = 0 ∧ 0 < kk a b p ∧ kk a b p < EE a b then 2 else 0 := by
 have hE := zKc hab;unfold tch onR;rw [hp, ha, hb];simp only [Bool.true_and];by_cases hd : det a b p = 0
 ·rw [show decide (det a b p = 0) = true by simpa using hd];simp only [Bool.true_and];obtain ⟨c1, c2⟩ := coll hd;obtain ⟨c3, c4⟩ := coll2 hd;have z1 : p = a ↔ kk a b p = 0 := by
   constructor
   ·rintro rfl; unfold kk; simp
   ·intro h; rw [h] at c1 c2; simp only [Int.zero_mul] at c1 c2;rw [Pt.eq_iff];rcases Int.mul_eq_zero.1 c1 with h1 | h1 <;> rcases Int.mul_eq_zero.1 c2 with h2 | h2 <;> omega
  have z2 : p = b ↔ kk a b p - EE a b = 0 := by
   constructor
   ·rintro rfl; unfold kk EE; omega
   ·intro h; rw [h] at c3 c4; simp only [Int.zero_mul] at c3 c4;rw [Pt.eq_iff];rcases Int.mul_eq_zero.1 c3 with h1 | h1 <;> rcases Int.mul_eq_zero.1 c4 with h2 | h2 <;> omega
  by_cases hk : 0 ≤ kk a b p ∧ kk a b p ≤ EE a b
  ·rw [(btw_k hab hd).2 hk, if_neg (by simp)];by_cases h1 : p = a
   ·have := z1.1 h1; rw [if_pos (pp h1), if_neg (by omega)]
   ·rw [if_neg (np h1)];by_cases h2 : p = b
    ·have := z2.1 h2; rw [if_pos (pp h2), if_neg (by omega)]
    ·have k1 : kk a b p ≠ 0 := fun k => h1 (z1.2 k);have k2 : kk a b p - EE a b ≠ 0 := fun k => h2 (z2.2 k);rw [if_neg (np h2), if_pos (by omega)]
  ·have : (btw p.x a.x b.x && btw p.y a.y b.y) = false := by rw [← Bool.not_eq_true, btw_k hab hd]; exact hk
   rw [if_pos this, if_neg (by omega)]
 ·rw [show decide (det a b p = 0) = false by simpa using hd, if_pos (by simp), if_neg (fun k => hd k.1)]
theorem I1 (a b c d : Pt) : EE a b * det c d a = kk a b c * det a b d - det a b c * kk a b d := by unfold EE kk det; grind
theorem I2 (a b c d : Pt) : EE a b * det c d b = (kk a b c - EE a b) * det a b d - det a b c * (kk a b d - EE a b) := by unfold EE kk det; grind
structure Seg2 (a b c d : Pt) : Prop where
 va : vld a = true
 vb : vld b = true
 vc : vld c = true
 vd : vld d = true
 nab : a ≠ b
 ncd : c ≠ d
theorem meetS_none {a b c d : Pt} (h : ¬ Seg2 a b c d) : meetS a b c d = 0 := by
 unfold meetS;cases va : vld a with
 | false => rfl
 | true => cases vb : vld b with
  | false => rfl
  | true => cases vc : vld c with
   | false => rfl
   | true => cases vd : vld d with
    | false => rfl
    | true =>
     by_cases e1 : a = b
     ·rw [if_neg (by simp), if_neg (by simp), if_neg (by simp), if_neg (by simp), if_pos (pp e1)]
     ·by_cases e2 : c = d
      ·rw [if_neg (by simp), if_neg (by simp), if_neg (by simp), if_neg (by simp), if_neg (np e1), if_pos (pp e2)]
      ·exact absurd ⟨va, vb, vc, vd, e1, e2⟩ h
theorem meetR_none {a b c d : Pt} (h : ¬ Seg2 a b c d) : meetR a b c d = 0 := by
 unfold meetR;cases va : vld a with
 | false => rfl
 | true => cases vb : vld b with
  | false => rfl
  | true => cases vc : vld c with
   | false => rfl
   | true => cases vd : vld d with
    | false => rfl
    | true =>
     by_cases e1 : a = b
     ·rw [if_neg (by simp), if_neg (by simp), if_neg (by simp), if_neg (by simp), if_pos (pp e1)]
     ·by_cases e2 : c = d
      ·rw [if_neg (by simp), if_neg (by simp), if_neg (by simp), if_neg (by simp), if_neg (np e1), if_pos (pp e2)]
      ·exact absurd ⟨va, vb, vc, vd, e1, e2⟩ h
section
variable {a b c d : Pt} (s : Seg2 a b c d)
include s
theorem meetS_line (h : det a b c = 0 ∧ det a b d = 0) : meetS a b c d = mil a b c d := by
 unfold meetS;rw [if_neg (by rw [s.va]; simp), if_neg (by rw [s.vb]; simp), if_neg (by rw [s.vc]; simp), if_neg (by rw [s.vd]; simp), if_neg (np s.nab), if_neg (np s.ncd),
  if_pos ⟨by rw [ori_v s.va s.vb s.vc, h.1]; rfl, by rw [ori_v s.va s.vb s.vd, h.2]; rfl⟩]
theorem zHv (h : ¬ (det a b c = 0 ∧ det a b d = 0)) : ¬ (ori a b c = 0 ∧ ori a b d = 0) := fun k => h ⟨by rw [← zBp, ← ori_v s.va s.vb s.vc]; exact k.1, by rw [← zBp, ← ori_v s.va s.vb s.vd]; exact k.2⟩
theorem meetS_end (h : ¬ (det a b c = 0 ∧ det a b d = 0)) (e : a = c ∨ a = d ∨ b = c ∨ b = d) : meetS a b c d = 0 := by
 unfold meetS;rw [if_neg (by rw [s.va]; simp), if_neg (by rw [s.vb]; simp), if_neg (by rw [s.vc]; simp), if_neg (by rw [s.vd]; simp), if_neg (np s.nab), if_neg (np s.ncd), if_neg (zHv s h)];by_cases e1 : a = c
 ·rw [if_pos (pp e1)]
 rw [if_neg (np e1)];by_cases e2 : a = d
 ·rw [if_pos (pp e2)]
 rw [if_neg (np e2)];by_cases e3 : b = c
 ·rw [if_pos (pp e3)]
 rw [if_neg (np e3)];by_cases e4 : b = d
 ·rw [if_pos (pp e4)]
 rcases e with e | e | e | e
 ·exact absurd e e1
 ·exact absurd e e2
 ·exact absurd e e3
 ·exact absurd e e4
theorem meetS_fin (h : ¬ (det a b c = 0 ∧ det a b d = 0)) (e : ¬ (a = c ∨ a = d ∨ b = c ∨ b = d)) : meetS a b c d = fin (sgn (det c d a)) (sgn (det c d b)) (sgn (det a b c)) (sgn (det a b d)) := by
 unfold meetS;rw [if_neg (by rw [s.va]; simp), if_neg (by rw [s.vb]; simp), if_neg (by rw [s.vc]; simp), if_neg (by rw [s.vd]; simp), if_neg (np s.nab), if_neg (np s.ncd), if_neg (zHv s h),
  if_neg (np (fun k => e (.inl k))), if_neg (np (fun k => e (.inr (.inl k)))), if_neg (np (fun k => e (.inr (.inr (.inl k))))), if_neg (np (fun k => e (.inr (.inr (.inr k))))),
  ori_v s.va s.vb s.vc, ori_v s.va s.vb s.vd, ori_v s.vc s.vd s.va, ori_v s.vc s.vd s.vb]
theorem meetR_line (h : det a b c = 0 ∧ det a b d = 0) : meetR a b c d = lap a b c d := by
 unfold meetR;rw [if_neg (by rw [s.va]; simp), if_neg (by rw [s.vb]; simp), if_neg (by rw [s.vc]; simp), if_neg (by rw [s.vd]; simp), if_neg (np s.nab), if_neg (np s.ncd),
  if_pos ⟨by rw [ori_v s.va s.vb s.vc, h.1]; rfl, by rw [ori_v s.va s.vb s.vd, h.2]; rfl⟩]
theorem meetR_main (h : ¬ (det a b c = 0 ∧ det a b d = 0)) : meetR a b c d = if sgn (det a b c) * sgn (det a b d) < 0 ∧ sgn (det c d a) * sgn (det c d b) < 0 then 1 else mx4 (tch a c d) (tch b c d) (tch c a b) (tch d a b) := by
 unfold meetR;rw [if_neg (by rw [s.va]; simp), if_neg (by rw [s.vb]; simp), if_neg (by rw [s.vc]; simp), if_neg (by rw [s.vd]; simp), if_neg (np s.nab), if_neg (np s.ncd), if_neg (zHv s h),
  ori_v s.va s.vb s.vc, ori_v s.va s.vb s.vd, ori_v s.vc s.vd s.va, ori_v s.vc s.vd s.vb]
theorem key_n : key a ≠ key b := fun h => s.nab (zBo s.va s.vb h)
theorem key_n2 : key c ≠ key d := fun h => s.ncd (zBo s.vc s.vd h)
end
theorem zKk {p q : Pt} (hp : vld p = true) (hq : vld q = true) : vld (lo2 p q) = true ∧ key (lo2 p q) = min (key p) (key q) := by
 unfold lo2; rw [zCi hq hp];have := zAa (key q - key p);split
 ·exact ⟨hq, by omega⟩
 ·exact ⟨hp, by omega⟩
theorem zKp {p q : Pt} (hp : vld p = true) (hq : vld q = true) : vld (hi2 p q) = true ∧ key (hi2 p q) = max (key p) (key q) := by
 unfold hi2; rw [zCi hq hp];have := zAa (key q - key p);split
 ·exact ⟨hp, by omega⟩
 ·exact ⟨hq, by omega⟩
theorem zKw {p q : Pt} (hp : vld p = true) (hq : vld q = true) : vld (rl p q) = true ∧ key (rl p q) = min (key p) (key q) := by
 unfold rl; rw [zCi hp hq];have := zAa (key p - key q);split
 ·exact ⟨hp, by omega⟩
 ·exact ⟨hq, by omega⟩
theorem zKy {p q : Pt} (hp : vld p = true) (hq : vld q = true) : vld (rg p q) = true ∧ key (rg p q) = max (key p) (key q) := by
 unfold rg; rw [zCi hp hq];have := zAa (key p - key q);split
 ·exact ⟨hq, by omega⟩
 ·exact ⟨hp, by omega⟩
theorem zFr {p q : Pt} (hp : vld p = true) (hq : vld q = true) : cmpP p q < 0 ↔ key p < key q := by
 rw [zCi hp hq]; have := zAa (key p - key q); omega
theorem mil_key {a b c d : Pt} (s : Seg2 a b c d) : mil a b c d = if min (key a) (key b) < max (key c) (key d) ∧ min (key c) (key d) < max (key a) (key b) then 3 else 0 := by
 obtain ⟨u1, u2⟩ := zKk s.va s.vb;obtain ⟨u3, u4⟩ := zKp s.va s.vb;obtain ⟨u5, u6⟩ := zKk s.vc s.vd;obtain ⟨u7, u8⟩ := zKp s.vc s.vd;unfold mil;simp only [zFr u1 u7, zFr u5 u3, u2, u4, u6, u8]
 (repeat' split) <;> omega
theorem lap_key {a b c d : Pt} (s : Seg2 a b c d) : lap a b c d = if min (key a) (key b) < max (key c) (key d) ∧ min (key c) (key d) < max (key a) (key b) then 3 else 0 := by
 obtain ⟨u1, u2⟩ := zKw s.va s.vb;obtain ⟨u3, u4⟩ := zKy s.va s.vb;obtain ⟨u5, u6⟩ := zKw s.vc s.vd;obtain ⟨u7, u8⟩ := zKy s.vc s.vd;obtain ⟨t1, t2⟩ := zKy u1 u5;obtain ⟨t3, t4⟩ := zKw u3 u7;have n1 := key_n s;have n2 := key_n2 s;unfold lap;simp only [zFr t1 t3, t2, t4, u2, u4, u6, u8]
 (repeat' split) <;> omega
theorem fin_0 {sA sB sC sD : Int} (h : sA = sB ∨ sC = sD) : fin sA sB sC sD = 0 := by unfold fin; (repeat' split) <;> omega
theorem fin_2 {sA sB sC sD : Int} (h1 : sA ≠ sB) (h2 : sC ≠ sD) (h : sA = 0 ∨ sB = 0 ∨ sC = 0 ∨ sD = 0) : fin sA sB sC sD = 2 := by unfold fin; (repeat' split) <;> omega
theorem zJc {E A B kc D : Int} (hE : 0 < E) (hD : D ≠ 0) (h1 : E * A = kc * D) (h2 : E * B = (kc - E) * D) :
    (kc = 0 ∧ A = 0 ∧ B ≠ 0) ∨ (kc = E ∧ B = 0 ∧ A ≠ 0) ∨ ((kc < 0 ∨ E < kc) ∧ A ≠ 0 ∧ B ≠ 0 ∧ sgn A = sgn B) ∨ (0 < kc ∧ kc < E ∧ A ≠ 0 ∧ B ≠ 0 ∧ sgn A ≠ sgn B) := by
 have s1 := zI3 hE h1;have s2 := zI3 hE h2;have c1 := zAa kc;have c2 := zAa (kc - E);have c3 := zAa D;have c4 := zAa A;have c5 := zAa B;rcases c1 with ⟨e1, t1⟩ | ⟨e1, t1⟩ | ⟨e1, t1⟩ <;> rcases c2 with ⟨e2, t2⟩ | ⟨e2, t2⟩ | ⟨e2, t2⟩ <;> rw [e1] at s1 <;> rw [e2] at s2 <;> omega
theorem s0 : sgn 0 = 0 := rfl
theorem zIj (a b : Pt) : kk a b a = 0 := by unfold kk; simp
theorem zKb (a b : Pt) : kk a b b = EE a b := rfl
theorem det_1 (a b : Pt) : det a b a = 0 := by unfold det; grind
theorem det_2 (a b : Pt) : det a b b = 0 := by unfold det; grind
theorem meet_eq (a b c d : Pt) : meetS a b c d = meetR a b c d := by
 by_cases s : Seg2 a b c d
 case neg => rw [meetS_none s, meetR_none s]
 case pos =>
 by_cases hl : det a b c = 0 ∧ det a b d = 0
 ·rw [meetS_line s hl, meetR_line s hl, mil_key s, lap_key s]
 rw [meetR_main s hl, tch_k s.va s.vc s.vd s.ncd, tch_k s.vb s.vc s.vd s.ncd, tch_k s.vc s.va s.vb s.nab, tch_k s.vd s.va s.vb s.nab];have hE := zKc s.nab;have hF := zKc s.ncd;have i1 := I1 a b c d;have i2 := I2 a b c d;have i3 := I1 c d a b;have i4 := I2 c d a b
 -- ends in common
 have e1 : a = c → det c d a = 0 ∧ det a b c = 0 ∧ kk c d a = 0 ∧ kk a b c = 0 := by rintro rfl; exact ⟨det_1 _ _, det_1 _ _, zIj _ _, zIj _ _⟩
 have e2 : a = d → det c d a = 0 ∧ det a b d = 0 ∧ kk c d a = EE c d ∧ kk a b d = 0 := by rintro rfl; exact ⟨det_2 _ _, det_1 _ _, zKb _ _, zIj _ _⟩
 have e3 : b = c → det c d b = 0 ∧ det a b c = 0 ∧ kk c d b = 0 ∧ kk a b c = EE a b := by rintro rfl; exact ⟨det_1 _ _, det_2 _ _, zIj _ _, zKb _ _⟩
 have e4 : b = d → det c d b = 0 ∧ det a b d = 0 ∧ kk c d b = EE c d ∧ kk a b d = EE a b := by rintro rfl; exact ⟨det_2 _ _, det_2 _ _, zKb _ _, zKb _ _⟩
 have f1 : det a b c = 0 → kk a b c = 0 → a = c := fun h k => by
  obtain ⟨c1, c2⟩ := coll h; rw [k] at c1 c2; simp only [Int.zero_mul] at c1 c2;rw [Pt.eq_iff]; rcases Int.mul_eq_zero.1 c1 with h1 | h1 <;> rcases Int.mul_eq_zero.1 c2 with h2 | h2 <;> omega
 have f2 : det a b d = 0 → kk a b d = 0 → a = d := fun h k => by
  obtain ⟨c1, c2⟩ := coll h; rw [k] at c1 c2; simp only [Int.zero_mul] at c1 c2;rw [Pt.eq_iff]; rcases Int.mul_eq_zero.1 c1 with h1 | h1 <;> rcases Int.mul_eq_zero.1 c2 with h2 | h2 <;> omega
 have f3 : det a b c = 0 → kk a b c = EE a b → b = c := fun h k => by
  obtain ⟨c1, c2⟩ := coll2 h; rw [k] at c1 c2; simp only [Int.sub_self, Int.zero_mul] at c1 c2;rw [Pt.eq_iff]; rcases Int.mul_eq_zero.1 c1 with h1 | h1 <;> rcases Int.mul_eq_zero.1 c2 with h2 | h2 <;> omega
 have f4 : det a b d = 0 → kk a b d = EE a b → b = d := fun h k => by
  obtain ⟨c1, c2⟩ := coll2 h; rw [k] at c1 c2; simp only [Int.sub_self, Int.zero_mul] at c1 c2;rw [Pt.eq_iff]; rcases Int.mul_eq_zero.1 c1 with h1 | h1 <;> rcases Int.mul_eq_zero.1 c2 with h2 | h2 <;> omega
 by_cases hs : a = c ∨ a = d ∨ b = c ∨ b = d
 ·rw [meetS_end s hl hs];clear f1 f2 f3 f4;generalize det a b c = C at *
  generalize det a b d = D at *
  generalize det c d a = A at *
  generalize det c d b = B at *
  generalize kk a b c = kc at *
  generalize kk a b d = kd at *
  generalize kk c d a = la at *
  generalize kk c d b = lb at *
  generalize EE a b = E at *
  generalize EE c d = F at *
  rcases hs with h | h | h | h
  ·obtain ⟨g1, g2, g3, g4⟩ := e1 h;subst g1 g2 g3 g4;have hD : D ≠ 0 := fun k => hl ⟨rfl, k⟩;have hB : B ≠ 0 := by rcases zJc (A := 0) (B := B) (kc := 0) hE hD (by simp) (by simpa using i2) with x | x | x | x <;> omega
   simp [sgn, mx4, hD, hB]
  ·obtain ⟨g1, g2, g3, g4⟩ := e2 h;subst g1 g2 g3 g4;have hC : C ≠ 0 := fun k => hl ⟨k, rfl⟩;have hB : B ≠ 0 := by
    rintro rfl;simp only [Int.mul_zero, Int.zero_sub] at i2;have := Int.mul_eq_zero.1 (show C * -E = 0 by omega);omega
   simp [sgn, mx4, hC, hB]
  ·obtain ⟨g1, g2, g3, g4⟩ := e3 h;subst g1 g2 g3 g4;have hD : D ≠ 0 := fun k => hl ⟨rfl, k⟩;have hA : A ≠ 0 := by
    rintro rfl;simp only [Int.mul_zero, Int.zero_mul, Int.sub_zero] at i1;have := Int.mul_eq_zero.1 i1.symm;omega
   simp [sgn, mx4, hD, hA]
  ·obtain ⟨g1, g2, g3, g4⟩ := e4 h;subst g1 g2 g3 g4;have hC : C ≠ 0 := fun k => hl ⟨k, rfl⟩;have hA : A ≠ 0 := by
    rintro rfl;simp only [Int.mul_zero, Int.zero_sub] at i1;have := Int.mul_eq_zero.1 (show C * kd = 0 by omega);omega
   simp [sgn, mx4, hC, hA]
 ·rw [meetS_fin s hl hs];have n1 : ¬ a = c := fun h => hs (.inl h);have n2 : ¬ a = d := fun h => hs (.inr (.inl h));have n3 : ¬ b = c := fun h => hs (.inr (.inr (.inl h)));have n4 : ¬ b = d := fun h => hs (.inr (.inr (.inr h)));clear e1 e2 e3 e4 hs;generalize det a b c = C at *
  generalize det a b d = D at *
  generalize det c d a = A at *
  generalize det c d b = B at *
  generalize kk a b c = kc at *
  generalize kk a b d = kd at *
  generalize kk c d a = la at *
  generalize kk c d b = lb at *
  generalize EE a b = E at *
  generalize EE c d = F at *
  by_cases hC : C = 0
  ·subst hC;have hD : D ≠ 0 := fun k => hl ⟨rfl, k⟩;have k1 : kc ≠ 0 := fun k => n1 (f1 rfl k);have k2 : kc ≠ E := fun k => n3 (f3 rfl k);rcases zJc (A := A) (B := B) hE hD (by simpa using i1) (by simpa using i2) with x | x | ⟨x1, x2, x3, x4⟩ | ⟨x1, x2, x3, x4, x5⟩
   ·omega
   ·omega
   ·rw [s0, fin_0 (.inl x4), if_neg (by simp), if_neg (by omega), if_neg (by omega), if_neg (by omega), if_neg (by omega)]; rfl
   ·rw [s0, fin_2 x5 (by have := zAa D; omega) (.inr (.inr (.inl rfl))), if_neg (by simp), if_neg (by omega), if_neg (by omega), if_pos (by omega), if_neg (by omega)]; rfl
  ·by_cases hD : D = 0
   ·subst hD;have k1 : kd ≠ 0 := fun k => n2 (f2 rfl k);have k2 : kd ≠ E := fun k => n4 (f4 rfl k);rcases zJc (A := -A) (B := -B) (kc := kd) hE hC (by simp only [Int.mul_zero, Int.zero_sub] at i1; rw [Int.mul_neg, i1, Int.mul_comm C]; simp) (by simp only [Int.mul_zero, Int.zero_sub] at i2; rw [Int.mul_neg, i2, Int.mul_comm C]; simp) with x | x | ⟨x1, x2, x3, x4⟩ | ⟨x1, x2, x3, x4, x5⟩
    ·omega
    ·omega
    ·rw [zCo, zCo] at x4;rw [s0, fin_0 (.inl (by omega)), if_neg (by simp), if_neg (by omega), if_neg (by omega), if_neg (by omega), if_neg (by omega)]; rfl
    ·rw [zCo, zCo] at x5;rw [s0, fin_2 (by omega) (by have := zAa C; omega) (.inr (.inr (.inr rfl))), if_neg (by simp), if_neg (by omega), if_neg (by omega), if_neg (by omega), if_pos (by omega)]; rfl
   ·by_cases hA : A = 0
    ·subst hA;have hB : B ≠ 0 := by
      rintro rfl;simp only [Int.mul_zero, Int.zero_mul, Int.sub_zero] at i3;rcases Int.mul_eq_zero.1 i3 with h | h <;> omega
     rcases zJc (A := C) (B := D) (kc := la) hF hB (by simpa using i3) (by simpa using i4) with x | x | ⟨x1, x2, x3, x4⟩ | ⟨x1, x2, x3, x4, x5⟩
     ·omega
     ·omega
     ·rw [s0, fin_0 (.inr x4), if_neg (by simp), if_neg (by omega), if_neg (by omega), if_neg (by omega), if_neg (by omega)]; rfl
     ·rw [s0, fin_2 (by have := zAa B; omega) x5 (.inl rfl), if_neg (by simp), if_pos (by omega), if_neg (by omega), if_neg (by omega), if_neg (by omega)]; rfl
    ·by_cases hB : B = 0
     ·subst hB;rcases zJc (A := -C) (B := -D) (kc := lb) hF hA (by simp only [Int.mul_zero, Int.zero_sub] at i3; rw [Int.mul_neg, i3, Int.mul_comm A]; simp) (by simp only [Int.mul_zero, Int.zero_sub] at i4; rw [Int.mul_neg, i4, Int.mul_comm A]; simp) with x | x | ⟨x1, x2, x3, x4⟩ | ⟨x1, x2, x3, x4, x5⟩
      ·omega
      ·omega
      ·rw [zCo, zCo] at x4;rw [s0, fin_0 (.inr (by omega)), if_neg (by simp), if_neg (by omega), if_neg (by omega), if_neg (by omega), if_neg (by omega)]; rfl
      ·rw [zCo, zCo] at x5;rw [s0, fin_2 (by have := zAa A; omega) (by omega) (.inr (.inl rfl)), if_neg (by simp), if_neg (by omega), if_pos (by omega), if_neg (by omega), if_neg (by omega)]; rfl
     ·have c1 := zAa A;have c2 := zAa B;have c3 := zAa C;have c4 := zAa D;simp only [hA, hB, hC, hD, false_and, if_false];have m0 : mx4 0 0 0 0 = 0 := rfl;rw [m0];generalize sgn A = sA at *
      generalize sgn B = sB at *
      generalize sgn C = sC at *
      generalize sgn D = sD at *
      have d1 : sA = 1 ∨ sA = -1 := by omega
      have d2 : sB = 1 ∨ sB = -1 := by omega
      have d3 : sC = 1 ∨ sC = -1 := by omega
      have d4 : sD = 1 ∨ sD = -1 := by omega
      clear c1 c2 c3 c4;rcases d1 with rfl | rfl <;> rcases d2 with rfl | rfl <;> rcases d3 with rfl | rfl <;> rcases d4 with rfl | rfl <;> rfl
end Go.Proofs.YtjkfakaehjmnbaaGreat
namespace Go.Proofs.YtjkfakaehjmnbaaGreat
open Go.RowKit Go.Sort
attribute [local go_sem] rOper rAt rUpon cell_set sg_i64 sg_u64 alloc_cell alloc_frozen
attribute [local go_sem 10000] pt_eql pt_neq
attribute [local irreducible] rWalk
structure Tri3 where
 A : Pt
 B : Pt
 C : Pt
def mkT (x y z : Pt) : Tri3 := if cmpP y x < 0 ∨ cmpP z x < 0 then (if cmpP z y < 0 ∨ cmpP x y < 0 then ⟨z, x, y⟩ else ⟨y, z, x⟩) else ⟨x, y, z⟩
def mk (a b c : Pt) : Tri3 := if ori a b c = 0 then ⟨⟨0, 0⟩, ⟨0, 0⟩, ⟨0, 0⟩⟩ else if ori a b c = 1 then mkT a b c else mkT a c b
theorem zDu {x y z : Pt} (hx : vld x = true) (hy : vld y = true) (hz : vld z = true) (n1 : key x ≠ key y) (n2 : key x ≠ key z) (n3 : key y ≠ key z) :
    (key x < key y ∧ key x < key z ∧ mkT x y z = ⟨x, y, z⟩) ∨ (key y < key x ∧ key y < key z ∧ mkT x y z = ⟨y, z, x⟩) ∨ (key z < key x ∧ key z < key y ∧ mkT x y z = ⟨z, x, y⟩) := by
 unfold mkT;simp only [zFr hy hx, zFr hz hx, zFr hz hy, zFr hx hy]
 (repeat' split) <;> simp <;> omega
theorem dlt {p q : Pt} (hp : vld p = true) (hq : vld q = true) (h : key p < key q) : decide (cmpP p q < 0) = true := by simpa using (zFr hp hq).2 h
theorem dge {p q : Pt} (hp : vld p = true) (hq : vld q = true) (h : key q ≤ key p) : decide (cmpP p q < 0) = false := by
 have := zFr hp hq;simp; omega
theorem zB9 (a b c : Pt) (w : World) :
    Calls Tryz.prog 47 #[.agg #[.int .i64 a.x, .int .i64 a.y], .agg #[.int .i64 b.x, .int .i64 b.y], .agg #[.int .i64 c.x, .int .i64 c.y]] w fun e w' => e = .returned (.tuple #[.agg #[.int .i64 (mk a b c).A.x, .int .i64 (mk a b c).A.y, .int .i64 (mk a b c).B.x, .int .i64 (mk a b c).B.y, .int .i64 (mk a b c).C.x, .int .i64 (mk a b c).C.y], .bool (!decide (ori a b c = 0))]) ∧ Below w.heap.size w w' := by
 by_cases h0 : ori a b c = 0
 ·rw [show mk a b c = ⟨⟨0, 0⟩, ⟨0, 0⟩, ⟨0, 0⟩⟩ by unfold mk; rw [if_pos h0], show (!decide (ori a b c = 0)) = false by simp [h0]];exact rmake_0 a b c h0 w
 ·obtain ⟨va, vb, vc⟩ := zCl h0;obtain ⟨d1, d2, d3⟩ := zBf h0;have n1 : key a ≠ key b := fun h => d1 (zBo va vb h).symm;have n2 : key a ≠ key c := fun h => d2 (zBo va vc h).symm;have n3 : key b ≠ key c := fun h => d3 (zBo vb vc h).symm;rw [show (!decide (ori a b c = 0)) = true by simp [h0]];have hb := zC4 a b c;by_cases h1 : ori a b c = 1
  ·rw [show mk a b c = mkT a b c by unfold mk; rw [if_neg h0, if_pos h1]];rcases zDu va vb vc n1 n2 n3 with ⟨x1, x2, e⟩ | ⟨x1, x2, e⟩ | ⟨x1, x2, e⟩ <;> rw [e]
   ·exact rmake_p0 a b c h1 (dge vb va (by omega)) (dge vc va (by omega)) w
   ·exact rmake_p1 a b c h1 (dlt vb va (by omega)) (dge vc vb (by omega)) (dge va vb (by omega)) w
   ·rcases Int.lt_or_le (key b) (key a) with y | y
    ·exact rmake_p2 a b c h1 (dlt vb va (by omega)) (dlt vc vb (by omega)) (dge va vc (by omega)) (dge vb vc (by omega)) w
    ·exact rmake_p3 a b c h1 (dge vb va (by omega)) (dlt vc va (by omega)) (dlt vc vb (by omega)) (dge va vc (by omega)) (dge vb vc (by omega)) w
  ·have h2 : ori a b c = -1 := by omega
   rw [show mk a b c = mkT a c b by unfold mk; rw [if_neg h0, if_neg h1]];rcases zDu va vc vb n2 n1 n3.symm with ⟨x1, x2, e⟩ | ⟨x1, x2, e⟩ | ⟨x1, x2, e⟩ <;> rw [e]
   ·exact rmake_n0 a b c h2 (dge vc va (by omega)) (dge vb va (by omega)) w
   ·exact rmake_n1 a b c h2 (dlt vc va (by omega)) (dge vb vc (by omega)) (dge va vc (by omega)) w
   ·rcases Int.lt_or_le (key c) (key a) with y | y
    ·exact rmake_n2 a b c h2 (dlt vc va (by omega)) (dlt vb vc (by omega)) (dge va vb (by omega)) (dge vc vb (by omega)) w
    ·exact rmake_n3 a b c h2 (dge vc va (by omega)) (dlt vb va (by omega)) (dlt vb vc (by omega)) (dge va vb (by omega)) (dge vc vb (by omega)) w
def teq (s u : Tri3) : Bool := peqI s.A.x s.A.y u.A.x u.A.y && (peqI s.B.x s.B.y u.B.x u.B.y && peqI s.C.x s.C.y u.C.x u.C.y)
theorem tri_eql (s u : Tri3) (w : World) : (binOp .eql 43 (.agg #[.int .i64 s.A.x, .int .i64 s.A.y, .int .i64 s.B.x, .int .i64 s.B.y, .int .i64 s.C.x, .int .i64 s.C.y]) (.agg #[.int .i64 u.A.x, .int .i64 u.A.y, .int .i64 u.B.x, .int .i64 u.B.y, .int .i64 u.C.x, .int .i64 u.C.y])).run Tryz.prog w = .ok (.bool (teq s u)) w := by
 unfold teq peqI;by_cases h1 : s.A.x = u.A.x
 case neg => simp [go_sem, h1]
 case pos =>
 by_cases h2 : s.A.y = u.A.y
 case neg => simp [go_sem, h1, h2]
 case pos =>
 by_cases h3 : s.B.x = u.B.x
 case neg => simp [go_sem, h1, h2, h3]
 case pos =>
 by_cases h4 : s.B.y = u.B.y
 case neg => simp [go_sem, h1, h2, h3, h4]
 case pos =>
 by_cases h5 : s.C.x = u.C.x
 case neg => simp [go_sem, h1, h2, h3, h4, h5]
 case pos =>
 by_cases h6 : s.C.y = u.C.y
 ·simp [go_sem, h1, h2, h3, h4, h5, h6]
 ·simp [go_sem, h1, h2, h3, h4, h5, h6]
end Go.Proofs.YtjkfakaehjmnbaaGreat
namespace Go.Proofs.YtjkfakaehjmnbaaGreat
open Go.RowKit Go.Sort
attribute [local go_sem] rOper rAt rUpon cell_set sg_i64 sg_u64 alloc_cell alloc_frozen
attribute [local go_sem 10000] pt_eql pt_neq tri_eql
attribute [local irreducible] rWalk
def valT (T : Tri3) : Bool := !decide (ori T.A T.B T.C = 0) && teq (mk T.A T.B T.C) T
theorem rvalT_0 (T : Tri3) (h : (!decide (ori T.A T.B T.C = 0)) = false) (w : World) :
    Calls Tryz.prog 65 #[.agg #[.int .i64 T.A.x, .int .i64 T.A.y, .int .i64 T.B.x, .int .i64 T.B.y, .int .i64 T.C.x, .int .i64 T.C.y]] w fun e w' => e = .returned (.bool false) ∧ Below w.heap.size w w' := by
 have cm := zB9 T.A T.B T.C;rw [h] at cm;clear h;generalize mk T.A T.B T.C = M at *
 go_enter Tryz.func65, Tryz.ntmps65
 go_wp2_with fail;refine zA1 fun W1 hW => ?_;obtain ⟨Bt, hw⟩ := N1 hW;clear hW;refine (cm _).mono ?_;rintro e w2 ⟨rfl, hb⟩;obtain ⟨Bt, hw, Ft⟩ := X1 Bt hw hb;clear hb;go_wp2
 go_ret
 exact ⟨rfl, by have hl := hw.size; go_grown⟩
theorem rvalT_1 (T : Tri3) (h : (!decide (ori T.A T.B T.C = 0)) = true) (w : World) :
    Calls Tryz.prog 65 #[.agg #[.int .i64 T.A.x, .int .i64 T.A.y, .int .i64 T.B.x, .int .i64 T.B.y, .int .i64 T.C.x, .int .i64 T.C.y]] w fun e w' => e = .returned (.bool (teq (mk T.A T.B T.C) T)) ∧ Below w.heap.size w w' := by
 have cm := zB9 T.A T.B T.C;rw [h] at cm;clear h;generalize mk T.A T.B T.C = M at *
 go_enter Tryz.func65, Tryz.ntmps65
 go_wp2_with fail;refine zA1 fun W1 hW => ?_;obtain ⟨Bt, hw⟩ := N1 hW;clear hW;refine (cm _).mono ?_;rintro e w2 ⟨rfl, hb⟩;obtain ⟨Bt, hw, Ft⟩ := X1 Bt hw hb;clear hb;go_wp2
 go_ret
 exact ⟨rfl, by have hl := hw.size; go_grown⟩
theorem zCd (T : Tri3) (w : World) :
    Calls Tryz.prog 65 #[.agg #[.int .i64 T.A.x, .int .i64 T.A.y, .int .i64 T.B.x, .int .i64 T.B.y, .int .i64 T.C.x, .int .i64 T.C.y]] w fun e w' => e = .returned (.bool (valT T)) ∧ Below w.heap.size w w' := by
 unfold valT;cases h : (!decide (ori T.A T.B T.C = 0)) with
 | false => exact rvalT_0 T h w
 | true => exact rvalT_1 T h w
def hasP (T : Tri3) (p : Pt) : Bool := valT T && (vld p && (decide (0 ≤ ori T.A T.B p) && (decide (0 ≤ ori T.B T.C p) && decide (0 ≤ ori T.C T.A p))))
theorem rhasP_0 (T : Tri3) (p : Pt) (h0 : valT T = false) (w : World) :
    Calls Tryz.prog 62 #[.agg #[.int .i64 T.A.x, .int .i64 T.A.y, .int .i64 T.B.x, .int .i64 T.B.y, .int .i64 T.C.x, .int .i64 T.C.y], .agg #[.int .i64 p.x, .int .i64 p.y]] w fun e w' => e = .returned (.bool false) ∧ Below w.heap.size w w' := by
 have cv := zCd T;rw [h0] at cv;clear h0
 go_enter Tryz.func62, Tryz.ntmps62
 go_wp2_with fail;refine zA1 fun W1 hW => ?_;obtain ⟨Bt, Bp, hw⟩ := N2 hW;clear hW;refine (cv _).mono ?_;rintro e w2 ⟨rfl, hb⟩;obtain ⟨Bt, Bp, hw, F_tp⟩ := X2 Bt Bp hw hb;clear hb;go_wp2
 go_ret
 exact ⟨rfl, hw⟩
theorem rhasP_1 (T : Tri3) (p : Pt) (h0 : valT T = true) (h1 : vld p = false) (w : World) :
    Calls Tryz.prog 62 #[.agg #[.int .i64 T.A.x, .int .i64 T.A.y, .int .i64 T.B.x, .int .i64 T.B.y, .int .i64 T.C.x, .int .i64 T.C.y], .agg #[.int .i64 p.x, .int .i64 p.y]] w fun e w' => e = .returned (.bool false) ∧ Below w.heap.size w w' := by
 have cv := zCd T;rw [h0] at cv;clear h0;have cp := zA6 p;rw [h1] at cp;clear h1
 go_enter Tryz.func62, Tryz.ntmps62
 go_wp2_with fail;refine zA1 fun W1 hW => ?_;obtain ⟨Bt, Bp, hw⟩ := N2 hW;clear hW;refine (cv _).mono ?_;rintro e w2 ⟨rfl, hb⟩;obtain ⟨Bt, Bp, hw, F_tp⟩ := X2 Bt Bp hw hb;clear hb;go_wp2_with fail;refine (cp _).mono ?_;rintro e w3 ⟨rfl, hb⟩;clear F_tp;obtain ⟨Bt, Bp, hw, F_tp⟩ := X2 Bt Bp hw hb;clear hb;go_wp2
 go_ret
 exact ⟨rfl, hw⟩
theorem rhasP_2 (T : Tri3) (p : Pt) (h0 : valT T = true) (h1 : vld p = true) (g0 : decide (0 ≤ ori T.A T.B p) = false) (w : World) :
    Calls Tryz.prog 62 #[.agg #[.int .i64 T.A.x, .int .i64 T.A.y, .int .i64 T.B.x, .int .i64 T.B.y, .int .i64 T.C.x, .int .i64 T.C.y], .agg #[.int .i64 p.x, .int .i64 p.y]] w fun e w' => e = .returned (.bool false) ∧ Below w.heap.size w w' := by
 have cv := zCd T;rw [h0] at cv;clear h0;have cp := zA6 p;rw [h1] at cp;clear h1;have o0 := zA5 T.A T.B p;generalize ori T.A T.B p = O0 at *
 go_enter Tryz.func62, Tryz.ntmps62
 go_wp2_with fail;refine zA1 fun W1 hW => ?_;obtain ⟨Bt, Bp, hw⟩ := N2 hW;clear hW;refine (cv _).mono ?_;rintro e w2 ⟨rfl, hb⟩;obtain ⟨Bt, Bp, hw, F_tp⟩ := X2 Bt Bp hw hb;clear hb;go_wp2_with fail;refine (cp _).mono ?_;rintro e w3 ⟨rfl, hb⟩;clear F_tp;obtain ⟨Bt, Bp, hw, F_tp⟩ := X2 Bt Bp hw hb;clear hb;go_wp2_with fail;refine (o0 _).mono ?_;rintro e w4 ⟨rfl, hb⟩;clear F_tp;obtain ⟨Bt, Bp, hw, F_tp⟩ := X2 Bt Bp hw hb;clear hb;go_wp2
 go_ret
 exact ⟨rfl, hw⟩
theorem rhasP_3 (T : Tri3) (p : Pt) (h0 : valT T = true) (h1 : vld p = true) (g0 : decide (0 ≤ ori T.A T.B p) = true) (g1 : decide (0 ≤ ori T.B T.C p) = false) (w : World) :
    Calls Tryz.prog 62 #[.agg #[.int .i64 T.A.x, .int .i64 T.A.y, .int .i64 T.B.x, .int .i64 T.B.y, .int .i64 T.C.x, .int .i64 T.C.y], .agg #[.int .i64 p.x, .int .i64 p.y]] w fun e w' => e = .returned (.bool false) ∧ Below w.heap.size w w' := by
 have cv := zCd T;rw [h0] at cv;clear h0;have cp := zA6 p;rw [h1] at cp;clear h1;have o0 := zA5 T.A T.B p;generalize ori T.A T.B p = O0 at *
 have o1 := zA5 T.B T.C p;generalize ori T.B T.C p = O1 at *
 go_enter Tryz.func62, Tryz.ntmps62
 go_wp2_with fail;refine zA1 fun W1 hW => ?_;obtain ⟨Bt, Bp, hw⟩ := N2 hW;clear hW;refine (cv _).mono ?_;rintro e w2 ⟨rfl, hb⟩;obtain ⟨Bt, Bp, hw, F_tp⟩ := X2 Bt Bp hw hb;clear hb;go_wp2_with fail;refine (cp _).mono ?_;rintro e w3 ⟨rfl, hb⟩;clear F_tp;obtain ⟨Bt, Bp, hw, F_tp⟩ := X2 Bt Bp hw hb;clear hb;go_wp2_with fail;refine (o0 _).mono ?_;rintro e w4 ⟨rfl, hb⟩;clear F_tp;obtain ⟨Bt, Bp, hw, F_tp⟩ := X2 Bt Bp hw hb;clear hb;go_wp2_with fail;refine (o1 _).mono ?_;rintro e w5 ⟨rfl, hb⟩;clear F_tp;obtain ⟨Bt, Bp, hw, F_tp⟩ := X2 Bt Bp hw hb;clear hb;go_wp2
 go_ret
 exact ⟨rfl, hw⟩
theorem rhasP_4 (T : Tri3) (p : Pt) (h0 : valT T = true) (h1 : vld p = true) (g0 : decide (0 ≤ ori T.A T.B p) = true) (g1 : decide (0 ≤ ori T.B T.C p) = true) (w : World) :
    Calls Tryz.prog 62 #[.agg #[.int .i64 T.A.x, .int .i64 T.A.y, .int .i64 T.B.x, .int .i64 T.B.y, .int .i64 T.C.x, .int .i64 T.C.y], .agg #[.int .i64 p.x, .int .i64 p.y]] w fun e w' => e = .returned (.bool (decide (0 ≤ ori T.C T.A p))) ∧ Below w.heap.size w w' := by
 have cv := zCd T;rw [h0] at cv;clear h0;have cp := zA6 p;rw [h1] at cp;clear h1;have o0 := zA5 T.A T.B p;generalize ori T.A T.B p = O0 at *
 have o1 := zA5 T.B T.C p;generalize ori T.B T.C p = O1 at *
 have o2 := zA5 T.C T.A p;generalize ori T.C T.A p = O2 at *
 go_enter Tryz.func62, Tryz.ntmps62
 go_wp2_with fail;refine zA1 fun W1 hW => ?_;obtain ⟨Bt, Bp, hw⟩ := N2 hW;clear hW;refine (cv _).mono ?_;rintro e w2 ⟨rfl, hb⟩;obtain ⟨Bt, Bp, hw, F_tp⟩ := X2 Bt Bp hw hb;clear hb;go_wp2_with fail;refine (cp _).mono ?_;rintro e w3 ⟨rfl, hb⟩;clear F_tp;obtain ⟨Bt, Bp, hw, F_tp⟩ := X2 Bt Bp hw hb;clear hb;go_wp2_with fail;refine (o0 _).mono ?_;rintro e w4 ⟨rfl, hb⟩;clear F_tp;obtain ⟨Bt, Bp, hw, F_tp⟩ := X2 Bt Bp hw hb;clear hb;go_wp2_with fail;refine (o1 _).mono ?_;rintro e w5 ⟨rfl, hb⟩;clear F_tp;obtain ⟨Bt, Bp, hw, F_tp⟩ := X2 Bt Bp hw hb;clear hb;go_wp2_with fail;refine (o2 _).mono ?_;rintro e w6 ⟨rfl, hb⟩;clear F_tp;obtain ⟨Bt, Bp, hw, F_tp⟩ := X2 Bt Bp hw hb;clear hb;go_wp2
 go_ret
 exact ⟨rfl, hw⟩
theorem zD2 (T : Tri3) (p : Pt) (w : World) :
    Calls Tryz.prog 62 #[.agg #[.int .i64 T.A.x, .int .i64 T.A.y, .int .i64 T.B.x, .int .i64 T.B.y, .int .i64 T.C.x, .int .i64 T.C.y], .agg #[.int .i64 p.x, .int .i64 p.y]] w fun e w' => e = .returned (.bool (hasP T p)) ∧ Below w.heap.size w w' := by
 unfold hasP;cases h0 : valT T with
 | false => exact rhasP_0 T p h0 w
 | true => cases h1 : vld p with
  | false => exact rhasP_1 T p h0 h1 w
  | true => cases g0 : decide (0 ≤ ori T.A T.B p) with
   | false => exact rhasP_2 T p h0 h1 g0 w
   | true => cases g1 : decide (0 ≤ ori T.B T.C p) with
    | false => exact rhasP_3 T p h0 h1 g0 g1 w
    | true => exact rhasP_4 T p h0 h1 g0 g1 w
end Go.Proofs.YtjkfakaehjmnbaaGreat
namespace Go.Proofs.YtjkfakaehjmnbaaGreat
open Go.RowKit Go.Sort
attribute [local go_sem] rOper rAt rUpon cell_set sg_i64 sg_u64 alloc_cell alloc_frozen
attribute [local go_sem 10000] pt_eql pt_neq
attribute [local irreducible] rWalk
def plc (i : Int) : Int := i % 3
theorem zGo (i : Int) : plc i = 0 ∨ plc i = 1 ∨ plc i = 2 := by unfold plc; omega
theorem zGp (i : Int) : (wrap64 (i.tmod 3 + 3)).tmod 3 = plc i := by
 have h := @Int.tmod_eq_emod i 3;have h2 : i.tmod 3 = i % 3 ∨ i.tmod 3 = i % 3 - 3 := by
  split at h
  ·left; omega
  ·right; simp at h; omega
 rw [show wrap64 (i.tmod 3 + 3) = i.tmod 3 + 3 by rw [w64]; omega, Int.tmod_eq_emod_of_nonneg (by omega)];unfold plc; omega
theorem zEw (i : Int) (w : World) :
    Calls Tryz.prog 126 #[.int .i64 i] w fun e w' => e = .returned (.int .i64 (plc i)) ∧ Below w.heap.size w w' := by
 rw [← zGp]
 go_enter Tryz.func126, Tryz.ntmps126
 go_wp2
 go_ret
 exact ⟨rfl, by go_grown⟩
def crn (T : Tri3) (i : Int) : Pt := if plc i = 0 then T.A else if plc i = 1 then T.B else T.C
theorem crn_plc (T : Tri3) (i : Int) : crn T (plc i) = crn T i := by
 have : plc (plc i) = plc i := by unfold plc; omega
 unfold crn; rw [this]
theorem crn_next (T : Tri3) (i : Int) : crn T (plc i + 1) = crn T (i + 1) := by
 have : plc (plc i + 1) = plc (i + 1) := by unfold plc; omega
 unfold crn; rw [this]
theorem corner_0 (T : Tri3) (i : Int) (h : plc i = 0) (w : World) :
    Calls Tryz.prog 101 #[.agg #[.int .i64 T.A.x, .int .i64 T.A.y, .int .i64 T.B.x, .int .i64 T.B.y, .int .i64 T.C.x, .int .i64 T.C.y], .int .i64 i] w fun e w' => e = .returned (.agg #[.int .i64 T.A.x, .int .i64 T.A.y]) ∧ Below w.heap.size w w' := by
 have cp := zEw i;rw [h] at cp;clear h
 go_enter Tryz.func101, Tryz.ntmps101
 go_wp2_with fail;refine zA1 fun W1 hW => ?_;obtain ⟨Bt, Br, hw⟩ := N2 hW;clear hW;refine (cp _).mono ?_;rintro e w2 ⟨rfl, hb⟩;obtain ⟨Bt, Br, hw, -⟩ := X2 Bt Br hw hb;clear hb;have Ft := Bt.f;have Fr := Br.f;go_wp2_with fail;refine bodyPost_ret (v := .agg #[.int .i64 T.A.x, .int .i64 T.A.y]) (by simp [results, Tryz.results101, go_sem, Fr]) rfl ⟨rfl, by have hl := hw.size; go_grown⟩
theorem corner_1 (T : Tri3) (i : Int) (h : plc i = 1) (w : World) :
    Calls Tryz.prog 101 #[.agg #[.int .i64 T.A.x, .int .i64 T.A.y, .int .i64 T.B.x, .int .i64 T.B.y, .int .i64 T.C.x, .int .i64 T.C.y], .int .i64 i] w fun e w' => e = .returned (.agg #[.int .i64 T.B.x, .int .i64 T.B.y]) ∧ Below w.heap.size w w' := by
 have cp := zEw i;rw [h] at cp;clear h
 go_enter Tryz.func101, Tryz.ntmps101
 go_wp2_with fail;refine zA1 fun W1 hW => ?_;obtain ⟨Bt, Br, hw⟩ := N2 hW;clear hW;refine (cp _).mono ?_;rintro e w2 ⟨rfl, hb⟩;obtain ⟨Bt, Br, hw, -⟩ := X2 Bt Br hw hb;clear hb;have Ft := Bt.f;have Fr := Br.f;go_wp2_with fail;refine bodyPost_ret (v := .agg #[.int .i64 T.B.x, .int .i64 T.B.y]) (by simp [results, Tryz.results101, go_sem, Fr]) rfl ⟨rfl, by have hl := hw.size; go_grown⟩
theorem corner_2 (T : Tri3) (i : Int) (h : plc i = 2) (w : World) :
    Calls Tryz.prog 101 #[.agg #[.int .i64 T.A.x, .int .i64 T.A.y, .int .i64 T.B.x, .int .i64 T.B.y, .int .i64 T.C.x, .int .i64 T.C.y], .int .i64 i] w fun e w' => e = .returned (.agg #[.int .i64 T.C.x, .int .i64 T.C.y]) ∧ Below w.heap.size w w' := by
 have cp := zEw i;rw [h] at cp;clear h
 go_enter Tryz.func101, Tryz.ntmps101
 go_wp2_with fail;refine zA1 fun W1 hW => ?_;obtain ⟨Bt, Br, hw⟩ := N2 hW;clear hW;refine (cp _).mono ?_;rintro e w2 ⟨rfl, hb⟩;obtain ⟨Bt, Br, hw, -⟩ := X2 Bt Br hw hb;clear hb;have Ft := Bt.f;have Fr := Br.f;go_wp2_with fail;refine bodyPost_ret (v := .agg #[.int .i64 T.C.x, .int .i64 T.C.y]) (by simp [results, Tryz.results101, go_sem, Fr]) rfl ⟨rfl, by have hl := hw.size; go_grown⟩
theorem zE1 (T : Tri3) (i : Int) (w : World) :
    Calls Tryz.prog 101 #[.agg #[.int .i64 T.A.x, .int .i64 T.A.y, .int .i64 T.B.x, .int .i64 T.B.y, .int .i64 T.C.x, .int .i64 T.C.y], .int .i64 i] w fun e w' => e = .returned (.agg #[.int .i64 (crn T i).x, .int .i64 (crn T i).y]) ∧ Below w.heap.size w w' := by
 rcases zGo i with h | h | h
 ·rw [show crn T i = T.A by unfold crn; simp [h]]; exact corner_0 T i h w
 ·rw [show crn T i = T.B by unfold crn; simp [h]]; exact corner_1 T i h w
 ·rw [show crn T i = T.C by unfold crn; simp [h]]; exact corner_2 T i h w
theorem zBj (T : Tri3) (w : World) :
    Calls Tryz.prog 106 #[.agg #[.int .i64 T.A.x, .int .i64 T.A.y, .int .i64 T.B.x, .int .i64 T.B.y, .int .i64 T.C.x, .int .i64 T.C.y]] w fun e w' => e = .returned (.agg #[.int .i64 T.B.x, .int .i64 T.B.y, .int .i64 T.C.x, .int .i64 T.C.y, .int .i64 T.A.x, .int .i64 T.A.y]) ∧ Below w.heap.size w w' := by
 go_enter Tryz.func106, Tryz.ntmps106
 go_wp2_with fail;refine bodyPost_ret (v := .agg #[.int .i64 T.B.x, .int .i64 T.B.y, .int .i64 T.C.x, .int .i64 T.C.y, .int .i64 T.A.x, .int .i64 T.A.y]) (by simp [results, Tryz.results106, go_sem]) rfl ⟨rfl, by go_grown⟩
def leq (p q : Pt) : Bool := decide (cmpP p q ≤ 0)
def lds (T : Tri3) : Bool := leq T.A T.B && leq T.A T.C
theorem leads_0 (T : Tri3) (h : leq T.A T.B = false) (w : World) :
    Calls Tryz.prog 105 #[.agg #[.int .i64 T.A.x, .int .i64 T.A.y, .int .i64 T.B.x, .int .i64 T.B.y, .int .i64 T.C.x, .int .i64 T.C.y]] w fun e w' => e = .returned (.bool false) ∧ Below w.heap.size w w' := by
 have c1 := zAv T.A T.B;unfold leq at h;generalize cmpP T.A T.B = n at *
 go_enter Tryz.func105, Tryz.ntmps105
 go_wp2_with fail;refine zA1 fun W1 hW => ?_;obtain ⟨Bt, hw⟩ := N1 hW;clear hW;refine (c1 _).mono ?_;rintro e w2 ⟨rfl, hb⟩;obtain ⟨Bt, hw, Ft⟩ := X1 Bt hw hb;clear hb;go_wp2
 go_ret
 exact ⟨rfl, by have hl := hw.size; go_grown⟩
theorem leads_1 (T : Tri3) (h : leq T.A T.B = true) (w : World) :
    Calls Tryz.prog 105 #[.agg #[.int .i64 T.A.x, .int .i64 T.A.y, .int .i64 T.B.x, .int .i64 T.B.y, .int .i64 T.C.x, .int .i64 T.C.y]] w fun e w' => e = .returned (.bool (leq T.A T.C)) ∧ Below w.heap.size w w' := by
 have c1 := zAv T.A T.B;have c2 := zAv T.A T.C;unfold leq at h ⊢;generalize cmpP T.A T.B = n at *
 generalize cmpP T.A T.C = m at *
 go_enter Tryz.func105, Tryz.ntmps105
 go_wp2_with fail;refine zA1 fun W1 hW => ?_;obtain ⟨Bt, hw⟩ := N1 hW;clear hW;refine (c1 _).mono ?_;rintro e w2 ⟨rfl, hb⟩;obtain ⟨Bt, hw, Ft⟩ := X1 Bt hw hb;clear hb;go_wp2_with fail;refine (c2 _).mono ?_;rintro e w3 ⟨rfl, hb⟩;clear Ft;obtain ⟨Bt, hw, Ft⟩ := X1 Bt hw hb;clear hb;go_wp2
 go_ret
 exact ⟨rfl, by have hl := hw.size; go_grown⟩
theorem zAs (T : Tri3) (w : World) :
    Calls Tryz.prog 105 #[.agg #[.int .i64 T.A.x, .int .i64 T.A.y, .int .i64 T.B.x, .int .i64 T.B.y, .int .i64 T.C.x, .int .i64 T.C.y]] w fun e w' => e = .returned (.bool (lds T)) ∧ Below w.heap.size w w' := by
 unfold lds;cases h : leq T.A T.B with
 | false => exact leads_0 T h w
 | true => exact leads_1 T h w
def valS (T : Tri3) : Bool := decide (0 < ori T.A T.B T.C) && lds T
theorem tvalid_0 (T : Tri3) (h : decide (0 < ori T.A T.B T.C) = false) (w : World) :
    Calls Tryz.prog 107 #[.agg #[.int .i64 T.A.x, .int .i64 T.A.y, .int .i64 T.B.x, .int .i64 T.B.y, .int .i64 T.C.x, .int .i64 T.C.y]] w fun e w' => e = .returned (.bool false) ∧ Below w.heap.size w w' := by
 have c1 := zA8 T.A T.B T.C;generalize ori T.A T.B T.C = n at *
 go_enter Tryz.func107, Tryz.ntmps107
 go_wp2_with fail;refine zA1 fun W1 hW => ?_;obtain ⟨Bt, hw⟩ := N1 hW;clear hW;refine (c1 _).mono ?_;rintro e w2 ⟨rfl, hb⟩;obtain ⟨Bt, hw, Ft⟩ := X1 Bt hw hb;clear hb;go_wp2
 go_ret
 exact ⟨rfl, by have hl := hw.size; go_grown⟩
theorem tvalid_1 (T : Tri3) (h : decide (0 < ori T.A T.B T.C) = true) (w : World) :
    Calls Tryz.prog 107 #[.agg #[.int .i64 T.A.x, .int .i64 T.A.y, .int .i64 T.B.x, .int .i64 T.B.y, .int .i64 T.C.x, .int .i64 T.C.y]] w fun e w' => e = .returned (.bool (lds T)) ∧ Below w.heap.size w w' := by
 have c1 := zA8 T.A T.B T.C;have c2 := zAs T;generalize ori T.A T.B T.C = n at *
 generalize lds T = m at *
 go_enter Tryz.func107, Tryz.ntmps107
 go_wp2_with fail;refine zA1 fun W1 hW => ?_;obtain ⟨Bt, hw⟩ := N1 hW;clear hW;refine (c1 _).mono ?_;rintro e w2 ⟨rfl, hb⟩;obtain ⟨Bt, hw, Ft⟩ := X1 Bt hw hb;clear hb;go_wp2_with fail;refine (c2 _).mono ?_;rintro e w3 ⟨rfl, hb⟩;clear Ft;obtain ⟨Bt, hw, Ft⟩ := X1 Bt hw hb;clear hb;go_wp2
 go_ret
 exact ⟨rfl, by have hl := hw.size; go_grown⟩
theorem zC0 {p q : Pt} (hp : vld p = true) (hq : vld q = true) : leq p q = decide (key p ≤ key q) := by
 have h := zFr hq hp;have h2 := zCi hp hq;have h3 := zAa (key p - key q);unfold leq;by_cases hh : key p ≤ key q
 ·rw [decide_eq_true hh, decide_eq_true]; omega
 ·rw [decide_eq_false hh, decide_eq_false]; omega
theorem zCn {s u : Tri3} : teq s u = true ↔ s = u := by
 unfold teq;simp only [Bool.and_eq_true, zBx];cases s with | mk a b c => cases u with | mk d e f => cases a; cases b; cases c; cases d; cases e; cases f; simp [and_assoc]
theorem Tri3.eq_iff {s u : Tri3} : s = u ↔ s.A = u.A ∧ s.B = u.B ∧ s.C = u.C := by
 cases s; cases u; simp
theorem zJ2 (T : Tri3) : valT T = valS T := by
 obtain ⟨a, b, c⟩ := T;unfold valT valS lds;simp only;have hb := zC4 a b c;by_cases h0 : ori a b c = 0
 ·simp [h0]
 ·obtain ⟨va, vb, vc⟩ := zCl h0;obtain ⟨d1, d2, d3⟩ := zBf h0;have n1 : key a ≠ key b := fun h => d1 (zBo va vb h).symm;have n2 : key a ≠ key c := fun h => d2 (zBo va vc h).symm;have n3 : key b ≠ key c := fun h => d3 (zBo vb vc h).symm;rw [zC0 va vb, zC0 va vc, show (!decide (ori a b c = 0)) = true by simp [h0], Bool.true_and];rw [Bool.eq_iff_iff, zCn];by_cases h1 : ori a b c = 1
  ·rw [show mk a b c = mkT a b c by unfold mk; rw [if_neg h0, if_pos h1]];rcases zDu va vb vc n1 n2 n3 with ⟨x1, x2, e⟩ | ⟨x1, x2, e⟩ | ⟨x1, x2, e⟩ <;> rw [e, Tri3.eq_iff] <;> simp only [Bool.and_eq_true, decide_eq_true_eq]
   ·simp; omega
   ·exact ⟨fun h => absurd h.1 d1, fun h => by omega⟩
   ·exact ⟨fun h => absurd h.1 d2, fun h => by omega⟩
  ·have h2 : ori a b c = -1 := by omega
   rw [show mk a b c = mkT a c b by unfold mk; rw [if_neg h0, if_neg h1]];rcases zDu va vc vb n2 n1 n3.symm with ⟨x1, x2, e⟩ | ⟨x1, x2, e⟩ | ⟨x1, x2, e⟩ <;> rw [e, Tri3.eq_iff] <;> simp only [Bool.and_eq_true, decide_eq_true_eq]
   ·exact ⟨fun h => absurd h.2.1 d3, fun h => by omega⟩
   ·exact ⟨fun h => absurd h.1 d2, fun h => by omega⟩
   ·exact ⟨fun h => absurd h.1 d1, fun h => by omega⟩
theorem zBc (T : Tri3) (w : World) :
    Calls Tryz.prog 107 #[.agg #[.int .i64 T.A.x, .int .i64 T.A.y, .int .i64 T.B.x, .int .i64 T.B.y, .int .i64 T.C.x, .int .i64 T.C.y]] w fun e w' => e = .returned (.bool (valT T)) ∧ Below w.heap.size w w' := by
 rw [zJ2];unfold valS;cases h : decide (0 < ori T.A T.B T.C) with
 | false => exact tvalid_0 T h w
 | true => exact tvalid_1 T h w
end Go.Proofs.YtjkfakaehjmnbaaGreat
