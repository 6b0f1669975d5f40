/- Put together: ExU, ExP, ExQ, ExV, ExW, TrA, Row, TrB, TrL, Alike, MesB. -/
import Derived.Test.YtmobnmjjmafibaaGreatRows
import Derived.Test.YtmobnmjjmafibaaGreatPum3
import Derived.Test.YtmobnmjjmafibaaGreatPum0
import Derived.Test.YtmobnmjjmafibaaGreatPum4
import Derived.WalkKit
import Derived.WalkSpells
import Derived.WalkLawsBesides
import Derived.Laws.Externs
import Derived.Deep.QuietTactic
import Derived.BigQuiet
import Derived.Lib.Hide
import Derived.Handy
import Derived.LoopN
import Derived.RegionTactic
import Derived.Below
import Derived.Laws.AppendOwn
import Derived.Test.YtmobnmjjmafibaaGreatPum1
set_option maxRecDepth 100000
set_option maxHeartbeats 8000000
namespace Go.Proofs.YtmobnmjjmafibaaGreat
open Go.RowKit Go.Sort
attribute [local go_sem] rOper rAt rUpon cell_set sg_i64 sg_u64 alloc_cell alloc_frozen
attribute [local go_sem 10000] pt_eql pt_neq
attribute [local irreducible] rWalk
theorem Box.drew {w : World} {b : Nat} {cs : List Value} {T : TypeId} (h : Box w b cs T) : Box w.drew b cs T := h
theorem rmake_0 (a b c : Pt) (h0 : ori a b c = 0) (w : World) :
    Calls Tryz.prog 47 #[.agg #[.int .i64 a.x, .int .i64 a.y], .agg #[.int .i64 b.x, .int .i64 b.y], .agg #[.int .i64 c.x, .int .i64 c.y]] w fun e w' => e = .returned (.tuple #[.agg #[.int .i64 0, .int .i64 0, .int .i64 0, .int .i64 0, .int .i64 0, .int .i64 0], .bool false]) ∧ Below w.heap.size w w' := by
 have co := zA6 a b c
 rw [h0] at co
 clear h0
 go_enter Tryz.func47, Tryz.ntmps47
 go_wp2_with fail
 refine zA1 fun W1 hW => ?_
 have Ba : Box W1 (w.heap.size) [.int .i64 a.x, .int .i64 a.y] 30 := by rw [hW]; exact (((Box.new rfl).old _).old _).old _
 have Bb : Box W1 (w.heap.size + 1) [.int .i64 b.x, .int .i64 b.y] 30 := by rw [hW]; exact ((Box.new (by simp)).old _).old _
 have Bc : Box W1 (w.heap.size + 1 + 1) [.int .i64 c.x, .int .i64 c.y] 30 := by rw [hW]; exact (Box.new (by simp)).old _
 have Br : Box W1 (w.heap.size + 1 + 1 + 1) [.int .i64 0, .int .i64 0, .int .i64 0, .int .i64 0, .int .i64 0, .int .i64 0] 38 := by rw [hW]; exact Box.new (by simp)
 have hw : Below w.heap.size w W1 := by rw [hW]; go_grown
 clear hW
 refine (co _).mono ?_
 rintro e w2 ⟨rfl, hb⟩
 replace Ba := Ba.ee hb
 replace Bb := Bb.ee hb
 replace Bc := Bc.ee hb
 replace Br := Br.ee hb
 replace hw := upB hw hb
 clear hb
 have Fa := Ba.facts
 have Fb := Bb.facts
 have Fc := Bc.facts
 have Fr := Br.facts
 go_wp2_with fail
 refine bodyPost_ret (v := .tuple #[.agg #[.int .i64 0, .int .i64 0, .int .i64 0, .int .i64 0, .int .i64 0, .int .i64 0], .bool false]) (by simp [results, Tryz.results47, go_sem, Fr]) rfl ⟨rfl, by have hl := hw.size; go_grown⟩
theorem rmake_p0 (a b c : Pt) (h0 : ori a b c = 1) (tba : decide (cmpP b a < 0) = false) (tca : decide (cmpP c a < 0) = false) (w : World) :
    Calls Tryz.prog 47 #[.agg #[.int .i64 a.x, .int .i64 a.y], .agg #[.int .i64 b.x, .int .i64 b.y], .agg #[.int .i64 c.x, .int .i64 c.y]] w fun e w' => e = .returned (.tuple #[.agg #[.int .i64 a.x, .int .i64 a.y, .int .i64 b.x, .int .i64 b.y, .int .i64 c.x, .int .i64 c.y], .bool true]) ∧ Below w.heap.size w w' := by
 have co := zA6 a b c
 rw [h0] at co
 clear h0
 have kba := zAb b a
 generalize cmpP b a = nba at *
 have kca := zAb c a
 generalize cmpP c a = nca at *
 go_enter Tryz.func47, Tryz.ntmps47
 go_wp2_with fail
 refine zA1 fun W1 hW => ?_
 have Ba : Box W1 (w.heap.size) [.int .i64 a.x, .int .i64 a.y] 30 := by rw [hW]; exact (((Box.new rfl).old _).old _).old _
 have Bb : Box W1 (w.heap.size + 1) [.int .i64 b.x, .int .i64 b.y] 30 := by rw [hW]; exact ((Box.new (by simp)).old _).old _
 have Bc : Box W1 (w.heap.size + 1 + 1) [.int .i64 c.x, .int .i64 c.y] 30 := by rw [hW]; exact (Box.new (by simp)).old _
 have Br : Box W1 (w.heap.size + 1 + 1 + 1) [.int .i64 0, .int .i64 0, .int .i64 0, .int .i64 0, .int .i64 0, .int .i64 0] 38 := by rw [hW]; exact Box.new (by simp)
 have hw : Below w.heap.size w W1 := by rw [hW]; go_grown
 clear hW
 refine (co _).mono ?_
 rintro e w2 ⟨rfl, hb⟩
 replace Ba := Ba.ee hb
 replace Bb := Bb.ee hb
 replace Bc := Bc.ee hb
 replace Br := Br.ee hb
 replace hw := upB hw hb
 clear hb
 have Fa := Ba.facts
 have Fb := Bb.facts
 have Fc := Bc.facts
 have Fr := Br.facts
 go_wp2_with fail
 refine zA2 fun W3 hW => ?_
 replace hw : Below w.heap.size w W3 := by rw [hW]; exact hw
 replace Ba : Box W3 (w.heap.size) [.int .i64 a.x, .int .i64 a.y] 30 := by rw [hW]; exact Ba
 replace Bb : Box W3 (w.heap.size + 1) [.int .i64 b.x, .int .i64 b.y] 30 := by rw [hW]; exact Bb
 replace Bc : Box W3 (w.heap.size + 1 + 1) [.int .i64 c.x, .int .i64 c.y] 30 := by rw [hW]; exact Bc
 replace Br : Box W3 (w.heap.size + 1 + 1 + 1) [.int .i64 0, .int .i64 0, .int .i64 0, .int .i64 0, .int .i64 0, .int .i64 0] 38 := by rw [hW]; exact Br
 clear hW
 clear Fa Fb Fc Fr
 refine wp_loop_rounds 4 ?_
 try rw [rounds_succ]
 have Fa := Ba.facts
 have Fb := Bb.facts
 have Fc := Bc.facts
 have Fr := Br.facts
 go_wp2_with fail
 refine (kba _).mono ?_
 rintro e w4 ⟨rfl, hb⟩
 clear Fa Fb Fc Fr
 replace Ba := Ba.ee hb
 replace Bb := Bb.ee hb
 replace Bc := Bc.ee hb
 replace Br := Br.ee hb
 replace hw := upB hw hb
 clear hb
 have Fa := Ba.facts
 have Fb := Bb.facts
 have Fc := Bc.facts
 have Fr := Br.facts
 go_wp2_with fail
 refine (kca _).mono ?_
 rintro e w5 ⟨rfl, hb⟩
 clear Fa Fb Fc Fr
 replace Ba := Ba.ee hb
 replace Bb := Bb.ee hb
 replace Bc := Bc.ee hb
 replace Br := Br.ee hb
 replace hw := upB hw hb
 clear hb
 have Fa := Ba.facts
 have Fb := Bb.facts
 have Fc := Bc.facts
 have Fr := Br.facts
 go_wp2_with fail
 refine bodyPost_ret (v := .tuple #[.agg #[.int .i64 a.x, .int .i64 a.y, .int .i64 b.x, .int .i64 b.y, .int .i64 c.x, .int .i64 c.y], .bool true]) (by simp [results, Tryz.results47, go_sem, Fr]) rfl ⟨rfl, by have hl := hw.size; go_grown⟩
theorem rmake_p1 (a b c : Pt) (h0 : ori a b c = 1) (tba : decide (cmpP b a < 0) = true) (tcb : decide (cmpP c b < 0) = false) (tab : decide (cmpP a b < 0) = false) (w : World) :
    Calls Tryz.prog 47 #[.agg #[.int .i64 a.x, .int .i64 a.y], .agg #[.int .i64 b.x, .int .i64 b.y], .agg #[.int .i64 c.x, .int .i64 c.y]] w fun e w' => e = .returned (.tuple #[.agg #[.int .i64 b.x, .int .i64 b.y, .int .i64 c.x, .int .i64 c.y, .int .i64 a.x, .int .i64 a.y], .bool true]) ∧ Below w.heap.size w w' := by
 have co := zA6 a b c
 rw [h0] at co
 clear h0
 have kba := zAb b a
 generalize cmpP b a = nba at *
 have kcb := zAb c b
 generalize cmpP c b = ncb at *
 have kab := zAb a b
 generalize cmpP a b = nab at *
 go_enter Tryz.func47, Tryz.ntmps47
 go_wp2_with fail
 refine zA1 fun W1 hW => ?_
 have Ba : Box W1 (w.heap.size) [.int .i64 a.x, .int .i64 a.y] 30 := by rw [hW]; exact (((Box.new rfl).old _).old _).old _
 have Bb : Box W1 (w.heap.size + 1) [.int .i64 b.x, .int .i64 b.y] 30 := by rw [hW]; exact ((Box.new (by simp)).old _).old _
 have Bc : Box W1 (w.heap.size + 1 + 1) [.int .i64 c.x, .int .i64 c.y] 30 := by rw [hW]; exact (Box.new (by simp)).old _
 have Br : Box W1 (w.heap.size + 1 + 1 + 1) [.int .i64 0, .int .i64 0, .int .i64 0, .int .i64 0, .int .i64 0, .int .i64 0] 38 := by rw [hW]; exact Box.new (by simp)
 have hw : Below w.heap.size w W1 := by rw [hW]; go_grown
 clear hW
 refine (co _).mono ?_
 rintro e w2 ⟨rfl, hb⟩
 replace Ba := Ba.ee hb
 replace Bb := Bb.ee hb
 replace Bc := Bc.ee hb
 replace Br := Br.ee hb
 replace hw := upB hw hb
 clear hb
 have Fa := Ba.facts
 have Fb := Bb.facts
 have Fc := Bc.facts
 have Fr := Br.facts
 go_wp2_with fail
 refine zA2 fun W3 hW => ?_
 replace hw : Below w.heap.size w W3 := by rw [hW]; exact hw
 replace Ba : Box W3 (w.heap.size) [.int .i64 a.x, .int .i64 a.y] 30 := by rw [hW]; exact Ba
 replace Bb : Box W3 (w.heap.size + 1) [.int .i64 b.x, .int .i64 b.y] 30 := by rw [hW]; exact Bb
 replace Bc : Box W3 (w.heap.size + 1 + 1) [.int .i64 c.x, .int .i64 c.y] 30 := by rw [hW]; exact Bc
 replace Br : Box W3 (w.heap.size + 1 + 1 + 1) [.int .i64 0, .int .i64 0, .int .i64 0, .int .i64 0, .int .i64 0, .int .i64 0] 38 := by rw [hW]; exact Br
 clear hW
 clear Fa Fb Fc Fr
 refine wp_loop_rounds 4 ?_
 try rw [rounds_succ]
 have Fa := Ba.facts
 have Fb := Bb.facts
 have Fc := Bc.facts
 have Fr := Br.facts
 go_wp2_with fail
 refine (kba _).mono ?_
 rintro e w4 ⟨rfl, hb⟩
 clear Fa Fb Fc Fr
 replace Ba := Ba.ee hb
 replace Bb := Bb.ee hb
 replace Bc := Bc.ee hb
 replace Br := Br.ee hb
 replace hw := upB hw hb
 clear hb
 have Fa := Ba.facts
 have Fb := Bb.facts
 have Fc := Bc.facts
 have Fr := Br.facts
 go_wp2_with fail
 go_region
 go_wp2_with fail
 refine zA2 fun W5 hW => ?_
 have Ca : Box W5 (w.heap.size) [.int .i64 b.x, .int .i64 b.y] 30 := by rw [hW]; exact (((((((Ba.set 0 (.int .i64 b.x)).set 1 (.int .i64 b.y)).set_ne ⟨w.heap.size + 1, 0, none⟩ (.int .i64 c.x) (by show (w.heap.size + 1 : Nat) ≠ _; omega)).set_ne ⟨w.heap.size + 1, 1, none⟩ (.int .i64 c.y) (by show (w.heap.size + 1 : Nat) ≠ _; omega)).set_ne ⟨w.heap.size + 1 + 1, 0, none⟩ (.int .i64 a.x) (by show (w.heap.size + 1 + 1 : Nat) ≠ _; omega)).set_ne ⟨w.heap.size + 1 + 1, 1, none⟩ (.int .i64 a.y) (by show (w.heap.size + 1 + 1 : Nat) ≠ _; omega))).drew
 have Cb : Box W5 (w.heap.size + 1) [.int .i64 c.x, .int .i64 c.y] 30 := by rw [hW]; exact (((((((Bb.set_ne ⟨w.heap.size, 0, none⟩ (.int .i64 b.x) (by show (w.heap.size : Nat) ≠ _; omega)).set_ne ⟨w.heap.size, 1, none⟩ (.int .i64 b.y) (by show (w.heap.size : Nat) ≠ _; omega)).set 0 (.int .i64 c.x)).set 1 (.int .i64 c.y)).set_ne ⟨w.heap.size + 1 + 1, 0, none⟩ (.int .i64 a.x) (by show (w.heap.size + 1 + 1 : Nat) ≠ _; omega)).set_ne ⟨w.heap.size + 1 + 1, 1, none⟩ (.int .i64 a.y) (by show (w.heap.size + 1 + 1 : Nat) ≠ _; omega))).drew
 have Cc : Box W5 (w.heap.size + 1 + 1) [.int .i64 a.x, .int .i64 a.y] 30 := by rw [hW]; exact (((((((Bc.set_ne ⟨w.heap.size, 0, none⟩ (.int .i64 b.x) (by show (w.heap.size : Nat) ≠ _; omega)).set_ne ⟨w.heap.size, 1, none⟩ (.int .i64 b.y) (by show (w.heap.size : Nat) ≠ _; omega)).set_ne ⟨w.heap.size + 1, 0, none⟩ (.int .i64 c.x) (by show (w.heap.size + 1 : Nat) ≠ _; omega)).set_ne ⟨w.heap.size + 1, 1, none⟩ (.int .i64 c.y) (by show (w.heap.size + 1 : Nat) ≠ _; omega)).set 0 (.int .i64 a.x)).set 1 (.int .i64 a.y))).drew
 have Cr : Box W5 (w.heap.size + 1 + 1 + 1) [.int .i64 0, .int .i64 0, .int .i64 0, .int .i64 0, .int .i64 0, .int .i64 0] 38 := by rw [hW]; exact (((((((Br.set_ne ⟨w.heap.size, 0, none⟩ (.int .i64 b.x) (by show (w.heap.size : Nat) ≠ _; omega)).set_ne ⟨w.heap.size, 1, none⟩ (.int .i64 b.y) (by show (w.heap.size : Nat) ≠ _; omega)).set_ne ⟨w.heap.size + 1, 0, none⟩ (.int .i64 c.x) (by show (w.heap.size + 1 : Nat) ≠ _; omega)).set_ne ⟨w.heap.size + 1, 1, none⟩ (.int .i64 c.y) (by show (w.heap.size + 1 : Nat) ≠ _; omega)).set_ne ⟨w.heap.size + 1 + 1, 0, none⟩ (.int .i64 a.x) (by show (w.heap.size + 1 + 1 : Nat) ≠ _; omega)).set_ne ⟨w.heap.size + 1 + 1, 1, none⟩ (.int .i64 a.y) (by show (w.heap.size + 1 + 1 : Nat) ≠ _; omega))).drew
 replace hw : Below w.heap.size w W5 := by have hl := hw.size; rw [hW]; go_grown
 clear Fa Fb Fc Fr
 clear hW Ba Bb Bc Br
 have Ba := Ca
 have Bb := Cb
 have Bc := Cc
 have Br := Cr
 clear Ca Cb Cc Cr
 try rw [rounds_succ]
 have Fa := Ba.facts
 have Fb := Bb.facts
 have Fc := Bc.facts
 have Fr := Br.facts
 go_wp2_with fail
 refine (kcb _).mono ?_
 rintro e w6 ⟨rfl, hb⟩
 clear Fa Fb Fc Fr
 replace Ba := Ba.ee hb
 replace Bb := Bb.ee hb
 replace Bc := Bc.ee hb
 replace Br := Br.ee hb
 replace hw := upB hw hb
 clear hb
 have Fa := Ba.facts
 have Fb := Bb.facts
 have Fc := Bc.facts
 have Fr := Br.facts
 go_wp2_with fail
 refine (kab _).mono ?_
 rintro e w7 ⟨rfl, hb⟩
 clear Fa Fb Fc Fr
 replace Ba := Ba.ee hb
 replace Bb := Bb.ee hb
 replace Bc := Bc.ee hb
 replace Br := Br.ee hb
 replace hw := upB hw hb
 clear hb
 have Fa := Ba.facts
 have Fb := Bb.facts
 have Fc := Bc.facts
 have Fr := Br.facts
 go_wp2_with fail
 refine bodyPost_ret (v := .tuple #[.agg #[.int .i64 b.x, .int .i64 b.y, .int .i64 c.x, .int .i64 c.y, .int .i64 a.x, .int .i64 a.y], .bool true]) (by simp [results, Tryz.results47, go_sem, Fr]) rfl ⟨rfl, by have hl := hw.size; go_grown⟩
theorem rmake_p2 (a b c : Pt) (h0 : ori a b c = 1) (tba : decide (cmpP b a < 0) = true) (tcb : decide (cmpP c b < 0) = true) (tac : decide (cmpP a c < 0) = false) (tbc : decide (cmpP b c < 0) = false) (w : World) :
    Calls Tryz.prog 47 #[.agg #[.int .i64 a.x, .int .i64 a.y], .agg #[.int .i64 b.x, .int .i64 b.y], .agg #[.int .i64 c.x, .int .i64 c.y]] w fun e w' => e = .returned (.tuple #[.agg #[.int .i64 c.x, .int .i64 c.y, .int .i64 a.x, .int .i64 a.y, .int .i64 b.x, .int .i64 b.y], .bool true]) ∧ Below w.heap.size w w' := by
 have co := zA6 a b c
 rw [h0] at co
 clear h0
 have kba := zAb b a
 generalize cmpP b a = nba at *
 have kcb := zAb c b
 generalize cmpP c b = ncb at *
 have kac := zAb a c
 generalize cmpP a c = nac at *
 have kbc := zAb b c
 generalize cmpP b c = nbc at *
 go_enter Tryz.func47, Tryz.ntmps47
 go_wp2_with fail
 refine zA1 fun W1 hW => ?_
 have Ba : Box W1 (w.heap.size) [.int .i64 a.x, .int .i64 a.y] 30 := by rw [hW]; exact (((Box.new rfl).old _).old _).old _
 have Bb : Box W1 (w.heap.size + 1) [.int .i64 b.x, .int .i64 b.y] 30 := by rw [hW]; exact ((Box.new (by simp)).old _).old _
 have Bc : Box W1 (w.heap.size + 1 + 1) [.int .i64 c.x, .int .i64 c.y] 30 := by rw [hW]; exact (Box.new (by simp)).old _
 have Br : Box W1 (w.heap.size + 1 + 1 + 1) [.int .i64 0, .int .i64 0, .int .i64 0, .int .i64 0, .int .i64 0, .int .i64 0] 38 := by rw [hW]; exact Box.new (by simp)
 have hw : Below w.heap.size w W1 := by rw [hW]; go_grown
 clear hW
 refine (co _).mono ?_
 rintro e w2 ⟨rfl, hb⟩
 replace Ba := Ba.ee hb
 replace Bb := Bb.ee hb
 replace Bc := Bc.ee hb
 replace Br := Br.ee hb
 replace hw := upB hw hb
 clear hb
 have Fa := Ba.facts
 have Fb := Bb.facts
 have Fc := Bc.facts
 have Fr := Br.facts
 go_wp2_with fail
 refine zA2 fun W3 hW => ?_
 replace hw : Below w.heap.size w W3 := by rw [hW]; exact hw
 replace Ba : Box W3 (w.heap.size) [.int .i64 a.x, .int .i64 a.y] 30 := by rw [hW]; exact Ba
 replace Bb : Box W3 (w.heap.size + 1) [.int .i64 b.x, .int .i64 b.y] 30 := by rw [hW]; exact Bb
 replace Bc : Box W3 (w.heap.size + 1 + 1) [.int .i64 c.x, .int .i64 c.y] 30 := by rw [hW]; exact Bc
 replace Br : Box W3 (w.heap.size + 1 + 1 + 1) [.int .i64 0, .int .i64 0, .int .i64 0, .int .i64 0, .int .i64 0, .int .i64 0] 38 := by rw [hW]; exact Br
 clear hW
 clear Fa Fb Fc Fr
 refine wp_loop_rounds 4 ?_
 try rw [rounds_succ]
 have Fa := Ba.facts
 have Fb := Bb.facts
 have Fc := Bc.facts
 have Fr := Br.facts
 go_wp2_with fail
 refine (kba _).mono ?_
 rintro e w4 ⟨rfl, hb⟩
 clear Fa Fb Fc Fr
 replace Ba := Ba.ee hb
 replace Bb := Bb.ee hb
 replace Bc := Bc.ee hb
 replace Br := Br.ee hb
 replace hw := upB hw hb
 clear hb
 have Fa := Ba.facts
 have Fb := Bb.facts
 have Fc := Bc.facts
 have Fr := Br.facts
 go_wp2_with fail
 go_region
 go_wp2_with fail
 refine zA2 fun W5 hW => ?_
 have Ca : Box W5 (w.heap.size) [.int .i64 b.x, .int .i64 b.y] 30 := by rw [hW]; exact (((((((Ba.set 0 (.int .i64 b.x)).set 1 (.int .i64 b.y)).set_ne ⟨w.heap.size + 1, 0, none⟩ (.int .i64 c.x) (by show (w.heap.size + 1 : Nat) ≠ _; omega)).set_ne ⟨w.heap.size + 1, 1, none⟩ (.int .i64 c.y) (by show (w.heap.size + 1 : Nat) ≠ _; omega)).set_ne ⟨w.heap.size + 1 + 1, 0, none⟩ (.int .i64 a.x) (by show (w.heap.size + 1 + 1 : Nat) ≠ _; omega)).set_ne ⟨w.heap.size + 1 + 1, 1, none⟩ (.int .i64 a.y) (by show (w.heap.size + 1 + 1 : Nat) ≠ _; omega))).drew
 have Cb : Box W5 (w.heap.size + 1) [.int .i64 c.x, .int .i64 c.y] 30 := by rw [hW]; exact (((((((Bb.set_ne ⟨w.heap.size, 0, none⟩ (.int .i64 b.x) (by show (w.heap.size : Nat) ≠ _; omega)).set_ne ⟨w.heap.size, 1, none⟩ (.int .i64 b.y) (by show (w.heap.size : Nat) ≠ _; omega)).set 0 (.int .i64 c.x)).set 1 (.int .i64 c.y)).set_ne ⟨w.heap.size + 1 + 1, 0, none⟩ (.int .i64 a.x) (by show (w.heap.size + 1 + 1 : Nat) ≠ _; omega)).set_ne ⟨w.heap.size + 1 + 1, 1, none⟩ (.int .i64 a.y) (by show (w.heap.size + 1 + 1 : Nat) ≠ _; omega))).drew
 have Cc : Box W5 (w.heap.size + 1 + 1) [.int .i64 a.x, .int .i64 a.y] 30 := by rw [hW]; exact (((((((Bc.set_ne ⟨w.heap.size, 0, none⟩ (.int .i64 b.x) (by show (w.heap.size : Nat) ≠ _; omega)).set_ne ⟨w.heap.size, 1, none⟩ (.int .i64 b.y) (by show (w.heap.size : Nat) ≠ _; omega)).set_ne ⟨w.heap.size + 1, 0, none⟩ (.int .i64 c.x) (by show (w.heap.size + 1 : Nat) ≠ _; omega)).set_ne ⟨w.heap.size + 1, 1, none⟩ (.int .i64 c.y) (by show (w.heap.size + 1 : Nat) ≠ _; omega)).set 0 (.int .i64 a.x)).set 1 (.int .i64 a.y))).drew
 have Cr : Box W5 (w.heap.size + 1 + 1 + 1) [.int .i64 0, .int .i64 0, .int .i64 0, .int .i64 0, .int .i64 0, .int .i64 0] 38 := by rw [hW]; exact (((((((Br.set_ne ⟨w.heap.size, 0, none⟩ (.int .i64 b.x) (by show (w.heap.size : Nat) ≠ _; omega)).set_ne ⟨w.heap.size, 1, none⟩ (.int .i64 b.y) (by show (w.heap.size : Nat) ≠ _; omega)).set_ne ⟨w.heap.size + 1, 0, none⟩ (.int .i64 c.x) (by show (w.heap.size + 1 : Nat) ≠ _; omega)).set_ne ⟨w.heap.size + 1, 1, none⟩ (.int .i64 c.y) (by show (w.heap.size + 1 : Nat) ≠ _; omega)).set_ne ⟨w.heap.size + 1 + 1, 0, none⟩ (.int .i64 a.x) (by show (w.heap.size + 1 + 1 : Nat) ≠ _; omega)).set_ne ⟨w.heap.size + 1 + 1, 1, none⟩ (.int .i64 a.y) (by show (w.heap.size + 1 + 1 : Nat) ≠ _; omega))).drew
 replace hw : Below w.heap.size w W5 := by have hl := hw.size; rw [hW]; go_grown
 clear Fa Fb Fc Fr
 clear hW Ba Bb Bc Br
 have Ba := Ca
 have Bb := Cb
 have Bc := Cc
 have Br := Cr
 clear Ca Cb Cc Cr
 try rw [rounds_succ]
 have Fa := Ba.facts
 have Fb := Bb.facts
 have Fc := Bc.facts
 have Fr := Br.facts
 go_wp2_with fail
 refine (kcb _).mono ?_
 rintro e w6 ⟨rfl, hb⟩
 clear Fa Fb Fc Fr
 replace Ba := Ba.ee hb
 replace Bb := Bb.ee hb
 replace Bc := Bc.ee hb
 replace Br := Br.ee hb
 replace hw := upB hw hb
 clear hb
 have Fa := Ba.facts
 have Fb := Bb.facts
 have Fc := Bc.facts
 have Fr := Br.facts
 go_wp2_with fail
 go_region
 go_wp2_with fail
 refine zA2 fun W7 hW => ?_
 have Ca : Box W7 (w.heap.size) [.int .i64 c.x, .int .i64 c.y] 30 := by rw [hW]; exact (((((((Ba.set 0 (.int .i64 c.x)).set 1 (.int .i64 c.y)).set_ne ⟨w.heap.size + 1, 0, none⟩ (.int .i64 a.x) (by show (w.heap.size + 1 : Nat) ≠ _; omega)).set_ne ⟨w.heap.size + 1, 1, none⟩ (.int .i64 a.y) (by show (w.heap.size + 1 : Nat) ≠ _; omega)).set_ne ⟨w.heap.size + 1 + 1, 0, none⟩ (.int .i64 b.x) (by show (w.heap.size + 1 + 1 : Nat) ≠ _; omega)).set_ne ⟨w.heap.size + 1 + 1, 1, none⟩ (.int .i64 b.y) (by show (w.heap.size + 1 + 1 : Nat) ≠ _; omega))).drew
 have Cb : Box W7 (w.heap.size + 1) [.int .i64 a.x, .int .i64 a.y] 30 := by rw [hW]; exact (((((((Bb.set_ne ⟨w.heap.size, 0, none⟩ (.int .i64 c.x) (by show (w.heap.size : Nat) ≠ _; omega)).set_ne ⟨w.heap.size, 1, none⟩ (.int .i64 c.y) (by show (w.heap.size : Nat) ≠ _; omega)).set 0 (.int .i64 a.x)).set 1 (.int .i64 a.y)).set_ne ⟨w.heap.size + 1 + 1, 0, none⟩ (.int .i64 b.x) (by show (w.heap.size + 1 + 1 : Nat) ≠ _; omega)).set_ne ⟨w.heap.size + 1 + 1, 1, none⟩ (.int .i64 b.y) (by show (w.heap.size + 1 + 1 : Nat) ≠ _; omega))).drew
 have Cc : Box W7 (w.heap.size + 1 + 1) [.int .i64 b.x, .int .i64 b.y] 30 := by rw [hW]; exact (((((((Bc.set_ne ⟨w.heap.size, 0, none⟩ (.int .i64 c.x) (by show (w.heap.size : Nat) ≠ _; omega)).set_ne ⟨w.heap.size, 1, none⟩ (.int .i64 c.y) (by show (w.heap.size : Nat) ≠ _; omega)).set_ne ⟨w.heap.size + 1, 0, none⟩ (.int .i64 a.x) (by show (w.heap.size + 1 : Nat) ≠ _; omega)).set_ne ⟨w.heap.size + 1, 1, none⟩ (.int .i64 a.y) (by show (w.heap.size + 1 : Nat) ≠ _; omega)).set 0 (.int .i64 b.x)).set 1 (.int .i64 b.y))).drew
 have Cr : Box W7 (w.heap.size + 1 + 1 + 1) [.int .i64 0, .int .i64 0, .int .i64 0, .int .i64 0, .int .i64 0, .int .i64 0] 38 := by rw [hW]; exact (((((((Br.set_ne ⟨w.heap.size, 0, none⟩ (.int .i64 c.x) (by show (w.heap.size : Nat) ≠ _; omega)).set_ne ⟨w.heap.size, 1, none⟩ (.int .i64 c.y) (by show (w.heap.size : Nat) ≠ _; omega)).set_ne ⟨w.heap.size + 1, 0, none⟩ (.int .i64 a.x) (by show (w.heap.size + 1 : Nat) ≠ _; omega)).set_ne ⟨w.heap.size + 1, 1, none⟩ (.int .i64 a.y) (by show (w.heap.size + 1 : Nat) ≠ _; omega)).set_ne ⟨w.heap.size + 1 + 1, 0, none⟩ (.int .i64 b.x) (by show (w.heap.size + 1 + 1 : Nat) ≠ _; omega)).set_ne ⟨w.heap.size + 1 + 1, 1, none⟩ (.int .i64 b.y) (by show (w.heap.size + 1 + 1 : Nat) ≠ _; omega))).drew
 replace hw : Below w.heap.size w W7 := by have hl := hw.size; rw [hW]; go_grown
 clear Fa Fb Fc Fr
 clear hW Ba Bb Bc Br
 have Ba := Ca
 have Bb := Cb
 have Bc := Cc
 have Br := Cr
 clear Ca Cb Cc Cr
 try rw [rounds_succ]
 have Fa := Ba.facts
 have Fb := Bb.facts
 have Fc := Bc.facts
 have Fr := Br.facts
 go_wp2_with fail
 refine (kac _).mono ?_
 rintro e w8 ⟨rfl, hb⟩
 clear Fa Fb Fc Fr
 replace Ba := Ba.ee hb
 replace Bb := Bb.ee hb
 replace Bc := Bc.ee hb
 replace Br := Br.ee hb
 replace hw := upB hw hb
 clear hb
 have Fa := Ba.facts
 have Fb := Bb.facts
 have Fc := Bc.facts
 have Fr := Br.facts
 go_wp2_with fail
 refine (kbc _).mono ?_
 rintro e w9 ⟨rfl, hb⟩
 clear Fa Fb Fc Fr
 replace Ba := Ba.ee hb
 replace Bb := Bb.ee hb
 replace Bc := Bc.ee hb
 replace Br := Br.ee hb
 replace hw := upB hw hb
 clear hb
 have Fa := Ba.facts
 have Fb := Bb.facts
 have Fc := Bc.facts
 have Fr := Br.facts
 go_wp2_with fail
 refine bodyPost_ret (v := .tuple #[.agg #[.int .i64 c.x, .int .i64 c.y, .int .i64 a.x, .int .i64 a.y, .int .i64 b.x, .int .i64 b.y], .bool true]) (by simp [results, Tryz.results47, go_sem, Fr]) rfl ⟨rfl, by have hl := hw.size; go_grown⟩
theorem rmake_p3 (a b c : Pt) (h0 : ori a b c = 1) (tba : decide (cmpP b a < 0) = false) (tca : decide (cmpP c a < 0) = true) (tcb : decide (cmpP c b < 0) = true) (tac : decide (cmpP a c < 0) = false) (tbc : decide (cmpP b c < 0) = false) (w : World) :
    Calls Tryz.prog 47 #[.agg #[.int .i64 a.x, .int .i64 a.y], .agg #[.int .i64 b.x, .int .i64 b.y], .agg #[.int .i64 c.x, .int .i64 c.y]] w fun e w' => e = .returned (.tuple #[.agg #[.int .i64 c.x, .int .i64 c.y, .int .i64 a.x, .int .i64 a.y, .int .i64 b.x, .int .i64 b.y], .bool true]) ∧ Below w.heap.size w w' := by
 have co := zA6 a b c
 rw [h0] at co
 clear h0
 have kba := zAb b a
 generalize cmpP b a = nba at *
 have kca := zAb c a
 generalize cmpP c a = nca at *
 have kcb := zAb c b
 generalize cmpP c b = ncb at *
 have kac := zAb a c
 generalize cmpP a c = nac at *
 have kbc := zAb b c
 generalize cmpP b c = nbc at *
 go_enter Tryz.func47, Tryz.ntmps47
 go_wp2_with fail
 refine zA1 fun W1 hW => ?_
 have Ba : Box W1 (w.heap.size) [.int .i64 a.x, .int .i64 a.y] 30 := by rw [hW]; exact (((Box.new rfl).old _).old _).old _
 have Bb : Box W1 (w.heap.size + 1) [.int .i64 b.x, .int .i64 b.y] 30 := by rw [hW]; exact ((Box.new (by simp)).old _).old _
 have Bc : Box W1 (w.heap.size + 1 + 1) [.int .i64 c.x, .int .i64 c.y] 30 := by rw [hW]; exact (Box.new (by simp)).old _
 have Br : Box W1 (w.heap.size + 1 + 1 + 1) [.int .i64 0, .int .i64 0, .int .i64 0, .int .i64 0, .int .i64 0, .int .i64 0] 38 := by rw [hW]; exact Box.new (by simp)
 have hw : Below w.heap.size w W1 := by rw [hW]; go_grown
 clear hW
 refine (co _).mono ?_
 rintro e w2 ⟨rfl, hb⟩
 replace Ba := Ba.ee hb
 replace Bb := Bb.ee hb
 replace Bc := Bc.ee hb
 replace Br := Br.ee hb
 replace hw := upB hw hb
 clear hb
 have Fa := Ba.facts
 have Fb := Bb.facts
 have Fc := Bc.facts
 have Fr := Br.facts
 go_wp2_with fail
 refine zA2 fun W3 hW => ?_
 replace hw : Below w.heap.size w W3 := by rw [hW]; exact hw
 replace Ba : Box W3 (w.heap.size) [.int .i64 a.x, .int .i64 a.y] 30 := by rw [hW]; exact Ba
 replace Bb : Box W3 (w.heap.size + 1) [.int .i64 b.x, .int .i64 b.y] 30 := by rw [hW]; exact Bb
 replace Bc : Box W3 (w.heap.size + 1 + 1) [.int .i64 c.x, .int .i64 c.y] 30 := by rw [hW]; exact Bc
 replace Br : Box W3 (w.heap.size + 1 + 1 + 1) [.int .i64 0, .int .i64 0, .int .i64 0, .int .i64 0, .int .i64 0, .int .i64 0] 38 := by rw [hW]; exact Br
 clear hW
 clear Fa Fb Fc Fr
 refine wp_loop_rounds 4 ?_
 try rw [rounds_succ]
 have Fa := Ba.facts
 have Fb := Bb.facts
 have Fc := Bc.facts
 have Fr := Br.facts
 go_wp2_with fail
 refine (kba _).mono ?_
 rintro e w4 ⟨rfl, hb⟩
 clear Fa Fb Fc Fr
 replace Ba := Ba.ee hb
 replace Bb := Bb.ee hb
 replace Bc := Bc.ee hb
 replace Br := Br.ee hb
 replace hw := upB hw hb
 clear hb
 have Fa := Ba.facts
 have Fb := Bb.facts
 have Fc := Bc.facts
 have Fr := Br.facts
 go_wp2_with fail
 refine (kca _).mono ?_
 rintro e w5 ⟨rfl, hb⟩
 clear Fa Fb Fc Fr
 replace Ba := Ba.ee hb
 replace Bb := Bb.ee hb
 replace Bc := Bc.ee hb
 replace Br := Br.ee hb
 replace hw := upB hw hb
 clear hb
 have Fa := Ba.facts
 have Fb := Bb.facts
 have Fc := Bc.facts
 have Fr := Br.facts
 go_wp2_with fail
 go_region
 go_wp2_with fail
 refine zA2 fun W6 hW => ?_
 have Ca : Box W6 (w.heap.size) [.int .i64 b.x, .int .i64 b.y] 30 := by rw [hW]; exact (((((((Ba.set 0 (.int .i64 b.x)).set 1 (.int .i64 b.y)).set_ne ⟨w.heap.size + 1, 0, none⟩ (.int .i64 c.x) (by show (w.heap.size + 1 : Nat) ≠ _; omega)).set_ne ⟨w.heap.size + 1, 1, none⟩ (.int .i64 c.y) (by show (w.heap.size + 1 : Nat) ≠ _; omega)).set_ne ⟨w.heap.size + 1 + 1, 0, none⟩ (.int .i64 a.x) (by show (w.heap.size + 1 + 1 : Nat) ≠ _; omega)).set_ne ⟨w.heap.size + 1 + 1, 1, none⟩ (.int .i64 a.y) (by show (w.heap.size + 1 + 1 : Nat) ≠ _; omega))).drew
 have Cb : Box W6 (w.heap.size + 1) [.int .i64 c.x, .int .i64 c.y] 30 := by rw [hW]; exact (((((((Bb.set_ne ⟨w.heap.size, 0, none⟩ (.int .i64 b.x) (by show (w.heap.size : Nat) ≠ _; omega)).set_ne ⟨w.heap.size, 1, none⟩ (.int .i64 b.y) (by show (w.heap.size : Nat) ≠ _; omega)).set 0 (.int .i64 c.x)).set 1 (.int .i64 c.y)).set_ne ⟨w.heap.size + 1 + 1, 0, none⟩ (.int .i64 a.x) (by show (w.heap.size + 1 + 1 : Nat) ≠ _; omega)).set_ne ⟨w.heap.size + 1 + 1, 1, none⟩ (.int .i64 a.y) (by show (w.heap.size + 1 + 1 : Nat) ≠ _; omega))).drew
 have Cc : Box W6 (w.heap.size + 1 + 1) [.int .i64 a.x, .int .i64 a.y] 30 := by rw [hW]; exact (((((((Bc.set_ne ⟨w.heap.size, 0, none⟩ (.int .i64 b.x) (by show (w.heap.size : Nat) ≠ _; omega)).set_ne ⟨w.heap.size, 1, none⟩ (.int .i64 b.y) (by show (w.heap.size : Nat) ≠ _; omega)).set_ne ⟨w.heap.size + 1, 0, none⟩ (.int .i64 c.x) (by show (w.heap.size + 1 : Nat) ≠ _; omega)).set_ne ⟨w.heap.size + 1, 1, none⟩ (.int .i64 c.y) (by show (w.heap.size + 1 : Nat) ≠ _; omega)).set 0 (.int .i64 a.x)).set 1 (.int .i64 a.y))).drew
 have Cr : Box W6 (w.heap.size + 1 + 1 + 1) [.int .i64 0, .int .i64 0, .int .i64 0, .int .i64 0, .int .i64 0, .int .i64 0] 38 := by rw [hW]; exact (((((((Br.set_ne ⟨w.heap.size, 0, none⟩ (.int .i64 b.x) (by show (w.heap.size : Nat) ≠ _; omega)).set_ne ⟨w.heap.size, 1, none⟩ (.int .i64 b.y) (by show (w.heap.size : Nat) ≠ _; omega)).set_ne ⟨w.heap.size + 1, 0, none⟩ (.int .i64 c.x) (by show (w.heap.size + 1 : Nat) ≠ _; omega)).set_ne ⟨w.heap.size + 1, 1, none⟩ (.int .i64 c.y) (by show (w.heap.size + 1 : Nat) ≠ _; omega)).set_ne ⟨w.heap.size + 1 + 1, 0, none⟩ (.int .i64 a.x) (by show (w.heap.size + 1 + 1 : Nat) ≠ _; omega)).set_ne ⟨w.heap.size + 1 + 1, 1, none⟩ (.int .i64 a.y) (by show (w.heap.size + 1 + 1 : Nat) ≠ _; omega))).drew
 replace hw : Below w.heap.size w W6 := by have hl := hw.size; rw [hW]; go_grown
 clear Fa Fb Fc Fr
 clear hW Ba Bb Bc Br
 have Ba := Ca
 have Bb := Cb
 have Bc := Cc
 have Br := Cr
 clear Ca Cb Cc Cr
 try rw [rounds_succ]
 have Fa := Ba.facts
 have Fb := Bb.facts
 have Fc := Bc.facts
 have Fr := Br.facts
 go_wp2_with fail
 refine (kcb _).mono ?_
 rintro e w7 ⟨rfl, hb⟩
 clear Fa Fb Fc Fr
 replace Ba := Ba.ee hb
 replace Bb := Bb.ee hb
 replace Bc := Bc.ee hb
 replace Br := Br.ee hb
 replace hw := upB hw hb
 clear hb
 have Fa := Ba.facts
 have Fb := Bb.facts
 have Fc := Bc.facts
 have Fr := Br.facts
 go_wp2_with fail
 go_region
 go_wp2_with fail
 refine zA2 fun W8 hW => ?_
 have Ca : Box W8 (w.heap.size) [.int .i64 c.x, .int .i64 c.y] 30 := by rw [hW]; exact (((((((Ba.set 0 (.int .i64 c.x)).set 1 (.int .i64 c.y)).set_ne ⟨w.heap.size + 1, 0, none⟩ (.int .i64 a.x) (by show (w.heap.size + 1 : Nat) ≠ _; omega)).set_ne ⟨w.heap.size + 1, 1, none⟩ (.int .i64 a.y) (by show (w.heap.size + 1 : Nat) ≠ _; omega)).set_ne ⟨w.heap.size + 1 + 1, 0, none⟩ (.int .i64 b.x) (by show (w.heap.size + 1 + 1 : Nat) ≠ _; omega)).set_ne ⟨w.heap.size + 1 + 1, 1, none⟩ (.int .i64 b.y) (by show (w.heap.size + 1 + 1 : Nat) ≠ _; omega))).drew
 have Cb : Box W8 (w.heap.size + 1) [.int .i64 a.x, .int .i64 a.y] 30 := by rw [hW]; exact (((((((Bb.set_ne ⟨w.heap.size, 0, none⟩ (.int .i64 c.x) (by show (w.heap.size : Nat) ≠ _; omega)).set_ne ⟨w.heap.size, 1, none⟩ (.int .i64 c.y) (by show (w.heap.size : Nat) ≠ _; omega)).set 0 (.int .i64 a.x)).set 1 (.int .i64 a.y)).set_ne ⟨w.heap.size + 1 + 1, 0, none⟩ (.int .i64 b.x) (by show (w.heap.size + 1 + 1 : Nat) ≠ _; omega)).set_ne ⟨w.heap.size + 1 + 1, 1, none⟩ (.int .i64 b.y) (by show (w.heap.size + 1 + 1 : Nat) ≠ _; omega))).drew
 have Cc : Box W8 (w.heap.size + 1 + 1) [.int .i64 b.x, .int .i64 b.y] 30 := by rw [hW]; exact (((((((Bc.set_ne ⟨w.heap.size, 0, none⟩ (.int .i64 c.x) (by show (w.heap.size : Nat) ≠ _; omega)).set_ne ⟨w.heap.size, 1, none⟩ (.int .i64 c.y) (by show (w.heap.size : Nat) ≠ _; omega)).set_ne ⟨w.heap.size + 1, 0, none⟩ (.int .i64 a.x) (by show (w.heap.size + 1 : Nat) ≠ _; omega)).set_ne ⟨w.heap.size + 1, 1, none⟩ (.int .i64 a.y) (by show (w.heap.size + 1 : Nat) ≠ _; omega)).set 0 (.int .i64 b.x)).set 1 (.int .i64 b.y))).drew
 have Cr : Box W8 (w.heap.size + 1 + 1 + 1) [.int .i64 0, .int .i64 0, .int .i64 0, .int .i64 0, .int .i64 0, .int .i64 0] 38 := by rw [hW]; exact (((((((Br.set_ne ⟨w.heap.size, 0, none⟩ (.int .i64 c.x) (by show (w.heap.size : Nat) ≠ _; omega)).set_ne ⟨w.heap.size, 1, none⟩ (.int .i64 c.y) (by show (w.heap.size : Nat) ≠ _; omega)).set_ne ⟨w.heap.size + 1, 0, none⟩ (.int .i64 a.x) (by show (w.heap.size + 1 : Nat) ≠ _; omega)).set_ne ⟨w.heap.size + 1, 1, none⟩ (.int .i64 a.y) (by show (w.heap.size + 1 : Nat) ≠ _; omega)).set_ne ⟨w.heap.size + 1 + 1, 0, none⟩ (.int .i64 b.x) (by show (w.heap.size + 1 + 1 : Nat) ≠ _; omega)).set_ne ⟨w.heap.size + 1 + 1, 1, none⟩ (.int .i64 b.y) (by show (w.heap.size + 1 + 1 : Nat) ≠ _; omega))).drew
 replace hw : Below w.heap.size w W8 := by have hl := hw.size; rw [hW]; go_grown
 clear Fa Fb Fc Fr
 clear hW Ba Bb Bc Br
 have Ba := Ca
 have Bb := Cb
 have Bc := Cc
 have Br := Cr
 clear Ca Cb Cc Cr
 try rw [rounds_succ]
 have Fa := Ba.facts
 have Fb := Bb.facts
 have Fc := Bc.facts
 have Fr := Br.facts
 go_wp2_with fail
 refine (kac _).mono ?_
 rintro e w9 ⟨rfl, hb⟩
 clear Fa Fb Fc Fr
 replace Ba := Ba.ee hb
 replace Bb := Bb.ee hb
 replace Bc := Bc.ee hb
 replace Br := Br.ee hb
 replace hw := upB hw hb
 clear hb
 have Fa := Ba.facts
 have Fb := Bb.facts
 have Fc := Bc.facts
 have Fr := Br.facts
 go_wp2_with fail
 refine (kbc _).mono ?_
 rintro e w10 ⟨rfl, hb⟩
 clear Fa Fb Fc Fr
 replace Ba := Ba.ee hb
 replace Bb := Bb.ee hb
 replace Bc := Bc.ee hb
 replace Br := Br.ee hb
 replace hw := upB hw hb
 clear hb
 have Fa := Ba.facts
 have Fb := Bb.facts
 have Fc := Bc.facts
 have Fr := Br.facts
 go_wp2_with fail
 refine bodyPost_ret (v := .tuple #[.agg #[.int .i64 c.x, .int .i64 c.y, .int .i64 a.x, .int .i64 a.y, .int .i64 b.x, .int .i64 b.y], .bool true]) (by simp [results, Tryz.results47, go_sem, Fr]) rfl ⟨rfl, by have hl := hw.size; go_grown⟩
theorem rmake_n0 (a b c : Pt) (h0 : ori a b c = -1) (tca : decide (cmpP c a < 0) = false) (tba : decide (cmpP b a < 0) = false) (w : World) :
    Calls Tryz.prog 47 #[.agg #[.int .i64 a.x, .int .i64 a.y], .agg #[.int .i64 b.x, .int .i64 b.y], .agg #[.int .i64 c.x, .int .i64 c.y]] w fun e w' => e = .returned (.tuple #[.agg #[.int .i64 a.x, .int .i64 a.y, .int .i64 c.x, .int .i64 c.y, .int .i64 b.x, .int .i64 b.y], .bool true]) ∧ Below w.heap.size w w' := by
 have co := zA6 a b c
 rw [h0] at co
 clear h0
 have kca := zAb c a
 generalize cmpP c a = nca at *
 have kba := zAb b a
 generalize cmpP b a = nba at *
 go_enter Tryz.func47, Tryz.ntmps47
 go_wp2_with fail
 refine zA1 fun W1 hW => ?_
 have Ba : Box W1 (w.heap.size) [.int .i64 a.x, .int .i64 a.y] 30 := by rw [hW]; exact (((Box.new rfl).old _).old _).old _
 have Bb : Box W1 (w.heap.size + 1) [.int .i64 b.x, .int .i64 b.y] 30 := by rw [hW]; exact ((Box.new (by simp)).old _).old _
 have Bc : Box W1 (w.heap.size + 1 + 1) [.int .i64 c.x, .int .i64 c.y] 30 := by rw [hW]; exact (Box.new (by simp)).old _
 have Br : Box W1 (w.heap.size + 1 + 1 + 1) [.int .i64 0, .int .i64 0, .int .i64 0, .int .i64 0, .int .i64 0, .int .i64 0] 38 := by rw [hW]; exact Box.new (by simp)
 have hw : Below w.heap.size w W1 := by rw [hW]; go_grown
 clear hW
 refine (co _).mono ?_
 rintro e w2 ⟨rfl, hb⟩
 replace Ba := Ba.ee hb
 replace Bb := Bb.ee hb
 replace Bc := Bc.ee hb
 replace Br := Br.ee hb
 replace hw := upB hw hb
 clear hb
 have Fa := Ba.facts
 have Fb := Bb.facts
 have Fc := Bc.facts
 have Fr := Br.facts
 go_wp2_with fail
 refine zA2 fun W3 hW => ?_
 have Ca : Box W3 (w.heap.size) [.int .i64 a.x, .int .i64 a.y] 30 := by rw [hW]; exact ((((Ba.set_ne ⟨w.heap.size + 1, 0, none⟩ (.int .i64 c.x) (by show (w.heap.size + 1 : Nat) ≠ _; omega)).set_ne ⟨w.heap.size + 1, 1, none⟩ (.int .i64 c.y) (by show (w.heap.size + 1 : Nat) ≠ _; omega)).set_ne ⟨w.heap.size + 1 + 1, 0, none⟩ (.int .i64 b.x) (by show (w.heap.size + 1 + 1 : Nat) ≠ _; omega)).set_ne ⟨w.heap.size + 1 + 1, 1, none⟩ (.int .i64 b.y) (by show (w.heap.size + 1 + 1 : Nat) ≠ _; omega))
 have Cb : Box W3 (w.heap.size + 1) [.int .i64 c.x, .int .i64 c.y] 30 := by rw [hW]; exact ((((Bb.set 0 (.int .i64 c.x)).set 1 (.int .i64 c.y)).set_ne ⟨w.heap.size + 1 + 1, 0, none⟩ (.int .i64 b.x) (by show (w.heap.size + 1 + 1 : Nat) ≠ _; omega)).set_ne ⟨w.heap.size + 1 + 1, 1, none⟩ (.int .i64 b.y) (by show (w.heap.size + 1 + 1 : Nat) ≠ _; omega))
 have Cc : Box W3 (w.heap.size + 1 + 1) [.int .i64 b.x, .int .i64 b.y] 30 := by rw [hW]; exact ((((Bc.set_ne ⟨w.heap.size + 1, 0, none⟩ (.int .i64 c.x) (by show (w.heap.size + 1 : Nat) ≠ _; omega)).set_ne ⟨w.heap.size + 1, 1, none⟩ (.int .i64 c.y) (by show (w.heap.size + 1 : Nat) ≠ _; omega)).set 0 (.int .i64 b.x)).set 1 (.int .i64 b.y))
 have Cr : Box W3 (w.heap.size + 1 + 1 + 1) [.int .i64 0, .int .i64 0, .int .i64 0, .int .i64 0, .int .i64 0, .int .i64 0] 38 := by rw [hW]; exact ((((Br.set_ne ⟨w.heap.size + 1, 0, none⟩ (.int .i64 c.x) (by show (w.heap.size + 1 : Nat) ≠ _; omega)).set_ne ⟨w.heap.size + 1, 1, none⟩ (.int .i64 c.y) (by show (w.heap.size + 1 : Nat) ≠ _; omega)).set_ne ⟨w.heap.size + 1 + 1, 0, none⟩ (.int .i64 b.x) (by show (w.heap.size + 1 + 1 : Nat) ≠ _; omega)).set_ne ⟨w.heap.size + 1 + 1, 1, none⟩ (.int .i64 b.y) (by show (w.heap.size + 1 + 1 : Nat) ≠ _; omega))
 replace hw : Below w.heap.size w W3 := by have hl := hw.size; rw [hW]; go_grown
 clear Fa Fb Fc Fr
 clear hW Ba Bb Bc Br
 have Ba := Ca
 have Bb := Cb
 have Bc := Cc
 have Br := Cr
 clear Ca Cb Cc Cr
 refine wp_loop_rounds 4 ?_
 try rw [rounds_succ]
 have Fa := Ba.facts
 have Fb := Bb.facts
 have Fc := Bc.facts
 have Fr := Br.facts
 go_wp2_with fail
 refine (kca _).mono ?_
 rintro e w4 ⟨rfl, hb⟩
 clear Fa Fb Fc Fr
 replace Ba := Ba.ee hb
 replace Bb := Bb.ee hb
 replace Bc := Bc.ee hb
 replace Br := Br.ee hb
 replace hw := upB hw hb
 clear hb
 have Fa := Ba.facts
 have Fb := Bb.facts
 have Fc := Bc.facts
 have Fr := Br.facts
 go_wp2_with fail
 refine (kba _).mono ?_
 rintro e w5 ⟨rfl, hb⟩
 clear Fa Fb Fc Fr
 replace Ba := Ba.ee hb
 replace Bb := Bb.ee hb
 replace Bc := Bc.ee hb
 replace Br := Br.ee hb
 replace hw := upB hw hb
 clear hb
 have Fa := Ba.facts
 have Fb := Bb.facts
 have Fc := Bc.facts
 have Fr := Br.facts
 go_wp2_with fail
 refine bodyPost_ret (v := .tuple #[.agg #[.int .i64 a.x, .int .i64 a.y, .int .i64 c.x, .int .i64 c.y, .int .i64 b.x, .int .i64 b.y], .bool true]) (by simp [results, Tryz.results47, go_sem, Fr]) rfl ⟨rfl, by have hl := hw.size; go_grown⟩
theorem rmake_n1 (a b c : Pt) (h0 : ori a b c = -1) (tca : decide (cmpP c a < 0) = true) (tbc : decide (cmpP b c < 0) = false) (tac : decide (cmpP a c < 0) = false) (w : World) :
    Calls Tryz.prog 47 #[.agg #[.int .i64 a.x, .int .i64 a.y], .agg #[.int .i64 b.x, .int .i64 b.y], .agg #[.int .i64 c.x, .int .i64 c.y]] w fun e w' => e = .returned (.tuple #[.agg #[.int .i64 c.x, .int .i64 c.y, .int .i64 b.x, .int .i64 b.y, .int .i64 a.x, .int .i64 a.y], .bool true]) ∧ Below w.heap.size w w' := by
 have co := zA6 a b c
 rw [h0] at co
 clear h0
 have kca := zAb c a
 generalize cmpP c a = nca at *
 have kbc := zAb b c
 generalize cmpP b c = nbc at *
 have kac := zAb a c
 generalize cmpP a c = nac at *
 go_enter Tryz.func47, Tryz.ntmps47
 go_wp2_with fail
 refine zA1 fun W1 hW => ?_
 have Ba : Box W1 (w.heap.size) [.int .i64 a.x, .int .i64 a.y] 30 := by rw [hW]; exact (((Box.new rfl).old _).old _).old _
 have Bb : Box W1 (w.heap.size + 1) [.int .i64 b.x, .int .i64 b.y] 30 := by rw [hW]; exact ((Box.new (by simp)).old _).old _
 have Bc : Box W1 (w.heap.size + 1 + 1) [.int .i64 c.x, .int .i64 c.y] 30 := by rw [hW]; exact (Box.new (by simp)).old _
 have Br : Box W1 (w.heap.size + 1 + 1 + 1) [.int .i64 0, .int .i64 0, .int .i64 0, .int .i64 0, .int .i64 0, .int .i64 0] 38 := by rw [hW]; exact Box.new (by simp)
 have hw : Below w.heap.size w W1 := by rw [hW]; go_grown
 clear hW
 refine (co _).mono ?_
 rintro e w2 ⟨rfl, hb⟩
 replace Ba := Ba.ee hb
 replace Bb := Bb.ee hb
 replace Bc := Bc.ee hb
 replace Br := Br.ee hb
 replace hw := upB hw hb
 clear hb
 have Fa := Ba.facts
 have Fb := Bb.facts
 have Fc := Bc.facts
 have Fr := Br.facts
 go_wp2_with fail
 refine zA2 fun W3 hW => ?_
 have Ca : Box W3 (w.heap.size) [.int .i64 a.x, .int .i64 a.y] 30 := by rw [hW]; exact ((((Ba.set_ne ⟨w.heap.size + 1, 0, none⟩ (.int .i64 c.x) (by show (w.heap.size + 1 : Nat) ≠ _; omega)).set_ne ⟨w.heap.size + 1, 1, none⟩ (.int .i64 c.y) (by show (w.heap.size + 1 : Nat) ≠ _; omega)).set_ne ⟨w.heap.size + 1 + 1, 0, none⟩ (.int .i64 b.x) (by show (w.heap.size + 1 + 1 : Nat) ≠ _; omega)).set_ne ⟨w.heap.size + 1 + 1, 1, none⟩ (.int .i64 b.y) (by show (w.heap.size + 1 + 1 : Nat) ≠ _; omega))
 have Cb : Box W3 (w.heap.size + 1) [.int .i64 c.x, .int .i64 c.y] 30 := by rw [hW]; exact ((((Bb.set 0 (.int .i64 c.x)).set 1 (.int .i64 c.y)).set_ne ⟨w.heap.size + 1 + 1, 0, none⟩ (.int .i64 b.x) (by show (w.heap.size + 1 + 1 : Nat) ≠ _; omega)).set_ne ⟨w.heap.size + 1 + 1, 1, none⟩ (.int .i64 b.y) (by show (w.heap.size + 1 + 1 : Nat) ≠ _; omega))
 have Cc : Box W3 (w.heap.size + 1 + 1) [.int .i64 b.x, .int .i64 b.y] 30 := by rw [hW]; exact ((((Bc.set_ne ⟨w.heap.size + 1, 0, none⟩ (.int .i64 c.x) (by show (w.heap.size + 1 : Nat) ≠ _; omega)).set_ne ⟨w.heap.size + 1, 1, none⟩ (.int .i64 c.y) (by show (w.heap.size + 1 : Nat) ≠ _; omega)).set 0 (.int .i64 b.x)).set 1 (.int .i64 b.y))
 have Cr : Box W3 (w.heap.size + 1 + 1 + 1) [.int .i64 0, .int .i64 0, .int .i64 0, .int .i64 0, .int .i64 0, .int .i64 0] 38 := by rw [hW]; exact ((((Br.set_ne ⟨w.heap.size + 1, 0, none⟩ (.int .i64 c.x) (by show (w.heap.size + 1 : Nat) ≠ _; omega)).set_ne ⟨w.heap.size + 1, 1, none⟩ (.int .i64 c.y) (by show (w.heap.size + 1 : Nat) ≠ _; omega)).set_ne ⟨w.heap.size + 1 + 1, 0, none⟩ (.int .i64 b.x) (by show (w.heap.size + 1 + 1 : Nat) ≠ _; omega)).set_ne ⟨w.heap.size + 1 + 1, 1, none⟩ (.int .i64 b.y) (by show (w.heap.size + 1 + 1 : Nat) ≠ _; omega))
 replace hw : Below w.heap.size w W3 := by have hl := hw.size; rw [hW]; go_grown
 clear Fa Fb Fc Fr
 clear hW Ba Bb Bc Br
 have Ba := Ca
 have Bb := Cb
 have Bc := Cc
 have Br := Cr
 clear Ca Cb Cc Cr
 refine wp_loop_rounds 4 ?_
 try rw [rounds_succ]
 have Fa := Ba.facts
 have Fb := Bb.facts
 have Fc := Bc.facts
 have Fr := Br.facts
 go_wp2_with fail
 refine (kca _).mono ?_
 rintro e w4 ⟨rfl, hb⟩
 clear Fa Fb Fc Fr
 replace Ba := Ba.ee hb
 replace Bb := Bb.ee hb
 replace Bc := Bc.ee hb
 replace Br := Br.ee hb
 replace hw := upB hw hb
 clear hb
 have Fa := Ba.facts
 have Fb := Bb.facts
 have Fc := Bc.facts
 have Fr := Br.facts
 go_wp2_with fail
 go_region
 go_wp2_with fail
 refine zA2 fun W5 hW => ?_
 have Ca : Box W5 (w.heap.size) [.int .i64 c.x, .int .i64 c.y] 30 := by rw [hW]; exact (((((((Ba.set 0 (.int .i64 c.x)).set 1 (.int .i64 c.y)).set_ne ⟨w.heap.size + 1, 0, none⟩ (.int .i64 b.x) (by show (w.heap.size + 1 : Nat) ≠ _; omega)).set_ne ⟨w.heap.size + 1, 1, none⟩ (.int .i64 b.y) (by show (w.heap.size + 1 : Nat) ≠ _; omega)).set_ne ⟨w.heap.size + 1 + 1, 0, none⟩ (.int .i64 a.x) (by show (w.heap.size + 1 + 1 : Nat) ≠ _; omega)).set_ne ⟨w.heap.size + 1 + 1, 1, none⟩ (.int .i64 a.y) (by show (w.heap.size + 1 + 1 : Nat) ≠ _; omega))).drew
 have Cb : Box W5 (w.heap.size + 1) [.int .i64 b.x, .int .i64 b.y] 30 := by rw [hW]; exact (((((((Bb.set_ne ⟨w.heap.size, 0, none⟩ (.int .i64 c.x) (by show (w.heap.size : Nat) ≠ _; omega)).set_ne ⟨w.heap.size, 1, none⟩ (.int .i64 c.y) (by show (w.heap.size : Nat) ≠ _; omega)).set 0 (.int .i64 b.x)).set 1 (.int .i64 b.y)).set_ne ⟨w.heap.size + 1 + 1, 0, none⟩ (.int .i64 a.x) (by show (w.heap.size + 1 + 1 : Nat) ≠ _; omega)).set_ne ⟨w.heap.size + 1 + 1, 1, none⟩ (.int .i64 a.y) (by show (w.heap.size + 1 + 1 : Nat) ≠ _; omega))).drew
 have Cc : Box W5 (w.heap.size + 1 + 1) [.int .i64 a.x, .int .i64 a.y] 30 := by rw [hW]; exact (((((((Bc.set_ne ⟨w.heap.size, 0, none⟩ (.int .i64 c.x) (by show (w.heap.size : Nat) ≠ _; omega)).set_ne ⟨w.heap.size, 1, none⟩ (.int .i64 c.y) (by show (w.heap.size : Nat) ≠ _; omega)).set_ne ⟨w.heap.size + 1, 0, none⟩ (.int .i64 b.x) (by show (w.heap.size + 1 : Nat) ≠ _; omega)).set_ne ⟨w.heap.size + 1, 1, none⟩ (.int .i64 b.y) (by show (w.heap.size + 1 : Nat) ≠ _; omega)).set 0 (.int .i64 a.x)).set 1 (.int .i64 a.y))).drew
 have Cr : Box W5 (w.heap.size + 1 + 1 + 1) [.int .i64 0, .int .i64 0, .int .i64 0, .int .i64 0, .int .i64 0, .int .i64 0] 38 := by rw [hW]; exact (((((((Br.set_ne ⟨w.heap.size, 0, none⟩ (.int .i64 c.x) (by show (w.heap.size : Nat) ≠ _; omega)).set_ne ⟨w.heap.size, 1, none⟩ (.int .i64 c.y) (by show (w.heap.size : Nat) ≠ _; omega)).set_ne ⟨w.heap.size + 1, 0, none⟩ (.int .i64 b.x) (by show (w.heap.size + 1 : Nat) ≠ _; omega)).set_ne ⟨w.heap.size + 1, 1, none⟩ (.int .i64 b.y) (by show (w.heap.size + 1 : Nat) ≠ _; omega)).set_ne ⟨w.heap.size + 1 + 1, 0, none⟩ (.int .i64 a.x) (by show (w.heap.size + 1 + 1 : Nat) ≠ _; omega)).set_ne ⟨w.heap.size + 1 + 1, 1, none⟩ (.int .i64 a.y) (by show (w.heap.size + 1 + 1 : Nat) ≠ _; omega))).drew
 replace hw : Below w.heap.size w W5 := by have hl := hw.size; rw [hW]; go_grown
 clear Fa Fb Fc Fr
 clear hW Ba Bb Bc Br
 have Ba := Ca
 have Bb := Cb
 have Bc := Cc
 have Br := Cr
 clear Ca Cb Cc Cr
 try rw [rounds_succ]
 have Fa := Ba.facts
 have Fb := Bb.facts
 have Fc := Bc.facts
 have Fr := Br.facts
 go_wp2_with fail
 refine (kbc _).mono ?_
 rintro e w6 ⟨rfl, hb⟩
 clear Fa Fb Fc Fr
 replace Ba := Ba.ee hb
 replace Bb := Bb.ee hb
 replace Bc := Bc.ee hb
 replace Br := Br.ee hb
 replace hw := upB hw hb
 clear hb
 have Fa := Ba.facts
 have Fb := Bb.facts
 have Fc := Bc.facts
 have Fr := Br.facts
 go_wp2_with fail
 refine (kac _).mono ?_
 rintro e w7 ⟨rfl, hb⟩
 clear Fa Fb Fc Fr
 replace Ba := Ba.ee hb
 replace Bb := Bb.ee hb
 replace Bc := Bc.ee hb
 replace Br := Br.ee hb
 replace hw := upB hw hb
 clear hb
 have Fa := Ba.facts
 have Fb := Bb.facts
 have Fc := Bc.facts
 have Fr := Br.facts
 go_wp2_with fail
 refine bodyPost_ret (v := .tuple #[.agg #[.int .i64 c.x, .int .i64 c.y, .int .i64 b.x, .int .i64 b.y, .int .i64 a.x, .int .i64 a.y], .bool true]) (by simp [results, Tryz.results47, go_sem, Fr]) rfl ⟨rfl, by have hl := hw.size; go_grown⟩
theorem rmake_n2 (a b c : Pt) (h0 : ori a b c = -1) (tca : decide (cmpP c a < 0) = true) (tbc : decide (cmpP b c < 0) = true) (tab : decide (cmpP a b < 0) = false) (tcb : decide (cmpP c b < 0) = false) (w : World) :
    Calls Tryz.prog 47 #[.agg #[.int .i64 a.x, .int .i64 a.y], .agg #[.int .i64 b.x, .int .i64 b.y], .agg #[.int .i64 c.x, .int .i64 c.y]] w fun e w' => e = .returned (.tuple #[.agg #[.int .i64 b.x, .int .i64 b.y, .int .i64 a.x, .int .i64 a.y, .int .i64 c.x, .int .i64 c.y], .bool true]) ∧ Below w.heap.size w w' := by
 have co := zA6 a b c
 rw [h0] at co
 clear h0
 have kca := zAb c a
 generalize cmpP c a = nca at *
 have kbc := zAb b c
 generalize cmpP b c = nbc at *
 have kab := zAb a b
 generalize cmpP a b = nab at *
 have kcb := zAb c b
 generalize cmpP c b = ncb at *
 go_enter Tryz.func47, Tryz.ntmps47
 go_wp2_with fail
 refine zA1 fun W1 hW => ?_
 have Ba : Box W1 (w.heap.size) [.int .i64 a.x, .int .i64 a.y] 30 := by rw [hW]; exact (((Box.new rfl).old _).old _).old _
 have Bb : Box W1 (w.heap.size + 1) [.int .i64 b.x, .int .i64 b.y] 30 := by rw [hW]; exact ((Box.new (by simp)).old _).old _
 have Bc : Box W1 (w.heap.size + 1 + 1) [.int .i64 c.x, .int .i64 c.y] 30 := by rw [hW]; exact (Box.new (by simp)).old _
 have Br : Box W1 (w.heap.size + 1 + 1 + 1) [.int .i64 0, .int .i64 0, .int .i64 0, .int .i64 0, .int .i64 0, .int .i64 0] 38 := by rw [hW]; exact Box.new (by simp)
 have hw : Below w.heap.size w W1 := by rw [hW]; go_grown
 clear hW
 refine (co _).mono ?_
 rintro e w2 ⟨rfl, hb⟩
 replace Ba := Ba.ee hb
 replace Bb := Bb.ee hb
 replace Bc := Bc.ee hb
 replace Br := Br.ee hb
 replace hw := upB hw hb
 clear hb
 have Fa := Ba.facts
 have Fb := Bb.facts
 have Fc := Bc.facts
 have Fr := Br.facts
 go_wp2_with fail
 refine zA2 fun W3 hW => ?_
 have Ca : Box W3 (w.heap.size) [.int .i64 a.x, .int .i64 a.y] 30 := by rw [hW]; exact ((((Ba.set_ne ⟨w.heap.size + 1, 0, none⟩ (.int .i64 c.x) (by show (w.heap.size + 1 : Nat) ≠ _; omega)).set_ne ⟨w.heap.size + 1, 1, none⟩ (.int .i64 c.y) (by show (w.heap.size + 1 : Nat) ≠ _; omega)).set_ne ⟨w.heap.size + 1 + 1, 0, none⟩ (.int .i64 b.x) (by show (w.heap.size + 1 + 1 : Nat) ≠ _; omega)).set_ne ⟨w.heap.size + 1 + 1, 1, none⟩ (.int .i64 b.y) (by show (w.heap.size + 1 + 1 : Nat) ≠ _; omega))
 have Cb : Box W3 (w.heap.size + 1) [.int .i64 c.x, .int .i64 c.y] 30 := by rw [hW]; exact ((((Bb.set 0 (.int .i64 c.x)).set 1 (.int .i64 c.y)).set_ne ⟨w.heap.size + 1 + 1, 0, none⟩ (.int .i64 b.x) (by show (w.heap.size + 1 + 1 : Nat) ≠ _; omega)).set_ne ⟨w.heap.size + 1 + 1, 1, none⟩ (.int .i64 b.y) (by show (w.heap.size + 1 + 1 : Nat) ≠ _; omega))
 have Cc : Box W3 (w.heap.size + 1 + 1) [.int .i64 b.x, .int .i64 b.y] 30 := by rw [hW]; exact ((((Bc.set_ne ⟨w.heap.size + 1, 0, none⟩ (.int .i64 c.x) (by show (w.heap.size + 1 : Nat) ≠ _; omega)).set_ne ⟨w.heap.size + 1, 1, none⟩ (.int .i64 c.y) (by show (w.heap.size + 1 : Nat) ≠ _; omega)).set 0 (.int .i64 b.x)).set 1 (.int .i64 b.y))
 have Cr : Box W3 (w.heap.size + 1 + 1 + 1) [.int .i64 0, .int .i64 0, .int .i64 0, .int .i64 0, .int .i64 0, .int .i64 0] 38 := by rw [hW]; exact ((((Br.set_ne ⟨w.heap.size + 1, 0, none⟩ (.int .i64 c.x) (by show (w.heap.size + 1 : Nat) ≠ _; omega)).set_ne ⟨w.heap.size + 1, 1, none⟩ (.int .i64 c.y) (by show (w.heap.size + 1 : Nat) ≠ _; omega)).set_ne ⟨w.heap.size + 1 + 1, 0, none⟩ (.int .i64 b.x) (by show (w.heap.size + 1 + 1 : Nat) ≠ _; omega)).set_ne ⟨w.heap.size + 1 + 1, 1, none⟩ (.int .i64 b.y) (by show (w.heap.size + 1 + 1 : Nat) ≠ _; omega))
 replace hw : Below w.heap.size w W3 := by have hl := hw.size; rw [hW]; go_grown
 clear Fa Fb Fc Fr
 clear hW Ba Bb Bc Br
 have Ba := Ca
 have Bb := Cb
 have Bc := Cc
 have Br := Cr
 clear Ca Cb Cc Cr
 refine wp_loop_rounds 4 ?_
 try rw [rounds_succ]
 have Fa := Ba.facts
 have Fb := Bb.facts
 have Fc := Bc.facts
 have Fr := Br.facts
 go_wp2_with fail
 refine (kca _).mono ?_
 rintro e w4 ⟨rfl, hb⟩
 clear Fa Fb Fc Fr
 replace Ba := Ba.ee hb
 replace Bb := Bb.ee hb
 replace Bc := Bc.ee hb
 replace Br := Br.ee hb
 replace hw := upB hw hb
 clear hb
 have Fa := Ba.facts
 have Fb := Bb.facts
 have Fc := Bc.facts
 have Fr := Br.facts
 go_wp2_with fail
 go_region
 go_wp2_with fail
 refine zA2 fun W5 hW => ?_
 have Ca : Box W5 (w.heap.size) [.int .i64 c.x, .int .i64 c.y] 30 := by rw [hW]; exact (((((((Ba.set 0 (.int .i64 c.x)).set 1 (.int .i64 c.y)).set_ne ⟨w.heap.size + 1, 0, none⟩ (.int .i64 b.x) (by show (w.heap.size + 1 : Nat) ≠ _; omega)).set_ne ⟨w.heap.size + 1, 1, none⟩ (.int .i64 b.y) (by show (w.heap.size + 1 : Nat) ≠ _; omega)).set_ne ⟨w.heap.size + 1 + 1, 0, none⟩ (.int .i64 a.x) (by show (w.heap.size + 1 + 1 : Nat) ≠ _; omega)).set_ne ⟨w.heap.size + 1 + 1, 1, none⟩ (.int .i64 a.y) (by show (w.heap.size + 1 + 1 : Nat) ≠ _; omega))).drew
 have Cb : Box W5 (w.heap.size + 1) [.int .i64 b.x, .int .i64 b.y] 30 := by rw [hW]; exact (((((((Bb.set_ne ⟨w.heap.size, 0, none⟩ (.int .i64 c.x) (by show (w.heap.size : Nat) ≠ _; omega)).set_ne ⟨w.heap.size, 1, none⟩ (.int .i64 c.y) (by show (w.heap.size : Nat) ≠ _; omega)).set 0 (.int .i64 b.x)).set 1 (.int .i64 b.y)).set_ne ⟨w.heap.size + 1 + 1, 0, none⟩ (.int .i64 a.x) (by show (w.heap.size + 1 + 1 : Nat) ≠ _; omega)).set_ne ⟨w.heap.size + 1 + 1, 1, none⟩ (.int .i64 a.y) (by show (w.heap.size + 1 + 1 : Nat) ≠ _; omega))).drew
 have Cc : Box W5 (w.heap.size + 1 + 1) [.int .i64 a.x, .int .i64 a.y] 30 := by rw [hW]; exact (((((((Bc.set_ne ⟨w.heap.size, 0, none⟩ (.int .i64 c.x) (by show (w.heap.size : Nat) ≠ _; omega)).set_ne ⟨w.heap.size, 1, none⟩ (.int .i64 c.y) (by show (w.heap.size : Nat) ≠ _; omega)).set_ne ⟨w.heap.size + 1, 0, none⟩ (.int .i64 b.x) (by show (w.heap.size + 1 : Nat) ≠ _; omega)).set_ne ⟨w.heap.size + 1, 1, none⟩ (.int .i64 b.y) (by show (w.heap.size + 1 : Nat) ≠ _; omega)).set 0 (.int .i64 a.x)).set 1 (.int .i64 a.y))).drew
 have Cr : Box W5 (w.heap.size + 1 + 1 + 1) [.int .i64 0, .int .i64 0, .int .i64 0, .int .i64 0, .int .i64 0, .int .i64 0] 38 := by rw [hW]; exact (((((((Br.set_ne ⟨w.heap.size, 0, none⟩ (.int .i64 c.x) (by show (w.heap.size : Nat) ≠ _; omega)).set_ne ⟨w.heap.size, 1, none⟩ (.int .i64 c.y) (by show (w.heap.size : Nat) ≠ _; omega)).set_ne ⟨w.heap.size + 1, 0, none⟩ (.int .i64 b.x) (by show (w.heap.size + 1 : Nat) ≠ _; omega)).set_ne ⟨w.heap.size + 1, 1, none⟩ (.int .i64 b.y) (by show (w.heap.size + 1 : Nat) ≠ _; omega)).set_ne ⟨w.heap.size + 1 + 1, 0, none⟩ (.int .i64 a.x) (by show (w.heap.size + 1 + 1 : Nat) ≠ _; omega)).set_ne ⟨w.heap.size + 1 + 1, 1, none⟩ (.int .i64 a.y) (by show (w.heap.size + 1 + 1 : Nat) ≠ _; omega))).drew
 replace hw : Below w.heap.size w W5 := by have hl := hw.size; rw [hW]; go_grown
 clear Fa Fb Fc Fr
 clear hW Ba Bb Bc Br
 have Ba := Ca
 have Bb := Cb
 have Bc := Cc
 have Br := Cr
 clear Ca Cb Cc Cr
 try rw [rounds_succ]
 have Fa := Ba.facts
 have Fb := Bb.facts
 have Fc := Bc.facts
 have Fr := Br.facts
 go_wp2_with fail
 refine (kbc _).mono ?_
 rintro e w6 ⟨rfl, hb⟩
 clear Fa Fb Fc Fr
 replace Ba := Ba.ee hb
 replace Bb := Bb.ee hb
 replace Bc := Bc.ee hb
 replace Br := Br.ee hb
 replace hw := upB hw hb
 clear hb
 have Fa := Ba.facts
 have Fb := Bb.facts
 have Fc := Bc.facts
 have Fr := Br.facts
 go_wp2_with fail
 go_region
 go_wp2_with fail
 refine zA2 fun W7 hW => ?_
 have Ca : Box W7 (w.heap.size) [.int .i64 b.x, .int .i64 b.y] 30 := by rw [hW]; exact (((((((Ba.set 0 (.int .i64 b.x)).set 1 (.int .i64 b.y)).set_ne ⟨w.heap.size + 1, 0, none⟩ (.int .i64 a.x) (by show (w.heap.size + 1 : Nat) ≠ _; omega)).set_ne ⟨w.heap.size + 1, 1, none⟩ (.int .i64 a.y) (by show (w.heap.size + 1 : Nat) ≠ _; omega)).set_ne ⟨w.heap.size + 1 + 1, 0, none⟩ (.int .i64 c.x) (by show (w.heap.size + 1 + 1 : Nat) ≠ _; omega)).set_ne ⟨w.heap.size + 1 + 1, 1, none⟩ (.int .i64 c.y) (by show (w.heap.size + 1 + 1 : Nat) ≠ _; omega))).drew
 have Cb : Box W7 (w.heap.size + 1) [.int .i64 a.x, .int .i64 a.y] 30 := by rw [hW]; exact (((((((Bb.set_ne ⟨w.heap.size, 0, none⟩ (.int .i64 b.x) (by show (w.heap.size : Nat) ≠ _; omega)).set_ne ⟨w.heap.size, 1, none⟩ (.int .i64 b.y) (by show (w.heap.size : Nat) ≠ _; omega)).set 0 (.int .i64 a.x)).set 1 (.int .i64 a.y)).set_ne ⟨w.heap.size + 1 + 1, 0, none⟩ (.int .i64 c.x) (by show (w.heap.size + 1 + 1 : Nat) ≠ _; omega)).set_ne ⟨w.heap.size + 1 + 1, 1, none⟩ (.int .i64 c.y) (by show (w.heap.size + 1 + 1 : Nat) ≠ _; omega))).drew
 have Cc : Box W7 (w.heap.size + 1 + 1) [.int .i64 c.x, .int .i64 c.y] 30 := by rw [hW]; exact (((((((Bc.set_ne ⟨w.heap.size, 0, none⟩ (.int .i64 b.x) (by show (w.heap.size : Nat) ≠ _; omega)).set_ne ⟨w.heap.size, 1, none⟩ (.int .i64 b.y) (by show (w.heap.size : Nat) ≠ _; omega)).set_ne ⟨w.heap.size + 1, 0, none⟩ (.int .i64 a.x) (by show (w.heap.size + 1 : Nat) ≠ _; omega)).set_ne ⟨w.heap.size + 1, 1, none⟩ (.int .i64 a.y) (by show (w.heap.size + 1 : Nat) ≠ _; omega)).set 0 (.int .i64 c.x)).set 1 (.int .i64 c.y))).drew
 have Cr : Box W7 (w.heap.size + 1 + 1 + 1) [.int .i64 0, .int .i64 0, .int .i64 0, .int .i64 0, .int .i64 0, .int .i64 0] 38 := by rw [hW]; exact (((((((Br.set_ne ⟨w.heap.size, 0, none⟩ (.int .i64 b.x) (by show (w.heap.size : Nat) ≠ _; omega)).set_ne ⟨w.heap.size, 1, none⟩ (.int .i64 b.y) (by show (w.heap.size : Nat) ≠ _; omega)).set_ne ⟨w.heap.size + 1, 0, none⟩ (.int .i64 a.x) (by show (w.heap.size + 1 : Nat) ≠ _; omega)).set_ne ⟨w.heap.size + 1, 1, none⟩ (.int .i64 a.y) (by show (w.heap.size + 1 : Nat) ≠ _; omega)).set_ne ⟨w.heap.size + 1 + 1, 0, none⟩ (.int .i64 c.x) (by show (w.heap.size + 1 + 1 : Nat) ≠ _; omega)).set_ne ⟨w.heap.size + 1 + 1, 1, none⟩ (.int .i64 c.y) (by show (w.heap.size + 1 + 1 : Nat) ≠ _; omega))).drew
 replace hw : Below w.heap.size w W7 := by have hl := hw.size; rw [hW]; go_grown
 clear Fa Fb Fc Fr
 clear hW Ba Bb Bc Br
 have Ba := Ca
 have Bb := Cb
 have Bc := Cc
 have Br := Cr
 clear Ca Cb Cc Cr
 try rw [rounds_succ]
 have Fa := Ba.facts
 have Fb := Bb.facts
 have Fc := Bc.facts
 have Fr := Br.facts
 go_wp2_with fail
 refine (kab _).mono ?_
 rintro e w8 ⟨rfl, hb⟩
 clear Fa Fb Fc Fr
 replace Ba := Ba.ee hb
 replace Bb := Bb.ee hb
 replace Bc := Bc.ee hb
 replace Br := Br.ee hb
 replace hw := upB hw hb
 clear hb
 have Fa := Ba.facts
 have Fb := Bb.facts
 have Fc := Bc.facts
 have Fr := Br.facts
 go_wp2_with fail
 refine (kcb _).mono ?_
 rintro e w9 ⟨rfl, hb⟩
 clear Fa Fb Fc Fr
 replace Ba := Ba.ee hb
 replace Bb := Bb.ee hb
 replace Bc := Bc.ee hb
 replace Br := Br.ee hb
 replace hw := upB hw hb
 clear hb
 have Fa := Ba.facts
 have Fb := Bb.facts
 have Fc := Bc.facts
 have Fr := Br.facts
 go_wp2_with fail
 refine bodyPost_ret (v := .tuple #[.agg #[.int .i64 b.x, .int .i64 b.y, .int .i64 a.x, .int .i64 a.y, .int .i64 c.x, .int .i64 c.y], .bool true]) (by simp [results, Tryz.results47, go_sem, Fr]) rfl ⟨rfl, by have hl := hw.size; go_grown⟩
theorem rmake_n3 (a b c : Pt) (h0 : ori a b c = -1) (tca : decide (cmpP c a < 0) = false) (tba : decide (cmpP b a < 0) = true) (tbc : decide (cmpP b c < 0) = true) (tab : decide (cmpP a b < 0) = false) (tcb : decide (cmpP c b < 0) = false) (w : World) :
    Calls Tryz.prog 47 #[.agg #[.int .i64 a.x, .int .i64 a.y], .agg #[.int .i64 b.x, .int .i64 b.y], .agg #[.int .i64 c.x, .int .i64 c.y]] w fun e w' => e = .returned (.tuple #[.agg #[.int .i64 b.x, .int .i64 b.y, .int .i64 a.x, .int .i64 a.y, .int .i64 c.x, .int .i64 c.y], .bool true]) ∧ Below w.heap.size w w' := by
 have co := zA6 a b c
 rw [h0] at co
 clear h0
 have kca := zAb c a
 generalize cmpP c a = nca at *
 have kba := zAb b a
 generalize cmpP b a = nba at *
 have kbc := zAb b c
 generalize cmpP b c = nbc at *
 have kab := zAb a b
 generalize cmpP a b = nab at *
 have kcb := zAb c b
 generalize cmpP c b = ncb at *
 go_enter Tryz.func47, Tryz.ntmps47
 go_wp2_with fail
 refine zA1 fun W1 hW => ?_
 have Ba : Box W1 (w.heap.size) [.int .i64 a.x, .int .i64 a.y] 30 := by rw [hW]; exact (((Box.new rfl).old _).old _).old _
 have Bb : Box W1 (w.heap.size + 1) [.int .i64 b.x, .int .i64 b.y] 30 := by rw [hW]; exact ((Box.new (by simp)).old _).old _
 have Bc : Box W1 (w.heap.size + 1 + 1) [.int .i64 c.x, .int .i64 c.y] 30 := by rw [hW]; exact (Box.new (by simp)).old _
 have Br : Box W1 (w.heap.size + 1 + 1 + 1) [.int .i64 0, .int .i64 0, .int .i64 0, .int .i64 0, .int .i64 0, .int .i64 0] 38 := by rw [hW]; exact Box.new (by simp)
 have hw : Below w.heap.size w W1 := by rw [hW]; go_grown
 clear hW
 refine (co _).mono ?_
 rintro e w2 ⟨rfl, hb⟩
 replace Ba := Ba.ee hb
 replace Bb := Bb.ee hb
 replace Bc := Bc.ee hb
 replace Br := Br.ee hb
 replace hw := upB hw hb
 clear hb
 have Fa := Ba.facts
 have Fb := Bb.facts
 have Fc := Bc.facts
 have Fr := Br.facts
 go_wp2_with fail
 refine zA2 fun W3 hW => ?_
 have Ca : Box W3 (w.heap.size) [.int .i64 a.x, .int .i64 a.y] 30 := by rw [hW]; exact ((((Ba.set_ne ⟨w.heap.size + 1, 0, none⟩ (.int .i64 c.x) (by show (w.heap.size + 1 : Nat) ≠ _; omega)).set_ne ⟨w.heap.size + 1, 1, none⟩ (.int .i64 c.y) (by show (w.heap.size + 1 : Nat) ≠ _; omega)).set_ne ⟨w.heap.size + 1 + 1, 0, none⟩ (.int .i64 b.x) (by show (w.heap.size + 1 + 1 : Nat) ≠ _; omega)).set_ne ⟨w.heap.size + 1 + 1, 1, none⟩ (.int .i64 b.y) (by show (w.heap.size + 1 + 1 : Nat) ≠ _; omega))
 have Cb : Box W3 (w.heap.size + 1) [.int .i64 c.x, .int .i64 c.y] 30 := by rw [hW]; exact ((((Bb.set 0 (.int .i64 c.x)).set 1 (.int .i64 c.y)).set_ne ⟨w.heap.size + 1 + 1, 0, none⟩ (.int .i64 b.x) (by show (w.heap.size + 1 + 1 : Nat) ≠ _; omega)).set_ne ⟨w.heap.size + 1 + 1, 1, none⟩ (.int .i64 b.y) (by show (w.heap.size + 1 + 1 : Nat) ≠ _; omega))
 have Cc : Box W3 (w.heap.size + 1 + 1) [.int .i64 b.x, .int .i64 b.y] 30 := by rw [hW]; exact ((((Bc.set_ne ⟨w.heap.size + 1, 0, none⟩ (.int .i64 c.x) (by show (w.heap.size + 1 : Nat) ≠ _; omega)).set_ne ⟨w.heap.size + 1, 1, none⟩ (.int .i64 c.y) (by show (w.heap.size + 1 : Nat) ≠ _; omega)).set 0 (.int .i64 b.x)).set 1 (.int .i64 b.y))
 have Cr : Box W3 (w.heap.size + 1 + 1 + 1) [.int .i64 0, .int .i64 0, .int .i64 0, .int .i64 0, .int .i64 0, .int .i64 0] 38 := by rw [hW]; exact ((((Br.set_ne ⟨w.heap.size + 1, 0, none⟩ (.int .i64 c.x) (by show (w.heap.size + 1 : Nat) ≠ _; omega)).set_ne ⟨w.heap.size + 1, 1, none⟩ (.int .i64 c.y) (by show (w.heap.size + 1 : Nat) ≠ _; omega)).set_ne ⟨w.heap.size + 1 + 1, 0, none⟩ (.int .i64 b.x) (by show (w.heap.size + 1 + 1 : Nat) ≠ _; omega)).set_ne ⟨w.heap.size + 1 + 1, 1, none⟩ (.int .i64 b.y) (by show (w.heap.size + 1 + 1 : Nat) ≠ _; omega))
 replace hw : Below w.heap.size w W3 := by have hl := hw.size; rw [hW]; go_grown
 clear Fa Fb Fc Fr
 clear hW Ba Bb Bc Br
 have Ba := Ca
 have Bb := Cb
 have Bc := Cc
 have Br := Cr
 clear Ca Cb Cc Cr
 refine wp_loop_rounds 4 ?_
 try rw [rounds_succ]
 have Fa := Ba.facts
 have Fb := Bb.facts
 have Fc := Bc.facts
 have Fr := Br.facts
 go_wp2_with fail
 refine (kca _).mono ?_
 rintro e w4 ⟨rfl, hb⟩
 clear Fa Fb Fc Fr
 replace Ba := Ba.ee hb
 replace Bb := Bb.ee hb
 replace Bc := Bc.ee hb
 replace Br := Br.ee hb
 replace hw := upB hw hb
 clear hb
 have Fa := Ba.facts
 have Fb := Bb.facts
 have Fc := Bc.facts
 have Fr := Br.facts
 go_wp2_with fail
 refine (kba _).mono ?_
 rintro e w5 ⟨rfl, hb⟩
 clear Fa Fb Fc Fr
 replace Ba := Ba.ee hb
 replace Bb := Bb.ee hb
 replace Bc := Bc.ee hb
 replace Br := Br.ee hb
 replace hw := upB hw hb
 clear hb
 have Fa := Ba.facts
 have Fb := Bb.facts
 have Fc := Bc.facts
 have Fr := Br.facts
 go_wp2_with fail
 go_region
 go_wp2_with fail
 refine zA2 fun W6 hW => ?_
 have Ca : Box W6 (w.heap.size) [.int .i64 c.x, .int .i64 c.y] 30 := by rw [hW]; exact (((((((Ba.set 0 (.int .i64 c.x)).set 1 (.int .i64 c.y)).set_ne ⟨w.heap.size + 1, 0, none⟩ (.int .i64 b.x) (by show (w.heap.size + 1 : Nat) ≠ _; omega)).set_ne ⟨w.heap.size + 1, 1, none⟩ (.int .i64 b.y) (by show (w.heap.size + 1 : Nat) ≠ _; omega)).set_ne ⟨w.heap.size + 1 + 1, 0, none⟩ (.int .i64 a.x) (by show (w.heap.size + 1 + 1 : Nat) ≠ _; omega)).set_ne ⟨w.heap.size + 1 + 1, 1, none⟩ (.int .i64 a.y) (by show (w.heap.size + 1 + 1 : Nat) ≠ _; omega))).drew
 have Cb : Box W6 (w.heap.size + 1) [.int .i64 b.x, .int .i64 b.y] 30 := by rw [hW]; exact (((((((Bb.set_ne ⟨w.heap.size, 0, none⟩ (.int .i64 c.x) (by show (w.heap.size : Nat) ≠ _; omega)).set_ne ⟨w.heap.size, 1, none⟩ (.int .i64 c.y) (by show (w.heap.size : Nat) ≠ _; omega)).set 0 (.int .i64 b.x)).set 1 (.int .i64 b.y)).set_ne ⟨w.heap.size + 1 + 1, 0, none⟩ (.int .i64 a.x) (by show (w.heap.size + 1 + 1 : Nat) ≠ _; omega)).set_ne ⟨w.heap.size + 1 + 1, 1, none⟩ (.int .i64 a.y) (by show (w.heap.size + 1 + 1 : Nat) ≠ _; omega))).drew
 have Cc : Box W6 (w.heap.size + 1 + 1) [.int .i64 a.x, .int .i64 a.y] 30 := by rw [hW]; exact (((((((Bc.set_ne ⟨w.heap.size, 0, none⟩ (.int .i64 c.x) (by show (w.heap.size : Nat) ≠ _; omega)).set_ne ⟨w.heap.size, 1, none⟩ (.int .i64 c.y) (by show (w.heap.size : Nat) ≠ _; omega)).set_ne ⟨w.heap.size + 1, 0, none⟩ (.int .i64 b.x) (by show (w.heap.size + 1 : Nat) ≠ _; omega)).set_ne ⟨w.heap.size + 1, 1, none⟩ (.int .i64 b.y) (by show (w.heap.size + 1 : Nat) ≠ _; omega)).set 0 (.int .i64 a.x)).set 1 (.int .i64 a.y))).drew
 have Cr : Box W6 (w.heap.size + 1 + 1 + 1) [.int .i64 0, .int .i64 0, .int .i64 0, .int .i64 0, .int .i64 0, .int .i64 0] 38 := by rw [hW]; exact (((((((Br.set_ne ⟨w.heap.size, 0, none⟩ (.int .i64 c.x) (by show (w.heap.size : Nat) ≠ _; omega)).set_ne ⟨w.heap.size, 1, none⟩ (.int .i64 c.y) (by show (w.heap.size : Nat) ≠ _; omega)).set_ne ⟨w.heap.size + 1, 0, none⟩ (.int .i64 b.x) (by show (w.heap.size + 1 : Nat) ≠ _; omega)).set_ne ⟨w.heap.size + 1, 1, none⟩ (.int .i64 b.y) (by show (w.heap.size + 1 : Nat) ≠ _; omega)).set_ne ⟨w.heap.size + 1 + 1, 0, none⟩ (.int .i64 a.x) (by show (w.heap.size + 1 + 1 : Nat) ≠ _; omega)).set_ne ⟨w.heap.size + 1 + 1, 1, none⟩ (.int .i64 a.y) (by show (w.heap.size + 1 + 1 : Nat) ≠ _; omega))).drew
 replace hw : Below w.heap.size w W6 := by have hl := hw.size; rw [hW]; go_grown
 clear Fa Fb Fc Fr
 clear hW Ba Bb Bc Br
 have Ba := Ca
 have Bb := Cb
 have Bc := Cc
 have Br := Cr
 clear Ca Cb Cc Cr
 try rw [rounds_succ]
 have Fa := Ba.facts
 have Fb := Bb.facts
 have Fc := Bc.facts
 have Fr := Br.facts
 go_wp2_with fail
 refine (kbc _).mono ?_
 rintro e w7 ⟨rfl, hb⟩
 clear Fa Fb Fc Fr
 replace Ba := Ba.ee hb
 replace Bb := Bb.ee hb
 replace Bc := Bc.ee hb
 replace Br := Br.ee hb
 replace hw := upB hw hb
 clear hb
 have Fa := Ba.facts
 have Fb := Bb.facts
 have Fc := Bc.facts
 have Fr := Br.facts
 go_wp2_with fail
 go_region
 go_wp2_with fail
 refine zA2 fun W8 hW => ?_
 have Ca : Box W8 (w.heap.size) [.int .i64 b.x, .int .i64 b.y] 30 := by rw [hW]; exact (((((((Ba.set 0 (.int .i64 b.x)).set 1 (.int .i64 b.y)).set_ne ⟨w.heap.size + 1, 0, none⟩ (.int .i64 a.x) (by show (w.heap.size + 1 : Nat) ≠ _; omega)).set_ne ⟨w.heap.size + 1, 1, none⟩ (.int .i64 a.y) (by show (w.heap.size + 1 : Nat) ≠ _; omega)).set_ne ⟨w.heap.size + 1 + 1, 0, none⟩ (.int .i64 c.x) (by show (w.heap.size + 1 + 1 : Nat) ≠ _; omega)).set_ne ⟨w.heap.size + 1 + 1, 1, none⟩ (.int .i64 c.y) (by show (w.heap.size + 1 + 1 : Nat) ≠ _; omega))).drew
 have Cb : Box W8 (w.heap.size + 1) [.int .i64 a.x, .int .i64 a.y] 30 := by rw [hW]; exact (((((((Bb.set_ne ⟨w.heap.size, 0, none⟩ (.int .i64 b.x) (by show (w.heap.size : Nat) ≠ _; omega)).set_ne ⟨w.heap.size, 1, none⟩ (.int .i64 b.y) (by show (w.heap.size : Nat) ≠ _; omega)).set 0 (.int .i64 a.x)).set 1 (.int .i64 a.y)).set_ne ⟨w.heap.size + 1 + 1, 0, none⟩ (.int .i64 c.x) (by show (w.heap.size + 1 + 1 : Nat) ≠ _; omega)).set_ne ⟨w.heap.size + 1 + 1, 1, none⟩ (.int .i64 c.y) (by show (w.heap.size + 1 + 1 : Nat) ≠ _; omega))).drew
 have Cc : Box W8 (w.heap.size + 1 + 1) [.int .i64 c.x, .int .i64 c.y] 30 := by rw [hW]; exact (((((((Bc.set_ne ⟨w.heap.size, 0, none⟩ (.int .i64 b.x) (by show (w.heap.size : Nat) ≠ _; omega)).set_ne ⟨w.heap.size, 1, none⟩ (.int .i64 b.y) (by show (w.heap.size : Nat) ≠ _; omega)).set_ne ⟨w.heap.size + 1, 0, none⟩ (.int .i64 a.x) (by show (w.heap.size + 1 : Nat) ≠ _; omega)).set_ne ⟨w.heap.size + 1, 1, none⟩ (.int .i64 a.y) (by show (w.heap.size + 1 : Nat) ≠ _; omega)).set 0 (.int .i64 c.x)).set 1 (.int .i64 c.y))).drew
 have Cr : Box W8 (w.heap.size + 1 + 1 + 1) [.int .i64 0, .int .i64 0, .int .i64 0, .int .i64 0, .int .i64 0, .int .i64 0] 38 := by rw [hW]; exact (((((((Br.set_ne ⟨w.heap.size, 0, none⟩ (.int .i64 b.x) (by show (w.heap.size : Nat) ≠ _; omega)).set_ne ⟨w.heap.size, 1, none⟩ (.int .i64 b.y) (by show (w.heap.size : Nat) ≠ _; omega)).set_ne ⟨w.heap.size + 1, 0, none⟩ (.int .i64 a.x) (by show (w.heap.size + 1 : Nat) ≠ _; omega)).set_ne ⟨w.heap.size + 1, 1, none⟩ (.int .i64 a.y) (by show (w.heap.size + 1 : Nat) ≠ _; omega)).set_ne ⟨w.heap.size + 1 + 1, 0, none⟩ (.int .i64 c.x) (by show (w.heap.size + 1 + 1 : Nat) ≠ _; omega)).set_ne ⟨w.heap.size + 1 + 1, 1, none⟩ (.int .i64 c.y) (by show (w.heap.size + 1 + 1 : Nat) ≠ _; omega))).drew
 replace hw : Below w.heap.size w W8 := by have hl := hw.size; rw [hW]; go_grown
 clear Fa Fb Fc Fr
 clear hW Ba Bb Bc Br
 have Ba := Ca
 have Bb := Cb
 have Bc := Cc
 have Br := Cr
 clear Ca Cb Cc Cr
 try rw [rounds_succ]
 have Fa := Ba.facts
 have Fb := Bb.facts
 have Fc := Bc.facts
 have Fr := Br.facts
 go_wp2_with fail
 refine (kab _).mono ?_
 rintro e w9 ⟨rfl, hb⟩
 clear Fa Fb Fc Fr
 replace Ba := Ba.ee hb
 replace Bb := Bb.ee hb
 replace Bc := Bc.ee hb
 replace Br := Br.ee hb
 replace hw := upB hw hb
 clear hb
 have Fa := Ba.facts
 have Fb := Bb.facts
 have Fc := Bc.facts
 have Fr := Br.facts
 go_wp2_with fail
 refine (kcb _).mono ?_
 rintro e w10 ⟨rfl, hb⟩
 clear Fa Fb Fc Fr
 replace Ba := Ba.ee hb
 replace Bb := Bb.ee hb
 replace Bc := Bc.ee hb
 replace Br := Br.ee hb
 replace hw := upB hw hb
 clear hb
 have Fa := Ba.facts
 have Fb := Bb.facts
 have Fc := Bc.facts
 have Fr := Br.facts
 go_wp2_with fail
 refine bodyPost_ret (v := .tuple #[.agg #[.int .i64 b.x, .int .i64 b.y, .int .i64 a.x, .int .i64 a.y, .int .i64 c.x, .int .i64 c.y], .bool true]) (by simp [results, Tryz.results47, go_sem, Fr]) rfl ⟨rfl, by have hl := hw.size; go_grown⟩
end Go.Proofs.YtmobnmjjmafibaaGreat
namespace Go.Proofs.YtmobnmjjmafibaaGreat
open Go.RowKit
def kk (a b p : Pt) : Int := (p.x - a.x) * (b.x - a.x) + (p.y - a.y) * (b.y - a.y)
def EE (a b : Pt) : Int := (b.x - a.x) * (b.x - a.x) + (b.y - a.y) * (b.y - a.y)
structure Seg2 (a b c d : Pt) : Prop where
 va : vld a = true
 vb : vld b = true
 vc : vld c = true
 vd : vld d = true
 nab : a ≠ b
 ncd : c ≠ d
section
variable {a b c d : Pt} (s : Seg2 a b c d)
include s
end
theorem zH0 {p q : Pt} (hp : vld p = true) (hq : vld q = true) : cmpP p q < 0 ↔ key p < key q := by
 rw [zEv hp hq]; have := zAs (key p - key q); omega
end Go.Proofs.YtmobnmjjmafibaaGreat
namespace Go.Proofs.YtmobnmjjmafibaaGreat
open Go.RowKit Go.Sort
attribute [local go_sem] rOper rAt rUpon cell_set sg_i64 sg_u64 alloc_cell alloc_frozen
attribute [local go_sem 10000] pt_eql pt_neq
attribute [local irreducible] rWalk
structure Tri3 where
 A : Pt
 B : Pt
 C : Pt
def mkT (x y z : Pt) : Tri3 := if cmpP y x < 0 ∨ cmpP z x < 0 then (if cmpP z y < 0 ∨ cmpP x y < 0 then ⟨z, x, y⟩ else ⟨y, z, x⟩) else ⟨x, y, z⟩
def mk (a b c : Pt) : Tri3 := if ori a b c = 0 then ⟨⟨0, 0⟩, ⟨0, 0⟩, ⟨0, 0⟩⟩ else if ori a b c = 1 then mkT a b c else mkT a c b
theorem zDg {x y z : Pt} (hx : vld x = true) (hy : vld y = true) (hz : vld z = true) (n1 : key x ≠ key y) (n2 : key x ≠ key z) (n3 : key y ≠ key z) :
    (key x < key y ∧ key x < key z ∧ mkT x y z = ⟨x, y, z⟩) ∨ (key y < key x ∧ key y < key z ∧ mkT x y z = ⟨y, z, x⟩) ∨ (key z < key x ∧ key z < key y ∧ mkT x y z = ⟨z, x, y⟩) := by
 unfold mkT
 simp only [zH0 hy hx, zH0 hz hx, zH0 hz hy, zH0 hx hy]
 (repeat' split) <;> simp <;> omega
theorem dlt {p q : Pt} (hp : vld p = true) (hq : vld q = true) (h : key p < key q) : decide (cmpP p q < 0) = true := by simpa using (zH0 hp hq).2 h
theorem dge {p q : Pt} (hp : vld p = true) (hq : vld q = true) (h : key q ≤ key p) : decide (cmpP p q < 0) = false := by
 have := zH0 hp hq
 simp; omega
theorem zBj (a b c : Pt) (w : World) :
    Calls Tryz.prog 47 #[.agg #[.int .i64 a.x, .int .i64 a.y], .agg #[.int .i64 b.x, .int .i64 b.y], .agg #[.int .i64 c.x, .int .i64 c.y]] w fun e w' => e = .returned (.tuple #[.agg #[.int .i64 (mk a b c).A.x, .int .i64 (mk a b c).A.y, .int .i64 (mk a b c).B.x, .int .i64 (mk a b c).B.y, .int .i64 (mk a b c).C.x, .int .i64 (mk a b c).C.y], .bool (!decide (ori a b c = 0))]) ∧ Below w.heap.size w w' := by
 by_cases h0 : ori a b c = 0
 ·rw [show mk a b c = ⟨⟨0, 0⟩, ⟨0, 0⟩, ⟨0, 0⟩⟩ by unfold mk; rw [if_pos h0], show (!decide (ori a b c = 0)) = false by simp [h0]]
  exact rmake_0 a b c h0 w
 ·obtain ⟨va, vb, vc⟩ := zC8 h0
  obtain ⟨d1, d2, d3⟩ := zB3 h0
  have n1 : key a ≠ key b := fun h => d1 (zBr va vb h).symm
  have n2 : key a ≠ key c := fun h => d2 (zBr va vc h).symm
  have n3 : key b ≠ key c := fun h => d3 (zBr vb vc h).symm
  rw [show (!decide (ori a b c = 0)) = true by simp [h0]]
  have hb := zBv a b c
  by_cases h1 : ori a b c = 1
  ·rw [show mk a b c = mkT a b c by unfold mk; rw [if_neg h0, if_pos h1]]
   rcases zDg va vb vc n1 n2 n3 with ⟨x1, x2, e⟩ | ⟨x1, x2, e⟩ | ⟨x1, x2, e⟩ <;> rw [e]
   ·exact rmake_p0 a b c h1 (dge vb va (by omega)) (dge vc va (by omega)) w
   ·exact rmake_p1 a b c h1 (dlt vb va (by omega)) (dge vc vb (by omega)) (dge va vb (by omega)) w
   ·rcases Int.lt_or_le (key b) (key a) with y | y
    ·exact rmake_p2 a b c h1 (dlt vb va (by omega)) (dlt vc vb (by omega)) (dge va vc (by omega)) (dge vb vc (by omega)) w
    ·exact rmake_p3 a b c h1 (dge vb va (by omega)) (dlt vc va (by omega)) (dlt vc vb (by omega)) (dge va vc (by omega)) (dge vb vc (by omega)) w
  ·have h2 : ori a b c = -1 := by omega
   rw [show mk a b c = mkT a c b by unfold mk; rw [if_neg h0, if_neg h1]]
   rcases zDg va vc vb n2 n1 n3.symm with ⟨x1, x2, e⟩ | ⟨x1, x2, e⟩ | ⟨x1, x2, e⟩ <;> rw [e]
   ·exact rmake_n0 a b c h2 (dge vc va (by omega)) (dge vb va (by omega)) w
   ·exact rmake_n1 a b c h2 (dlt vc va (by omega)) (dge vb vc (by omega)) (dge va vc (by omega)) w
   ·rcases Int.lt_or_le (key c) (key a) with y | y
    ·exact rmake_n2 a b c h2 (dlt vc va (by omega)) (dlt vb vc (by omega)) (dge va vb (by omega)) (dge vc vb (by omega)) w
    ·exact rmake_n3 a b c h2 (dge vc va (by omega)) (dlt vb va (by omega)) (dlt vb vc (by omega)) (dge va vb (by omega)) (dge vc vb (by omega)) w
def teq (s u : Tri3) : Bool := peqI s.A.x s.A.y u.A.x u.A.y && (peqI s.B.x s.B.y u.B.x u.B.y && peqI s.C.x s.C.y u.C.x u.C.y)
theorem tri_eql (s u : Tri3) (w : World) : (binOp .eql 38 (.agg #[.int .i64 s.A.x, .int .i64 s.A.y, .int .i64 s.B.x, .int .i64 s.B.y, .int .i64 s.C.x, .int .i64 s.C.y]) (.agg #[.int .i64 u.A.x, .int .i64 u.A.y, .int .i64 u.B.x, .int .i64 u.B.y, .int .i64 u.C.x, .int .i64 u.C.y])).run Tryz.prog w = .ok (.bool (teq s u)) w := by
 unfold teq peqI
 by_cases h1 : s.A.x = u.A.x
 case neg => simp [go_sem, h1]
 case pos =>
 by_cases h2 : s.A.y = u.A.y
 case neg => simp [go_sem, h1, h2]
 case pos =>
 by_cases h3 : s.B.x = u.B.x
 case neg => simp [go_sem, h1, h2, h3]
 case pos =>
 by_cases h4 : s.B.y = u.B.y
 case neg => simp [go_sem, h1, h2, h3, h4]
 case pos =>
 by_cases h5 : s.C.x = u.C.x
 case neg => simp [go_sem, h1, h2, h3, h4, h5]
 case pos =>
 by_cases h6 : s.C.y = u.C.y
 ·simp [go_sem, h1, h2, h3, h4, h5, h6]
 ·simp [go_sem, h1, h2, h3, h4, h5, h6]
end Go.Proofs.YtmobnmjjmafibaaGreat
namespace Go.Proofs.YtmobnmjjmafibaaGreat
open Go.RowKit Go.Sort
attribute [local go_sem] rOper rAt rUpon cell_set sg_i64 sg_u64 alloc_cell alloc_frozen
attribute [local go_sem 10000] pt_eql pt_neq tri_eql
attribute [local irreducible] rWalk
def valT (T : Tri3) : Bool := !decide (ori T.A T.B T.C = 0) && teq (mk T.A T.B T.C) T
theorem rvalT_0 (T : Tri3) (h : (!decide (ori T.A T.B T.C = 0)) = false) (w : World) :
    Calls Tryz.prog 58 #[.agg #[.int .i64 T.A.x, .int .i64 T.A.y, .int .i64 T.B.x, .int .i64 T.B.y, .int .i64 T.C.x, .int .i64 T.C.y]] w fun e w' => e = .returned (.bool false) ∧ Below w.heap.size w w' := by
 have cm := zBj T.A T.B T.C
 rw [h] at cm
 clear h
 generalize mk T.A T.B T.C = M at *
 go_enter Tryz.func58, Tryz.ntmps58
 go_wp2_with fail
 refine zA1 fun W1 hW => ?_
 have Bt : Box W1 (w.heap.size) [.int .i64 T.A.x, .int .i64 T.A.y, .int .i64 T.B.x, .int .i64 T.B.y, .int .i64 T.C.x, .int .i64 T.C.y] 38 := by rw [hW]; exact Box.new rfl
 have hw : Below w.heap.size w W1 := by rw [hW]; go_grown
 clear hW
 refine (cm _).mono ?_
 rintro e w2 ⟨rfl, hb⟩
 replace Bt := Bt.ee hb
 replace hw := upB hw hb
 clear hb
 have Ft := Bt.facts
 go_wp2
 go_ret
 exact ⟨rfl, by have hl := hw.size; go_grown⟩
theorem rvalT_1 (T : Tri3) (h : (!decide (ori T.A T.B T.C = 0)) = true) (w : World) :
    Calls Tryz.prog 58 #[.agg #[.int .i64 T.A.x, .int .i64 T.A.y, .int .i64 T.B.x, .int .i64 T.B.y, .int .i64 T.C.x, .int .i64 T.C.y]] w fun e w' => e = .returned (.bool (teq (mk T.A T.B T.C) T)) ∧ Below w.heap.size w w' := by
 have cm := zBj T.A T.B T.C
 rw [h] at cm
 clear h
 generalize mk T.A T.B T.C = M at *
 go_enter Tryz.func58, Tryz.ntmps58
 go_wp2_with fail
 refine zA1 fun W1 hW => ?_
 have Bt : Box W1 (w.heap.size) [.int .i64 T.A.x, .int .i64 T.A.y, .int .i64 T.B.x, .int .i64 T.B.y, .int .i64 T.C.x, .int .i64 T.C.y] 38 := by rw [hW]; exact Box.new rfl
 have hw : Below w.heap.size w W1 := by rw [hW]; go_grown
 clear hW
 refine (cm _).mono ?_
 rintro e w2 ⟨rfl, hb⟩
 replace Bt := Bt.ee hb
 replace hw := upB hw hb
 clear hb
 have Ft := Bt.facts
 go_wp2
 go_ret
 exact ⟨rfl, by have hl := hw.size; go_grown⟩
theorem zCi (T : Tri3) (w : World) :
    Calls Tryz.prog 58 #[.agg #[.int .i64 T.A.x, .int .i64 T.A.y, .int .i64 T.B.x, .int .i64 T.B.y, .int .i64 T.C.x, .int .i64 T.C.y]] w fun e w' => e = .returned (.bool (valT T)) ∧ Below w.heap.size w w' := by
 unfold valT
 cases h : (!decide (ori T.A T.B T.C = 0)) with
 | false => exact rvalT_0 T h w
 | true => exact rvalT_1 T h w
def hasP (T : Tri3) (p : Pt) : Bool := valT T && (vld p && (decide (0 ≤ ori T.A T.B p) && (decide (0 ≤ ori T.B T.C p) && decide (0 ≤ ori T.C T.A p))))
theorem rhasP_0 (T : Tri3) (p : Pt) (h0 : valT T = false) (w : World) :
    Calls Tryz.prog 49 #[.agg #[.int .i64 T.A.x, .int .i64 T.A.y, .int .i64 T.B.x, .int .i64 T.B.y, .int .i64 T.C.x, .int .i64 T.C.y], .agg #[.int .i64 p.x, .int .i64 p.y]] w fun e w' => e = .returned (.bool false) ∧ Below w.heap.size w w' := by
 have cv := zCi T
 rw [h0] at cv
 clear h0
 go_enter Tryz.func49, Tryz.ntmps49
 go_wp2_with fail
 refine zA1 fun W1 hW => ?_
 have Bt : Box W1 (w.heap.size) [.int .i64 T.A.x, .int .i64 T.A.y, .int .i64 T.B.x, .int .i64 T.B.y, .int .i64 T.C.x, .int .i64 T.C.y] 38 := by rw [hW]; exact (Box.new rfl).old _
 have Bp : Box W1 (w.heap.size + 1) [.int .i64 p.x, .int .i64 p.y] 30 := by rw [hW]; exact Box.new (by simp)
 have hw : Below w.heap.size w W1 := by rw [hW]; go_grown
 clear hW
 refine (cv _).mono ?_
 rintro e w2 ⟨rfl, hb⟩
 replace Bt := Bt.ee hb
 replace Bp := Bp.ee hb
 replace hw := upB hw hb
 clear hb
 have Ft := Bt.facts
 have Fp := Bp.facts
 go_wp2
 go_ret
 exact ⟨rfl, hw⟩
theorem rhasP_1 (T : Tri3) (p : Pt) (h0 : valT T = true) (h1 : vld p = false) (w : World) :
    Calls Tryz.prog 49 #[.agg #[.int .i64 T.A.x, .int .i64 T.A.y, .int .i64 T.B.x, .int .i64 T.B.y, .int .i64 T.C.x, .int .i64 T.C.y], .agg #[.int .i64 p.x, .int .i64 p.y]] w fun e w' => e = .returned (.bool false) ∧ Below w.heap.size w w' := by
 have cv := zCi T
 rw [h0] at cv
 clear h0
 have cp := zA5 p
 rw [h1] at cp
 clear h1
 go_enter Tryz.func49, Tryz.ntmps49
 go_wp2_with fail
 refine zA1 fun W1 hW => ?_
 have Bt : Box W1 (w.heap.size) [.int .i64 T.A.x, .int .i64 T.A.y, .int .i64 T.B.x, .int .i64 T.B.y, .int .i64 T.C.x, .int .i64 T.C.y] 38 := by rw [hW]; exact (Box.new rfl).old _
 have Bp : Box W1 (w.heap.size + 1) [.int .i64 p.x, .int .i64 p.y] 30 := by rw [hW]; exact Box.new (by simp)
 have hw : Below w.heap.size w W1 := by rw [hW]; go_grown
 clear hW
 refine (cv _).mono ?_
 rintro e w2 ⟨rfl, hb⟩
 replace Bt := Bt.ee hb
 replace Bp := Bp.ee hb
 replace hw := upB hw hb
 clear hb
 have Ft := Bt.facts
 have Fp := Bp.facts
 go_wp2_with fail
 refine (cp _).mono ?_
 rintro e w3 ⟨rfl, hb⟩
 clear Ft Fp
 replace Bt := Bt.ee hb
 replace Bp := Bp.ee hb
 replace hw := upB hw hb
 clear hb
 have Ft := Bt.facts
 have Fp := Bp.facts
 go_wp2
 go_ret
 exact ⟨rfl, hw⟩
theorem rhasP_2 (T : Tri3) (p : Pt) (h0 : valT T = true) (h1 : vld p = true) (g0 : decide (0 ≤ ori T.A T.B p) = false) (w : World) :
    Calls Tryz.prog 49 #[.agg #[.int .i64 T.A.x, .int .i64 T.A.y, .int .i64 T.B.x, .int .i64 T.B.y, .int .i64 T.C.x, .int .i64 T.C.y], .agg #[.int .i64 p.x, .int .i64 p.y]] w fun e w' => e = .returned (.bool false) ∧ Below w.heap.size w w' := by
 have cv := zCi T
 rw [h0] at cv
 clear h0
 have cp := zA5 p
 rw [h1] at cp
 clear h1
 have o0 := zA6 T.A T.B p
 generalize ori T.A T.B p = O0 at *
 go_enter Tryz.func49, Tryz.ntmps49
 go_wp2_with fail
 refine zA1 fun W1 hW => ?_
 have Bt : Box W1 (w.heap.size) [.int .i64 T.A.x, .int .i64 T.A.y, .int .i64 T.B.x, .int .i64 T.B.y, .int .i64 T.C.x, .int .i64 T.C.y] 38 := by rw [hW]; exact (Box.new rfl).old _
 have Bp : Box W1 (w.heap.size + 1) [.int .i64 p.x, .int .i64 p.y] 30 := by rw [hW]; exact Box.new (by simp)
 have hw : Below w.heap.size w W1 := by rw [hW]; go_grown
 clear hW
 refine (cv _).mono ?_
 rintro e w2 ⟨rfl, hb⟩
 replace Bt := Bt.ee hb
 replace Bp := Bp.ee hb
 replace hw := upB hw hb
 clear hb
 have Ft := Bt.facts
 have Fp := Bp.facts
 go_wp2_with fail
 refine (cp _).mono ?_
 rintro e w3 ⟨rfl, hb⟩
 clear Ft Fp
 replace Bt := Bt.ee hb
 replace Bp := Bp.ee hb
 replace hw := upB hw hb
 clear hb
 have Ft := Bt.facts
 have Fp := Bp.facts
 go_wp2_with fail
 refine (o0 _).mono ?_
 rintro e w4 ⟨rfl, hb⟩
 clear Ft Fp
 replace Bt := Bt.ee hb
 replace Bp := Bp.ee hb
 replace hw := upB hw hb
 clear hb
 have Ft := Bt.facts
 have Fp := Bp.facts
 go_wp2
 go_ret
 exact ⟨rfl, hw⟩
theorem rhasP_3 (T : Tri3) (p : Pt) (h0 : valT T = true) (h1 : vld p = true) (g0 : decide (0 ≤ ori T.A T.B p) = true) (g1 : decide (0 ≤ ori T.B T.C p) = false) (w : World) :
    Calls Tryz.prog 49 #[.agg #[.int .i64 T.A.x, .int .i64 T.A.y, .int .i64 T.B.x, .int .i64 T.B.y, .int .i64 T.C.x, .int .i64 T.C.y], .agg #[.int .i64 p.x, .int .i64 p.y]] w fun e w' => e = .returned (.bool false) ∧ Below w.heap.size w w' := by
 have cv := zCi T
 rw [h0] at cv
 clear h0
 have cp := zA5 p
 rw [h1] at cp
 clear h1
 have o0 := zA6 T.A T.B p
 generalize ori T.A T.B p = O0 at *
 have o1 := zA6 T.B T.C p
 generalize ori T.B T.C p = O1 at *
 go_enter Tryz.func49, Tryz.ntmps49
 go_wp2_with fail
 refine zA1 fun W1 hW => ?_
 have Bt : Box W1 (w.heap.size) [.int .i64 T.A.x, .int .i64 T.A.y, .int .i64 T.B.x, .int .i64 T.B.y, .int .i64 T.C.x, .int .i64 T.C.y] 38 := by rw [hW]; exact (Box.new rfl).old _
 have Bp : Box W1 (w.heap.size + 1) [.int .i64 p.x, .int .i64 p.y] 30 := by rw [hW]; exact Box.new (by simp)
 have hw : Below w.heap.size w W1 := by rw [hW]; go_grown
 clear hW
 refine (cv _).mono ?_
 rintro e w2 ⟨rfl, hb⟩
 replace Bt := Bt.ee hb
 replace Bp := Bp.ee hb
 replace hw := upB hw hb
 clear hb
 have Ft := Bt.facts
 have Fp := Bp.facts
 go_wp2_with fail
 refine (cp _).mono ?_
 rintro e w3 ⟨rfl, hb⟩
 clear Ft Fp
 replace Bt := Bt.ee hb
 replace Bp := Bp.ee hb
 replace hw := upB hw hb
 clear hb
 have Ft := Bt.facts
 have Fp := Bp.facts
 go_wp2_with fail
 refine (o0 _).mono ?_
 rintro e w4 ⟨rfl, hb⟩
 clear Ft Fp
 replace Bt := Bt.ee hb
 replace Bp := Bp.ee hb
 replace hw := upB hw hb
 clear hb
 have Ft := Bt.facts
 have Fp := Bp.facts
 go_wp2_with fail
 refine (o1 _).mono ?_
 rintro e w5 ⟨rfl, hb⟩
 clear Ft Fp
 replace Bt := Bt.ee hb
 replace Bp := Bp.ee hb
 replace hw := upB hw hb
 clear hb
 have Ft := Bt.facts
 have Fp := Bp.facts
 go_wp2
 go_ret
 exact ⟨rfl, hw⟩
theorem rhasP_4 (T : Tri3) (p : Pt) (h0 : valT T = true) (h1 : vld p = true) (g0 : decide (0 ≤ ori T.A T.B p) = true) (g1 : decide (0 ≤ ori T.B T.C p) = true) (w : World) :
    Calls Tryz.prog 49 #[.agg #[.int .i64 T.A.x, .int .i64 T.A.y, .int .i64 T.B.x, .int .i64 T.B.y, .int .i64 T.C.x, .int .i64 T.C.y], .agg #[.int .i64 p.x, .int .i64 p.y]] w fun e w' => e = .returned (.bool (decide (0 ≤ ori T.C T.A p))) ∧ Below w.heap.size w w' := by
 have cv := zCi T
 rw [h0] at cv
 clear h0
 have cp := zA5 p
 rw [h1] at cp
 clear h1
 have o0 := zA6 T.A T.B p
 generalize ori T.A T.B p = O0 at *
 have o1 := zA6 T.B T.C p
 generalize ori T.B T.C p = O1 at *
 have o2 := zA6 T.C T.A p
 generalize ori T.C T.A p = O2 at *
 go_enter Tryz.func49, Tryz.ntmps49
 go_wp2_with fail
 refine zA1 fun W1 hW => ?_
 have Bt : Box W1 (w.heap.size) [.int .i64 T.A.x, .int .i64 T.A.y, .int .i64 T.B.x, .int .i64 T.B.y, .int .i64 T.C.x, .int .i64 T.C.y] 38 := by rw [hW]; exact (Box.new rfl).old _
 have Bp : Box W1 (w.heap.size + 1) [.int .i64 p.x, .int .i64 p.y] 30 := by rw [hW]; exact Box.new (by simp)
 have hw : Below w.heap.size w W1 := by rw [hW]; go_grown
 clear hW
 refine (cv _).mono ?_
 rintro e w2 ⟨rfl, hb⟩
 replace Bt := Bt.ee hb
 replace Bp := Bp.ee hb
 replace hw := upB hw hb
 clear hb
 have Ft := Bt.facts
 have Fp := Bp.facts
 go_wp2_with fail
 refine (cp _).mono ?_
 rintro e w3 ⟨rfl, hb⟩
 clear Ft Fp
 replace Bt := Bt.ee hb
 replace Bp := Bp.ee hb
 replace hw := upB hw hb
 clear hb
 have Ft := Bt.facts
 have Fp := Bp.facts
 go_wp2_with fail
 refine (o0 _).mono ?_
 rintro e w4 ⟨rfl, hb⟩
 clear Ft Fp
 replace Bt := Bt.ee hb
 replace Bp := Bp.ee hb
 replace hw := upB hw hb
 clear hb
 have Ft := Bt.facts
 have Fp := Bp.facts
 go_wp2_with fail
 refine (o1 _).mono ?_
 rintro e w5 ⟨rfl, hb⟩
 clear Ft Fp
 replace Bt := Bt.ee hb
 replace Bp := Bp.ee hb
 replace hw := upB hw hb
 clear hb
 have Ft := Bt.facts
 have Fp := Bp.facts
 go_wp2_with fail
 refine (o2 _).mono ?_
 rintro e w6 ⟨rfl, hb⟩
 clear Ft Fp
 replace Bt := Bt.ee hb
 replace Bp := Bp.ee hb
 replace hw := upB hw hb
 clear hb
 have Ft := Bt.facts
 have Fp := Bp.facts
 go_wp2
 go_ret
 exact ⟨rfl, hw⟩
theorem zCk (T : Tri3) (p : Pt) (w : World) :
    Calls Tryz.prog 49 #[.agg #[.int .i64 T.A.x, .int .i64 T.A.y, .int .i64 T.B.x, .int .i64 T.B.y, .int .i64 T.C.x, .int .i64 T.C.y], .agg #[.int .i64 p.x, .int .i64 p.y]] w fun e w' => e = .returned (.bool (hasP T p)) ∧ Below w.heap.size w w' := by
 unfold hasP
 cases h0 : valT T with
 | false => exact rhasP_0 T p h0 w
 | true => cases h1 : vld p with
  | false => exact rhasP_1 T p h0 h1 w
  | true => cases g0 : decide (0 ≤ ori T.A T.B p) with
   | false => exact rhasP_2 T p h0 h1 g0 w
   | true => cases g1 : decide (0 ≤ ori T.B T.C p) with
    | false => exact rhasP_3 T p h0 h1 g0 g1 w
    | true => exact rhasP_4 T p h0 h1 g0 g1 w
end Go.Proofs.YtmobnmjjmafibaaGreat
namespace Go.Proofs.YtmobnmjjmafibaaGreat
open Go.RowKit Go.Sort
attribute [local go_sem] rOper rAt rUpon cell_set sg_i64 sg_u64 alloc_cell alloc_frozen
attribute [local go_sem 10000] pt_eql pt_neq
attribute [local irreducible] rWalk
def plc (i : Int) : Int := i % 3
theorem zFm (i : Int) : plc i = 0 ∨ plc i = 1 ∨ plc i = 2 := by unfold plc; omega
theorem zFn (i : Int) : (wrap64 (i.tmod 3 + 3)).tmod 3 = plc i := by
 have h := @Int.tmod_eq_emod i 3
 have h2 : i.tmod 3 = i % 3 ∨ i.tmod 3 = i % 3 - 3 := by
  split at h
  ·left; omega
  ·right; simp at h; omega
 rw [show wrap64 (i.tmod 3 + 3) = i.tmod 3 + 3 by rw [w64]; omega, Int.tmod_eq_emod_of_nonneg (by omega)]
 unfold plc; omega
theorem zEg (i : Int) (w : World) :
    Calls Tryz.prog 125 #[.int .i64 i] w fun e w' => e = .returned (.int .i64 (plc i)) ∧ Below w.heap.size w w' := by
 rw [← zFn]
 go_enter Tryz.func125, Tryz.ntmps125
 go_wp2
 go_ret
 exact ⟨rfl, by go_grown⟩
def crn (T : Tri3) (i : Int) : Pt := if plc i = 0 then T.A else if plc i = 1 then T.B else T.C
theorem crn_plc (T : Tri3) (i : Int) : crn T (plc i) = crn T i := by
 have : plc (plc i) = plc i := by unfold plc; omega
 unfold crn; rw [this]
theorem crn_next (T : Tri3) (i : Int) : crn T (plc i + 1) = crn T (i + 1) := by
 have : plc (plc i + 1) = plc (i + 1) := by unfold plc; omega
 unfold crn; rw [this]
theorem corner_0 (T : Tri3) (i : Int) (h : plc i = 0) (w : World) :
    Calls Tryz.prog 117 #[.agg #[.int .i64 T.A.x, .int .i64 T.A.y, .int .i64 T.B.x, .int .i64 T.B.y, .int .i64 T.C.x, .int .i64 T.C.y], .int .i64 i] w fun e w' => e = .returned (.agg #[.int .i64 T.A.x, .int .i64 T.A.y]) ∧ Below w.heap.size w w' := by
 have cp := zEg i
 rw [h] at cp
 clear h
 go_enter Tryz.func117, Tryz.ntmps117
 go_wp2_with fail
 refine zA1 fun W1 hW => ?_
 have Bt : Box W1 (w.heap.size) [.int .i64 T.A.x, .int .i64 T.A.y, .int .i64 T.B.x, .int .i64 T.B.y, .int .i64 T.C.x, .int .i64 T.C.y] 38 := by rw [hW]; exact (Box.new rfl).old _
 have Br : Box W1 (w.heap.size + 1) [.int .i64 0, .int .i64 0] 30 := by rw [hW]; exact Box.new (by simp)
 have hw : Below w.heap.size w W1 := by rw [hW]; go_grown
 clear hW
 refine (cp _).mono ?_
 rintro e w2 ⟨rfl, hb⟩
 replace Bt := Bt.ee hb
 replace Br := Br.ee hb
 replace hw := upB hw hb
 clear hb
 have Ft := Bt.facts
 have Fr := Br.facts
 go_wp2_with fail
 refine bodyPost_ret (v := .agg #[.int .i64 T.A.x, .int .i64 T.A.y]) (by simp [results, Tryz.results117, go_sem, Fr]) rfl ⟨rfl, by have hl := hw.size; go_grown⟩
theorem corner_1 (T : Tri3) (i : Int) (h : plc i = 1) (w : World) :
    Calls Tryz.prog 117 #[.agg #[.int .i64 T.A.x, .int .i64 T.A.y, .int .i64 T.B.x, .int .i64 T.B.y, .int .i64 T.C.x, .int .i64 T.C.y], .int .i64 i] w fun e w' => e = .returned (.agg #[.int .i64 T.B.x, .int .i64 T.B.y]) ∧ Below w.heap.size w w' := by
 have cp := zEg i
 rw [h] at cp
 clear h
 go_enter Tryz.func117, Tryz.ntmps117
 go_wp2_with fail
 refine zA1 fun W1 hW => ?_
 have Bt : Box W1 (w.heap.size) [.int .i64 T.A.x, .int .i64 T.A.y, .int .i64 T.B.x, .int .i64 T.B.y, .int .i64 T.C.x, .int .i64 T.C.y] 38 := by rw [hW]; exact (Box.new rfl).old _
 have Br : Box W1 (w.heap.size + 1) [.int .i64 0, .int .i64 0] 30 := by rw [hW]; exact Box.new (by simp)
 have hw : Below w.heap.size w W1 := by rw [hW]; go_grown
 clear hW
 refine (cp _).mono ?_
 rintro e w2 ⟨rfl, hb⟩
 replace Bt := Bt.ee hb
 replace Br := Br.ee hb
 replace hw := upB hw hb
 clear hb
 have Ft := Bt.facts
 have Fr := Br.facts
 go_wp2_with fail
 refine bodyPost_ret (v := .agg #[.int .i64 T.B.x, .int .i64 T.B.y]) (by simp [results, Tryz.results117, go_sem, Fr]) rfl ⟨rfl, by have hl := hw.size; go_grown⟩
theorem corner_2 (T : Tri3) (i : Int) (h : plc i = 2) (w : World) :
    Calls Tryz.prog 117 #[.agg #[.int .i64 T.A.x, .int .i64 T.A.y, .int .i64 T.B.x, .int .i64 T.B.y, .int .i64 T.C.x, .int .i64 T.C.y], .int .i64 i] w fun e w' => e = .returned (.agg #[.int .i64 T.C.x, .int .i64 T.C.y]) ∧ Below w.heap.size w w' := by
 have cp := zEg i
 rw [h] at cp
 clear h
 go_enter Tryz.func117, Tryz.ntmps117
 go_wp2_with fail
 refine zA1 fun W1 hW => ?_
 have Bt : Box W1 (w.heap.size) [.int .i64 T.A.x, .int .i64 T.A.y, .int .i64 T.B.x, .int .i64 T.B.y, .int .i64 T.C.x, .int .i64 T.C.y] 38 := by rw [hW]; exact (Box.new rfl).old _
 have Br : Box W1 (w.heap.size + 1) [.int .i64 0, .int .i64 0] 30 := by rw [hW]; exact Box.new (by simp)
 have hw : Below w.heap.size w W1 := by rw [hW]; go_grown
 clear hW
 refine (cp _).mono ?_
 rintro e w2 ⟨rfl, hb⟩
 replace Bt := Bt.ee hb
 replace Br := Br.ee hb
 replace hw := upB hw hb
 clear hb
 have Ft := Bt.facts
 have Fr := Br.facts
 go_wp2_with fail
 refine bodyPost_ret (v := .agg #[.int .i64 T.C.x, .int .i64 T.C.y]) (by simp [results, Tryz.results117, go_sem, Fr]) rfl ⟨rfl, by have hl := hw.size; go_grown⟩
theorem zDo (T : Tri3) (i : Int) (w : World) :
    Calls Tryz.prog 117 #[.agg #[.int .i64 T.A.x, .int .i64 T.A.y, .int .i64 T.B.x, .int .i64 T.B.y, .int .i64 T.C.x, .int .i64 T.C.y], .int .i64 i] w fun e w' => e = .returned (.agg #[.int .i64 (crn T i).x, .int .i64 (crn T i).y]) ∧ Below w.heap.size w w' := by
 rcases zFm i with h | h | h
 ·rw [show crn T i = T.A by unfold crn; simp [h]]; exact corner_0 T i h w
 ·rw [show crn T i = T.B by unfold crn; simp [h]]; exact corner_1 T i h w
 ·rw [show crn T i = T.C by unfold crn; simp [h]]; exact corner_2 T i h w
theorem zBb (T : Tri3) (w : World) :
    Calls Tryz.prog 121 #[.agg #[.int .i64 T.A.x, .int .i64 T.A.y, .int .i64 T.B.x, .int .i64 T.B.y, .int .i64 T.C.x, .int .i64 T.C.y]] w fun e w' => e = .returned (.agg #[.int .i64 T.B.x, .int .i64 T.B.y, .int .i64 T.C.x, .int .i64 T.C.y, .int .i64 T.A.x, .int .i64 T.A.y]) ∧ Below w.heap.size w w' := by
 go_enter Tryz.func121, Tryz.ntmps121
 go_wp2_with fail
 refine bodyPost_ret (v := .agg #[.int .i64 T.B.x, .int .i64 T.B.y, .int .i64 T.C.x, .int .i64 T.C.y, .int .i64 T.A.x, .int .i64 T.A.y]) (by simp [results, Tryz.results121, go_sem]) rfl ⟨rfl, by go_grown⟩
def leq (p q : Pt) : Bool := decide (cmpP p q ≤ 0)
def lds (T : Tri3) : Bool := leq T.A T.B && leq T.A T.C
theorem leads_0 (T : Tri3) (h : leq T.A T.B = false) (w : World) :
    Calls Tryz.prog 120 #[.agg #[.int .i64 T.A.x, .int .i64 T.A.y, .int .i64 T.B.x, .int .i64 T.B.y, .int .i64 T.C.x, .int .i64 T.C.y]] w fun e w' => e = .returned (.bool false) ∧ Below w.heap.size w w' := by
 have c1 := zAk T.A T.B
 unfold leq at h
 generalize cmpP T.A T.B = n at *
 go_enter Tryz.func120, Tryz.ntmps120
 go_wp2_with fail
 refine zA1 fun W1 hW => ?_
 have Bt : Box W1 (w.heap.size) [.int .i64 T.A.x, .int .i64 T.A.y, .int .i64 T.B.x, .int .i64 T.B.y, .int .i64 T.C.x, .int .i64 T.C.y] 38 := by rw [hW]; exact Box.new rfl
 have hw : Below w.heap.size w W1 := by rw [hW]; go_grown
 clear hW
 refine (c1 _).mono ?_
 rintro e w2 ⟨rfl, hb⟩
 replace Bt := Bt.ee hb
 replace hw := upB hw hb
 clear hb
 have Ft := Bt.facts
 go_wp2
 go_ret
 exact ⟨rfl, by have hl := hw.size; go_grown⟩
theorem leads_1 (T : Tri3) (h : leq T.A T.B = true) (w : World) :
    Calls Tryz.prog 120 #[.agg #[.int .i64 T.A.x, .int .i64 T.A.y, .int .i64 T.B.x, .int .i64 T.B.y, .int .i64 T.C.x, .int .i64 T.C.y]] w fun e w' => e = .returned (.bool (leq T.A T.C)) ∧ Below w.heap.size w w' := by
 have c1 := zAk T.A T.B
 have c2 := zAk T.A T.C
 unfold leq at h ⊢
 generalize cmpP T.A T.B = n at *
 generalize cmpP T.A T.C = m at *
 go_enter Tryz.func120, Tryz.ntmps120
 go_wp2_with fail
 refine zA1 fun W1 hW => ?_
 have Bt : Box W1 (w.heap.size) [.int .i64 T.A.x, .int .i64 T.A.y, .int .i64 T.B.x, .int .i64 T.B.y, .int .i64 T.C.x, .int .i64 T.C.y] 38 := by rw [hW]; exact Box.new rfl
 have hw : Below w.heap.size w W1 := by rw [hW]; go_grown
 clear hW
 refine (c1 _).mono ?_
 rintro e w2 ⟨rfl, hb⟩
 replace Bt := Bt.ee hb
 replace hw := upB hw hb
 clear hb
 have Ft := Bt.facts
 go_wp2_with fail
 refine (c2 _).mono ?_
 rintro e w3 ⟨rfl, hb⟩
 clear Ft
 replace Bt := Bt.ee hb
 replace hw := upB hw hb
 clear hb
 have Ft := Bt.facts
 go_wp2
 go_ret
 exact ⟨rfl, by have hl := hw.size; go_grown⟩
theorem zAh (T : Tri3) (w : World) :
    Calls Tryz.prog 120 #[.agg #[.int .i64 T.A.x, .int .i64 T.A.y, .int .i64 T.B.x, .int .i64 T.B.y, .int .i64 T.C.x, .int .i64 T.C.y]] w fun e w' => e = .returned (.bool (lds T)) ∧ Below w.heap.size w w' := by
 unfold lds
 cases h : leq T.A T.B with
 | false => exact leads_0 T h w
 | true => exact leads_1 T h w
def valS (T : Tri3) : Bool := decide (0 < ori T.A T.B T.C) && lds T
theorem tvalid_0 (T : Tri3) (h : decide (0 < ori T.A T.B T.C) = false) (w : World) :
    Calls Tryz.prog 100 #[.agg #[.int .i64 T.A.x, .int .i64 T.A.y, .int .i64 T.B.x, .int .i64 T.B.y, .int .i64 T.C.x, .int .i64 T.C.y]] w fun e w' => e = .returned (.bool false) ∧ Below w.heap.size w w' := by
 have c1 := zA7 T.A T.B T.C
 generalize ori T.A T.B T.C = n at *
 go_enter Tryz.func100, Tryz.ntmps100
 go_wp2_with fail
 refine zA1 fun W1 hW => ?_
 have Bt : Box W1 (w.heap.size) [.int .i64 T.A.x, .int .i64 T.A.y, .int .i64 T.B.x, .int .i64 T.B.y, .int .i64 T.C.x, .int .i64 T.C.y] 38 := by rw [hW]; exact Box.new rfl
 have hw : Below w.heap.size w W1 := by rw [hW]; go_grown
 clear hW
 refine (c1 _).mono ?_
 rintro e w2 ⟨rfl, hb⟩
 replace Bt := Bt.ee hb
 replace hw := upB hw hb
 clear hb
 have Ft := Bt.facts
 go_wp2
 go_ret
 exact ⟨rfl, by have hl := hw.size; go_grown⟩
theorem tvalid_1 (T : Tri3) (h : decide (0 < ori T.A T.B T.C) = true) (w : World) :
    Calls Tryz.prog 100 #[.agg #[.int .i64 T.A.x, .int .i64 T.A.y, .int .i64 T.B.x, .int .i64 T.B.y, .int .i64 T.C.x, .int .i64 T.C.y]] w fun e w' => e = .returned (.bool (lds T)) ∧ Below w.heap.size w w' := by
 have c1 := zA7 T.A T.B T.C
 have c2 := zAh T
 generalize ori T.A T.B T.C = n at *
 generalize lds T = m at *
 go_enter Tryz.func100, Tryz.ntmps100
 go_wp2_with fail
 refine zA1 fun W1 hW => ?_
 have Bt : Box W1 (w.heap.size) [.int .i64 T.A.x, .int .i64 T.A.y, .int .i64 T.B.x, .int .i64 T.B.y, .int .i64 T.C.x, .int .i64 T.C.y] 38 := by rw [hW]; exact Box.new rfl
 have hw : Below w.heap.size w W1 := by rw [hW]; go_grown
 clear hW
 refine (c1 _).mono ?_
 rintro e w2 ⟨rfl, hb⟩
 replace Bt := Bt.ee hb
 replace hw := upB hw hb
 clear hb
 have Ft := Bt.facts
 go_wp2_with fail
 refine (c2 _).mono ?_
 rintro e w3 ⟨rfl, hb⟩
 clear Ft
 replace Bt := Bt.ee hb
 replace hw := upB hw hb
 clear hb
 have Ft := Bt.facts
 go_wp2
 go_ret
 exact ⟨rfl, by have hl := hw.size; go_grown⟩
theorem zBs {p q : Pt} (hp : vld p = true) (hq : vld q = true) : leq p q = decide (key p ≤ key q) := by
 have h := zH0 hq hp
 have h2 := zEv hp hq
 have h3 := zAs (key p - key q)
 unfold leq
 by_cases hh : key p ≤ key q
 ·rw [decide_eq_true hh, decide_eq_true]; omega
 ·rw [decide_eq_false hh, decide_eq_false]; omega
theorem zEz {s u : Tri3} : teq s u = true ↔ s = u := by
 unfold teq
 simp only [Bool.and_eq_true, zBp]
 cases s with | mk a b c => cases u with | mk d e f => cases a; cases b; cases c; cases d; cases e; cases f; simp [and_assoc]
theorem Tri3.eq_iff {s u : Tri3} : s = u ↔ s.A = u.A ∧ s.B = u.B ∧ s.C = u.C := by
 cases s; cases u; simp
theorem zHz (T : Tri3) : valT T = valS T := by
 obtain ⟨a, b, c⟩ := T
 unfold valT valS lds
 simp only
 have hb := zBv a b c
 by_cases h0 : ori a b c = 0
 ·simp [h0]
 ·obtain ⟨va, vb, vc⟩ := zC8 h0
  obtain ⟨d1, d2, d3⟩ := zB3 h0
  have n1 : key a ≠ key b := fun h => d1 (zBr va vb h).symm
  have n2 : key a ≠ key c := fun h => d2 (zBr va vc h).symm
  have n3 : key b ≠ key c := fun h => d3 (zBr vb vc h).symm
  rw [zBs va vb, zBs va vc, show (!decide (ori a b c = 0)) = true by simp [h0], Bool.true_and]
  rw [Bool.eq_iff_iff, zEz]
  by_cases h1 : ori a b c = 1
  ·rw [show mk a b c = mkT a b c by unfold mk; rw [if_neg h0, if_pos h1]]
   rcases zDg va vb vc n1 n2 n3 with ⟨x1, x2, e⟩ | ⟨x1, x2, e⟩ | ⟨x1, x2, e⟩ <;> rw [e, Tri3.eq_iff] <;> simp only [Bool.and_eq_true, decide_eq_true_eq]
   ·simp; omega
   ·exact ⟨fun h => absurd h.1 d1, fun h => by omega⟩
   ·exact ⟨fun h => absurd h.1 d2, fun h => by omega⟩
  ·have h2 : ori a b c = -1 := by omega
   rw [show mk a b c = mkT a c b by unfold mk; rw [if_neg h0, if_neg h1]]
   rcases zDg va vc vb n2 n1 n3.symm with ⟨x1, x2, e⟩ | ⟨x1, x2, e⟩ | ⟨x1, x2, e⟩ <;> rw [e, Tri3.eq_iff] <;> simp only [Bool.and_eq_true, decide_eq_true_eq]
   ·exact ⟨fun h => absurd h.2.1 d3, fun h => by omega⟩
   ·exact ⟨fun h => absurd h.1 d2, fun h => by omega⟩
   ·exact ⟨fun h => absurd h.1 d1, fun h => by omega⟩
theorem zB1 (T : Tri3) (w : World) :
    Calls Tryz.prog 100 #[.agg #[.int .i64 T.A.x, .int .i64 T.A.y, .int .i64 T.B.x, .int .i64 T.B.y, .int .i64 T.C.x, .int .i64 T.C.y]] w fun e w' => e = .returned (.bool (valT T)) ∧ Below w.heap.size w w' := by
 rw [zHz]
 unfold valS
 cases h : decide (0 < ori T.A T.B T.C) with
 | false => exact tvalid_0 T h w
 | true => exact tvalid_1 T h w
end Go.Proofs.YtmobnmjjmafibaaGreat
namespace Go.Proofs.YtmobnmjjmafibaaGreat
open Go.RowKit
instance : DecidableEq Tri3 := fun p q => decidable_of_iff (p.A = q.A ∧ p.B = q.B ∧ p.C = q.C) Tri3.eq_iff.symm
instance : Inhabited Tri3 := ⟨⟨⟨0, 0⟩, ⟨0, 0⟩, ⟨0, 0⟩⟩⟩
def cP (p : Pt) : List Value := [.int .i64 p.x, .int .i64 p.y]
def cT (t : Tri3) : List Value := [.int .i64 t.A.x, .int .i64 t.A.y, .int .i64 t.B.x, .int .i64 t.B.y, .int .i64 t.C.x, .int .i64 t.C.y]
@[reducible] def eT (t : Tri3) : Value := .agg #[.int .i64 t.A.x, .int .i64 t.A.y, .int .i64 t.B.x, .int .i64 t.B.y, .int .i64 t.C.x, .int .i64 t.C.y]
def okT (t : Tri3) : Prop := okP t.A ∧ okP t.B ∧ okP t.C
section
variable {α : Type}
def RowAt (c : α → List Value) (k : Nat) (w : World) (a : Option Addr) (L : List α) : Prop :=
 ∀ (j : Nat) (x : α), L[j]? = some x → ∃ ad, a = some ad ∧ ad.block < w.heap.size ∧ ∀ i u, (c x)[i]? = some u → w.cell? ((ad.add (j * k)).add i) = some u
theorem zAl (a : Addr) (n : Nat) : (a.add n).block = a.block := by unfold Addr.add; split <;> rfl
theorem RowAt.ext {c : α → List Value} {k : Nat} {w w' : World} {a : Option Addr} {L : List α} {n : Nat} (h : RowAt c k w a L) (hb : Below n w w') (hn : n = w.heap.size) : RowAt c k w' a L := fun j x hx => by
 obtain ⟨ad, h1, h2, h3⟩ := h j x hx
 refine ⟨ad, h1, Nat.lt_of_lt_of_le h2 hb.size, fun i u hu => ?_⟩
 rw [hb.cell (p := (ad.add (j * k)).add i) (by rw [zAl, zAl, hn]; exact h2)]
 exact h3 i u hu
theorem RowAt.ee {c : α → List Value} {k : Nat} {w w' : World} {a : Option Addr} {L : List α} (h : RowAt c k w a L) (hb : Below w.heap.size w w') : RowAt c k w' a L := h.ext hb rfl
theorem RowAt.kept {c : α → List Value} {k : Nat} {w w' : World} {a : Option Addr} {L : List α} {row : Option Nat} (h : RowAt c k w a L) (hg : w.grownBy w' row) (hne : ∀ ad, a = some ad → some ad.block ≠ row) : RowAt c k w' a L := fun j x hx => by
 obtain ⟨ad, h1, h2, h3⟩ := h j x hx
 refine ⟨ad, h1, Nat.lt_of_lt_of_le h2 hg.size, fun i u hu => ?_⟩
 exact hg.cell (h3 i u hu) (by rw [zAl, zAl]; exact hne ad h1)
theorem RowAt.nil {c : α → List Value} {k : Nat} {w : World} {a : Option Addr} : RowAt c k w a [] := fun j x h => by simp at h
theorem RowAt.old {c : α → List Value} {k : Nat} {w : World} {a : Option Addr} {L : List α} (h : RowAt c k w a L) (o : Obj) : RowAt c k (w.alloc o) a L :=
 h.kept (World.grownBy_alloc w o none) (by simp)
theorem RowAt.tri {w : World} {a : Option Addr} {L : List Tri3} (h : RowAt cT 6 w a L) {j : Nat} (hj : j < L.length) :
    ∃ ad A, a = some ad ∧ ad.add (j * 6) = A ∧ (A.block = w.heap.size) = False ∧ A.block < w.heap.size ∧ (w.cell? A = some (.int .i64 L[j].A.x) ∧ w.cell? ⟨A.block, A.off + 1, none⟩ = some (.int .i64 L[j].A.y) ∧ w.cell? ⟨A.block, A.off + 2, none⟩ = some (.int .i64 L[j].B.x) ∧
     w.cell? ⟨A.block, A.off + 3, none⟩ = some (.int .i64 L[j].B.y) ∧ w.cell? ⟨A.block, A.off + 4, none⟩ = some (.int .i64 L[j].C.x) ∧ w.cell? ⟨A.block, A.off + 5, none⟩ = some (.int .i64 L[j].C.y)) := by
 obtain ⟨ad, h1, h2, h3⟩ := h j L[j] (List.getElem?_eq_getElem hj)
 have hb : (ad.add (j * 6)).block = ad.block := zAl _ _
 refine ⟨ad, _, h1, rfl, by rw [hb]; simp; omega, by rw [hb]; exact h2, ?_⟩
 have e0 := h3 0 _ rfl
 have e1 := h3 1 _ rfl
 have e2 := h3 2 _ rfl
 have e3 := h3 3 _ rfl
 have e4 := h3 4 _ rfl
 have e5 := h3 5 _ rfl
 simp only [Addr.add_zero', Addr.add_succ'] at e0 e1 e2 e3 e4 e5
 exact ⟨e0, e1, e2, e3, e4, e5⟩
theorem RowAt.pt {w : World} {a : Option Addr} {L : List Pt} (h : RowAt cP 2 w a L) {j : Nat} (hj : j < L.length) :
    ∃ ad A, a = some ad ∧ ad.add (j * 2) = A ∧ (A.block = w.heap.size) = False ∧ A.block < w.heap.size ∧ (w.cell? A = some (.int .i64 L[j].x) ∧ w.cell? ⟨A.block, A.off + 1, none⟩ = some (.int .i64 L[j].y)) := by
 obtain ⟨ad, h1, h2, h3⟩ := h j L[j] (List.getElem?_eq_getElem hj)
 have hb : (ad.add (j * 2)).block = ad.block := zAl _ _
 refine ⟨ad, _, h1, rfl, by rw [hb]; simp; omega, by rw [hb]; exact h2, ?_⟩
 have e0 := h3 0 _ rfl
 have e1 := h3 1 _ rfl
 simp only [Addr.add_zero', Addr.add_succ'] at e0 e1
 exact ⟨e0, e1⟩
end
end Go.Proofs.YtmobnmjjmafibaaGreat
namespace Go.Proofs.YtmobnmjjmafibaaGreat
open Go.RowKit Go.Sort
attribute [local go_sem] rOper rAt rUpon cell_set sg_i64 sg_u64 alloc_cell alloc_frozen
attribute [local go_sem 10000] pt_eql pt_neq tri_eql
attribute [local irreducible] rWalk
theorem zIu (T : Tri3) (i : Int) (w : World) :
    Calls Tryz.prog 91 #[.agg #[.int .i64 T.A.x, .int .i64 T.A.y, .int .i64 T.B.x, .int .i64 T.B.y, .int .i64 T.C.x, .int .i64 T.C.y], .int .i64 i] w fun e w' => e = .returned (.tuple #[.agg #[.int .i64 (crn T i).x, .int .i64 (crn T i).y], .agg #[.int .i64 (crn T (i + 1)).x, .int .i64 (crn T (i + 1)).y]]) ∧ Below w.heap.size w w' := by
 have cp := zEg i
 have d1 := zDo T (plc i)
 have d2 := zDo T (plc i + 1)
 rw [crn_plc] at d1
 rw [crn_next] at d2
 have hk := zFm i
 have hq : wrap64 (plc i + 1) = plc i + 1 := by rw [w64]; omega
 have hq2 : IntKind.i64.wrap (plc i + 1) = plc i + 1 := by rw [IntKind.wrap_i64]; omega
 generalize crn T i = P at *
 generalize crn T (i + 1) = Q at *
 generalize plc i = k at *
 clear hk
 go_enter Tryz.func91, Tryz.ntmps91
 go_wp2_with fail
 refine zA1 fun W1 hW => ?_
 have Bt : Box W1 (w.heap.size) [.int .i64 T.A.x, .int .i64 T.A.y, .int .i64 T.B.x, .int .i64 T.B.y, .int .i64 T.C.x, .int .i64 T.C.y] 38 := by rw [hW]; exact ((Box.new rfl).old _).old _
 have Br : Box W1 (w.heap.size + 1) [.int .i64 0, .int .i64 0] 30 := by rw [hW]; exact (Box.new (by simp)).old _
 have Bq : Box W1 (w.heap.size + 1 + 1) [.int .i64 0, .int .i64 0] 30 := by rw [hW]; exact Box.new (by simp)
 have hw : Below w.heap.size w W1 := by rw [hW]; go_grown
 clear hW
 refine (cp _).mono ?_
 rintro e w2 ⟨rfl, hb⟩
 replace Bt := Bt.ee hb
 replace Br := Br.ee hb
 replace Bq := Bq.ee hb
 replace hw := upB hw hb
 clear hb
 have Ft := Bt.facts
 have Fr := Br.facts
 have Fq := Bq.facts
 go_wp2_with fail
 refine zA2 fun W9 hW => ?_
 replace hw : Below w.heap.size w W9 := by rw [hW]; exact hw
 replace Bt : Box W9 (w.heap.size) [.int .i64 T.A.x, .int .i64 T.A.y, .int .i64 T.B.x, .int .i64 T.B.y, .int .i64 T.C.x, .int .i64 T.C.y] 38 := by rw [hW]; exact Bt
 replace Br : Box W9 (w.heap.size + 1) [.int .i64 0, .int .i64 0] 30 := by rw [hW]; exact Br
 replace Bq : Box W9 (w.heap.size + 1 + 1) [.int .i64 0, .int .i64 0] 30 := by rw [hW]; exact Bq
 clear hW
 clear Ft Fr Fq
 have gt := Bt.cells
 have gr := Br.cells
 have gq := Bq.cells
 refine wp_region_tail 7 (by kernel_rfl) (by kernel_rfl) (C := fun w' => ∃ p : Regrown, w' = grow (redrawn W9 p.d) p.os) rgB ?_
 simp only [tK1, tK0, dP1, dP0]
 repeat (first | (refine zA0 (Eq.refl false) ?_; simp only [Act.put, sT2, sT1, sT0]) | (refine rWalk_step (fun K hK => ?_); go_simp; first | (refine hK _ ?_; clear hK K) | (apply Exists.intro; refine ⟨fun _ => ?_, hK _ ?_⟩; (first | with_reducible exact toExt d1 _ | with_reducible exact toExt d2 _); clear hK K)))
 refine rWalk_nil ?_
 intro w3 hb
 clear gt gr gq
 replace Bt := Bt.ee hb
 replace Br := Br.ee hb
 replace Bq := Bq.ee hb
 replace hw := upB hw hb
 have Ft := Bt.facts
 have Fr := Br.facts
 have Fq := Bq.facts
 go_wp2_with fail
 refine bodyPost_ret (v := .tuple #[.agg #[.int .i64 P.x, .int .i64 P.y], .agg #[.int .i64 Q.x, .int .i64 Q.y]]) (by simp [results, Tryz.results91, go_sem, Fr, Fq]) rfl ⟨rfl, by have hl := hw.size; go_grown⟩
def mn3 (x y z : Int) : Int := if z < (if y < x then y else x) then z else (if y < x then y else x)
theorem run_mn3 {P : Program} (w : World) (ts : Array TypeId) (t : TypeId) (k k' k'' : IntKind) (x y z : Int) : (Builtin.min_ ts t #[.int k x, .int k' y, .int k'' z]).run P w = .ok (.int k (mn3 x y z)) w := run_min_int3 w ts t k k' k'' x y z
attribute [local go_sem 10000] run_mn3
def sde (T : Tri3) (p : Pt) : Int := mn3 (ori T.A T.B p) (ori T.B T.C p) (ori T.C T.A p)
def hasS (T : Tri3) (p : Pt) : Bool := valT T && (vld p && decide (0 ≤ sde T p))
end Go.Proofs.YtmobnmjjmafibaaGreat
namespace Go.Proofs.YtmobnmjjmafibaaGreat
open Go.RowKit Go.Sort
theorem wp_region_lateG {P : Program} {C : World → Prop} {id : Nat} {Q : Exit → Act → World → Prop} {a : Act} {w : World} {l hd : List Oper} (n j s : Nat) (d t : Tmp) {T : TypeId} {zs us : List Value} {eff : Nat → World → World} (heff : ∀ (w : World) (b : Nat), w.heap[b]? = some (.cells zs.toArray T) → (eff b w).heap[b]? = some (.cells us.toArray T) ∧ (∀ B, B ≤ b → Below B w (eff b w))) (u : Value) {oj os : Oper}
    (hoj : l.toArray[j]? = some oj) (hos : l.toArray[s]? = some os) (hjd : oj.dst = some d) (hafter : oj.after = #[]) (hguard : oj.guard = none) (hsd : os.dst = none) (hsg : os.guard = none)
    (hdsz : d < a.tmps.size)
    (hrun : ∀ (ρ : Operand → Value) (w : World), (execOp ρ oj).run P w = .ok (.value (.pointer (some ⟨w.heap.size, 0, none⟩))) (w.alloc (.cells zs.toArray T)))
    (hm : P.follows .mixedOrders = true) (hB : lateB .any l.toArray n j s d t = true)
    (hhd : ((List.range n).filter fun i => i != j && i != s).map (fun i => l.toArray[i]?) = hd.map some)
    (hC : ∀ w', Below w.heap.size w w' → C w')
    (h : rWalk P l.toArray C (fun a' => a'.eval (.tmp t) = u ∧ ∀ w' b, Below w.heap.size w w' → w.heap.size ≤ b → b < w'.heap.size → Box w' b us T → wpList P l.toArray Q (l.drop n) (a'.put (some d) (.pointer (some ⟨b, 0, none⟩))) w') hd a)
    (hst : ∀ (ρ : Operand → Value) (w : World) (b : Nat), ρ (.tmp d) = .pointer (some ⟨b, 0, none⟩) → ρ (.tmp t) = u → Box w b zs T → (execOp ρ os).run P w = .ok .skip (eff b w)) :
    (Code.region id l.toArray true).wp P Q a w := by
 simp only [lateB, Bool.and_eq_true, decide_eq_true_eq] at hB
 obtain ⟨⟨⟨⟨⟨⟨⟨⟨⟨⟨⟨⟨⟨hsel, hn⟩, hjn⟩, hsn⟩, hjs⟩, hdt⟩, hs⟩, hc⟩, hph⟩, hbk⟩, hsj⟩, hwr⟩, hqa⟩, ho⟩ := hB
 have K : Late P .any l.toArray n j s d t T zs.toArray us.toArray u oj os eff :=
  ⟨hsel, hn, hjn, hsn, hjs, hs, hc, hbk, hoj, hos, hjd, hafter, hguard, hsd, hsg, hsj, hdt, hwr, hrun, hst, fun w b h => heff w b h⟩
 have hjz : (Array.replicate l.toArray.size false).getD j true = false := getD_in (by simp; simp at hn; omega) (getD_replicate_false _ _)
 have hsz : (Array.replicate l.toArray.size false).getD s true = false := getD_in (by simp; simp at hn; omega) (getD_replicate_false _ _)
 have tl : ∀ (m : Array Bool) (i : Nat), i < n → (m.size = l.toArray.size ∧ ∀ t', n ≤ t' → t' < l.toArray.size → m.getD t' true = false) → ((m.setIfInBounds i true).size = l.toArray.size ∧ ∀ t', n ≤ t' → t' < l.toArray.size → (m.setIfInBounds i true).getD t' true = false) :=
  fun m i hi ⟨h1, h2⟩ => ⟨by simpa using h1, fun t' ht ht' => by rw [getD_set_ne true (by omega)]; exact h2 t' ht ht'⟩
 have i0 : (Array.replicate l.toArray.size false).size = l.toArray.size ∧ ∀ t', n ≤ t' → t' < l.toArray.size → (Array.replicate l.toArray.size false).getD t' true = false :=
  ⟨by simp, fun t' _ ht' => getD_in (by simpa using ht') (getD_replicate_false _ _)⟩
 have H := zBo (md := .any) (g := l.toArray.size - n) hsel (fun m => m.size = l.toArray.size ∧ ∀ t', n ≤ t' → t' < l.toArray.size → m.getD t' true = false) (fun m i hi _ hin => tl m i hin hi) (fun m hm => phase_waits hph hc hm.2)
  ((List.range n).filter fun i => i != j && i != s) hd _ a hhd (tl _ s hsn (tl _ j hjn i0)) ho h
 refine wp_region_any hm ?_
 have R := late_zero (md := .any) (Q := Q) (l := l.drop n) (w0 := w) K hqa (g := l.toArray.size - n) (by simp) (fun j => by simp [List.getElem?_drop]) hC (fun a' hl => hl.1)
  (fun a' w' b h1 h2 h3 h4 hl => hl.2 w' b h1 h2 h3 h4) _ (Array.replicate l.toArray.size false) a { w with drawn := w.drawn + 1 } hdsz ⟨rfl, rfl, rfl, Nat.le_refl _, fun _ _ => rfl⟩ hjz hsz headInv0 H
 have hcount : ((List.range n).filter fun i => i != j && i != s).length + 1 + 1 = n := count_two hjn hsn hjs
 rw [show ((List.range n).filter fun i => i != j && i != s).length + (l.toArray.size - n) + 1 + 1 = l.toArray.size by omega] at R
 exact R
theorem zA3 {P : Program} {C : World → Prop} {id : Nat} {Q : Exit → Act → World → Prop} {a : Act} {w : World} {l : List Oper} (m : Nat) (d t : Tmp) {T : TypeId} {zs : List Value} (us : List Value) {eff : Nat → World → World} (heff : ∀ (w : World) (b : Nat), w.heap[b]? = some (.cells zs.toArray T) → (eff b w).heap[b]? = some (.cells us.toArray T) ∧ (∀ B, B ≤ b → Below B w (eff b w))) {oj os : Oper}
    (hoj : l.toArray[m]? = some oj) (hos : l.toArray[m + 1]? = some os) (hjd : oj.dst = some d) (hafter : oj.after = #[]) (hguard : oj.guard = none) (hsd : os.dst = none) (hsg : os.guard = none)
    (hdsz : d < a.tmps.size)
    (hrun : ∀ (ρ : Operand → Value) (w : World), (execOp ρ oj).run P w = .ok (.value (.pointer (some ⟨w.heap.size, 0, none⟩))) (w.alloc (.cells zs.toArray T)))
    (hm : P.follows .mixedOrders = true) (hB : lateB .any l.toArray (m + 2) m (m + 1) d t = true)
    (hC : ∀ w', Below w.heap.size w w' → C w')
    (h : rWalk P l.toArray C (fun a' => a'.eval (.tmp t) = .agg us.toArray ∧ ∀ w' b, Below w.heap.size w w' → w.heap.size ≤ b → b < w'.heap.size → Box w' b us T → wpList P l.toArray Q (l.drop (m + 2)) (a'.put (some d) (.pointer (some ⟨b, 0, none⟩))) w') (l.take m) a)
    (hst : ∀ (ρ : Operand → Value) (w : World) (b : Nat), ρ (.tmp d) = .pointer (some ⟨b, 0, none⟩) → ρ (.tmp t) = .agg us.toArray → Box w b zs T → (execOp ρ os).run P w = .ok .skip (eff b w)) :
    (Code.region id l.toArray true).wp P Q a w := by
 refine wp_region_lateG (hd := l.take m) (m + 2) m (m + 1) d t heff _ hoj hos hjd hafter hguard hsd hsg hdsz hrun hm hB ?_ hC h hst
 have hn : m + 2 < l.length := by
  simp only [lateB, Bool.and_eq_true, decide_eq_true_eq] at hB
  have := hB.1.1.1.1.1.1.1.1.1.1.1.1.2
  simpa using this
 rw [range_two]
 apply List.ext_getElem?
 intro j
 simp only [List.getElem?_map, List.getElem?_take]
 by_cases hj : j < m
 ·simp [hj, show j < l.length by omega]
 ·simp [hj]
def eff6 (c0 c1 c2 c3 c4 c5 : Value) (b : Nat) (w : World) : World := (((((w.setCell ⟨b, 0, none⟩ c0).setCell ⟨b, 1, none⟩ c1).setCell ⟨b, 2, none⟩ c2).setCell ⟨b, 3, none⟩ c3).setCell ⟨b, 4, none⟩ c4).setCell ⟨b, 5, none⟩ c5
theorem zAe {c0 c1 c2 c3 c4 c5 z : Value} {T : TypeId} (w : World) (b : Nat) (h : w.heap[b]? = some (.cells [z, z, z, z, z, z].toArray T)) : (eff6 c0 c1 c2 c3 c4 c5 b w).heap[b]? = some (.cells [c0, c1, c2, c3, c4, c5].toArray T) ∧ (∀ B, B ≤ b → Below B w (eff6 c0 c1 c2 c3 c4 c5 b w)) := by
 have B0 : Box w b [z, z, z, z, z, z] T := h
 exact ⟨(((((B0.set 0 c0).set 1 c1).set 2 c2).set 3 c3).set 4 c4).set 5 c5, fun B hB => ((((((Below.refl B w).setCell hB _).setCell hB _).setCell hB _).setCell hB _).setCell hB _).setCell hB _⟩
attribute [local go_sem] rOper rAt rUpon cell_set sg_i64 sg_u64 alloc_cell alloc_frozen
attribute [local go_sem 10000] pt_eql pt_neq tri_eql
attribute [local irreducible] rWalk
theorem tri_neq (s u : Tri3) (w : World) : (binOp .neq 38 (.agg #[.int .i64 s.A.x, .int .i64 s.A.y, .int .i64 s.B.x, .int .i64 s.B.y, .int .i64 s.C.x, .int .i64 s.C.y]) (.agg #[.int .i64 u.A.x, .int .i64 u.A.y, .int .i64 u.B.x, .int .i64 u.B.y, .int .i64 u.C.x, .int .i64 u.C.y])).run Tryz.prog w = .ok (.bool (!teq s u)) w := by
 unfold teq peqI
 by_cases h1 : s.A.x = u.A.x
 case neg => simp [go_sem, h1]
 case pos =>
 by_cases h2 : s.A.y = u.A.y
 case neg => simp [go_sem, h1, h2]
 case pos =>
 by_cases h3 : s.B.x = u.B.x
 case neg => simp [go_sem, h1, h2, h3]
 case pos =>
 by_cases h4 : s.B.y = u.B.y
 case neg => simp [go_sem, h1, h2, h3, h4]
 case pos =>
 by_cases h5 : s.C.x = u.C.x
 case neg => simp [go_sem, h1, h2, h3, h4, h5]
 case pos =>
 by_cases h6 : s.C.y = u.C.y
 ·simp [go_sem, h1, h2, h3, h4, h5, h6]
 ·simp [go_sem, h1, h2, h3, h4, h5, h6]
attribute [local go_sem 10000] tri_neq
theorem zJq (a1 a2 : Option Addr) (c1 c2 : Nat) (L1 L2 : List Tri3) (w : World) (h1 : RowAt cT 6 w a1 L1) (h2 : RowAt cT 6 w a2 L2) (hl1 : L1.length ≤ 1000000) :
    Calls Tryz.prog 17 #[.slice a1 L1.length c1, .slice a2 L2.length c2] w fun e w' => e = .returned (.bool (decide (L1 = L2))) ∧ Below w.heap.size w w' := by
 by_cases hl : L1.length = L2.length
 case neg =>
  have hne : L1 ≠ L2 := fun e => hl (by rw [e])
  have hd : decide (L1 = L2) = false := by simpa using hne
  rw [hd]
  have hb2 : ((L1.length : Int) != L2.length) = true := by rw [bne_iff_ne]; omega
  clear h1 h2 hne hd
  generalize L1.length = n1 at *
  generalize L2.length = n2 at *
  go_enter Tryz.func17, Tryz.ntmps17
  go_wp2
  go_ret
  exact ⟨rfl, Below.refl _ _⟩
 case pos =>
  obtain ⟨n, hn1⟩ : ∃ n, L1.length = n := ⟨_, rfl⟩
  have hn2 : L2.length = n := by rw [← hl, hn1]
  have hb2 : ((n : Int) != n) = false := by simp
  rw [hn1, hn2]
  have hn : n ≤ 1000000 := hn1 ▸ hl1
  have H1 := Lib.hid hn1
  have H2 := Lib.hid hn2
  clear hn1 hn2 hl hl1
  go_enter Tryz.func17, Tryz.ntmps17
  go_wp2
  go_loopw [5] (fun i wr => ∃ k : Nat, k ≤ n ∧ i = .int .i64 k ∧ Hid (L1.take k = L2.take k) ∧ Below w.heap.size w wr) (fun i _ => n - (intOf i).toNat)
  case atStart => exact ⟨0, Nat.zero_le _, rfl, Lib.hid rfl, Below.refl _ _⟩
  case round =>
   obtain ⟨k, hk, rfl, hT, hw⟩ := hrel
   by_cases hlt : k < n
   ·have r1 := h1.ee hw
    have r2 := h2.ee hw
    obtain ⟨ad1, A1, ea1, eA1, _, _, q0, q1, q2, q3, q4, q5⟩ := r1.tri (j := k) (by rw [H1.out]; exact hlt)
    obtain ⟨ad2, A2, ea2, eA2, _, _, p0, p1, p2, p3, p4, p5⟩ := r2.tri (j := k) (by rw [H2.out]; exact hlt)
    clear r1 r2
    have e1 : L1[k]'(by rw [H1.out]; exact hlt) = L1[k]'(by rw [H1.out]; exact hlt) := rfl
    by_cases he : L1[k]'(by rw [H1.out]; exact hlt) = L2[k]'(by rw [H2.out]; exact hlt)
    ·have hd : teq (L1[k]'(by rw [H1.out]; exact hlt)) (L2[k]'(by rw [H2.out]; exact hlt)) = true := zEz.2 he
     have HE := Lib.hid he
     clear he e1
     go_wp2
     go_quiet (fail)
     go_wp2
     go_roundw
     case rel => 
      refine ⟨k + 1, by omega, by go_num, Lib.hid ?_, ?_⟩
      ·rw [List.take_succ_eq_append_getElem (by rw [H1.out]; exact hlt), List.take_succ_eq_append_getElem (by rw [H2.out]; exact hlt), hT.out, HE.out]
      ·exact hw.trans ⟨rfl, rfl, rfl, Nat.le_refl _, fun _ _ => rfl⟩
     case measure => simp [intOf]; omega
    ·have hd : teq (L1[k]'(by rw [H1.out]; exact hlt)) (L2[k]'(by rw [H2.out]; exact hlt)) = false := by rw [← Bool.not_eq_true, zEz]; exact he
     have hne : decide (L1 = L2) = false := by rw [decide_eq_false_iff_not]; intro e; subst e; exact he rfl
     have HN := Lib.hid hne
     clear he e1 hne
     go_wp2
     go_quiet (fail)
     go_wp2
     go_ret
     exact ⟨zDr HN.out.symm, hw.trans ⟨rfl, rfl, rfl, Nat.le_refl _, fun _ _ => rfl⟩⟩
   ·have he : L1 = L2 := by
       have := hT.out
       rwa [List.take_of_length_le (by rw [H1.out]; omega), List.take_of_length_le (by rw [H2.out]; omega)] at this
    have hd : decide (L1 = L2) = true := by simpa using he
    have HN := Lib.hid hd
    clear he hd
    go_wp2
    go_ret
    exact ⟨zDr HN.out.symm, hw⟩
theorem zC7 {p q : Pt} : peqI p.x p.y q.x q.y = true ↔ p = q := zBp.trans Pt.eq_iff.symm
end Go.Proofs.YtmobnmjjmafibaaGreat
namespace Go.Proofs.YtmobnmjjmafibaaGreat
open Go.RowKit Go.Sort
attribute [local go_sem] rOper rAt rUpon cell_set sg_i64 sg_u64 alloc_cell alloc_frozen
attribute [local go_sem 10000] pt_eql pt_neq tri_eql
attribute [local irreducible] rWalk
theorem zAm (w : World) : (zeroValue 38).run Tryz.prog w = .ok (.agg #[.int .i64 0, .int .i64 0, .int .i64 0, .int .i64 0, .int .i64 0, .int .i64 0]) w := by kernel_rfl
theorem HoldsMap.look_some {P : Program} {k e t : TypeId} {eK : Pt × Pt → Value} {ok : Pt × Pt → Prop} {w : World} {b : Nat} {E : List ((Pt × Pt) × Tri3)} (h : HoldsMap eK eT ok w b E) (V : KV P k e t eK ok) {z : Value} (hz : ∀ w, (zeroValue e).run P w = .ok z w) {x : Pt × Pt} (hx : ok x) {v : Tri3} (hg : getE E x = some v) :
    (Instr.lookup t (.map (some b)) (eK x) true).run P w = .ok (.tuple #[eT v, .bool true]) w := by
 rw [h.look V (hz w) hx, hg]
theorem HoldsMap.look_none {P : Program} {k e t : TypeId} {eK : Pt × Pt → Value} {ok : Pt × Pt → Prop} {w : World} {b : Nat} {E : List ((Pt × Pt) × Tri3)} (h : HoldsMap eK eT ok w b E) (V : KV P k e t eK ok) {z : Value} (hz : ∀ w, (zeroValue e).run P w = .ok z w) {x : Pt × Pt} (hx : ok x) (hg : getE E x = none) :
    (Instr.lookup t (.map (some b)) (eK x) true).run P w = .ok (.tuple #[z, .bool false]) w := by
 rw [h.look V (hz w) hx, hg]
def lftE (E : List ((Pt × Pt) × Tri3)) (p q : Pt) : Tri3 × Bool := match getE E (p, q) with | some t => (t, true) | none => (⟨⟨0, 0⟩, ⟨0, 0⟩, ⟨0, 0⟩⟩, false)
theorem zBk {E : List ((Pt × Pt) × Tri3)} {p q : Pt} {t : Tri3} (h : getE E (p, q) = some t) : lftE E p q = (t, true) := by unfold lftE; rw [h]
theorem zCn {E : List ((Pt × Pt) × Tri3)} {p q : Pt} (h : getE E (p, q) = none) : lftE E p q = (⟨⟨0, 0⟩, ⟨0, 0⟩, ⟨0, 0⟩⟩, false) := by unfold lftE; rw [h]
theorem zI5 (T : Tri3) (i : Int) (w : World) :
    Calls Tryz.prog 116 #[.agg #[.int .i64 T.A.x, .int .i64 T.A.y, .int .i64 T.B.x, .int .i64 T.B.y, .int .i64 T.C.x, .int .i64 T.C.y], .int .i64 i] w fun e w' => e = .returned (.agg #[.int .i64 (crn T i).x, .int .i64 (crn T i).y, .int .i64 (crn T (i + 1)).x, .int .i64 (crn T (i + 1)).y]) ∧ Below w.heap.size w w' := by
 have ce := zIu T i
 generalize crn T i = P at *
 generalize crn T (i + 1) = Q at *
 go_enter Tryz.func116, Tryz.ntmps116
 go_wp2_with fail
 refine zA1 fun W1 hW => ?_
 have Bt : Box W1 (w.heap.size) [.int .i64 T.A.x, .int .i64 T.A.y, .int .i64 T.B.x, .int .i64 T.B.y, .int .i64 T.C.x, .int .i64 T.C.y] 38 := by rw [hW]; exact (Box.new rfl).old _
 have Br : Box W1 (w.heap.size + 1) [.int .i64 0, .int .i64 0, .int .i64 0, .int .i64 0] 113 := by rw [hW]; exact Box.new (by simp)
 have hw : Below w.heap.size w W1 := by rw [hW]; go_grown
 clear hW
 refine (ce _).mono ?_
 rintro e w2 ⟨rfl, hb⟩
 replace Bt := Bt.ee hb
 replace Br := Br.ee hb
 replace hw := upB hw hb
 clear hb
 obtain ⟨xt, yt, zt, vt⟩ := Bt.facts
 obtain ⟨xr, yr, zr, vr⟩ := Br.facts
 go_wp2_with fail
 refine bodyPost_ret (v := .agg #[.int .i64 P.x, .int .i64 P.y, .int .i64 Q.x, .int .i64 Q.y]) (by simp [results, Tryz.results116, go_sem, xr, zr, zt]) rfl ⟨rfl, by have hl := hw.size; go_grown⟩
theorem zJ7 (mb b : Nat) (E : List ((Pt × Pt) × Tri3)) (p q : Pt) (T : Tri3) (hg : getE E (p, q) = some T) (hk : okW (p, q)) (w : World) (Bm : Box w mb [.map (some b)] 89) (Hm : HoldsMap eW eT okW w b E) :
    Calls Tryz.prog 38 #[.pointer (some ⟨mb, 0, none⟩), .agg #[.int .i64 p.x, .int .i64 p.y], .agg #[.int .i64 q.x, .int .i64 q.y]] w fun e w' => e = .returned (.tuple #[.agg #[.int .i64 T.A.x, .int .i64 T.A.y, .int .i64 T.B.x, .int .i64 T.B.y, .int .i64 T.C.x, .int .i64 T.C.y], .bool true]) ∧ Below w.heap.size w w' := by
 go_enter Tryz.func38, Tryz.ntmps38
 go_wp2_with fail
 refine zA2 fun W1 hW => ?_
 have Bp : Box W1 (w.heap.size) [.int .i64 p.x, .int .i64 p.y] 30 := by rw [hW]; exact ((Box.new rfl).old _).old _
 have Bq : Box W1 (w.heap.size + 1) [.int .i64 q.x, .int .i64 q.y] 30 := by rw [hW]; exact (Box.new (by simp)).old _
 have Br : Box W1 (w.heap.size + 1 + 1) [.int .i64 0, .int .i64 0, .int .i64 0, .int .i64 0, .int .i64 0, .int .i64 0] 38 := by rw [hW]; exact Box.new (by simp)
 have hw : Below w.heap.size w W1 := by rw [hW]; go_grown
 clear hW
 have BM : Box W1 (mb) [.map (some b)] 89 := Bm.ee hw
 have hl : ∀ d os, (Instr.lookup 87 (.map (some b)) (.agg #[.int .i64 p.x, .int .i64 p.y, .int .i64 q.x, .int .i64 q.y]) true).run Tryz.prog (grow (redrawn W1 d) os) = .ok (.tuple #[.agg #[.int .i64 T.A.x, .int .i64 T.A.y, .int .i64 T.B.x, .int .i64 T.B.y, .int .i64 T.C.x, .int .i64 T.C.y], .bool true]) (grow (redrawn W1 d) os) := fun d os => ((Hm.ee hw).ext (below_regrown W1 d os) rfl).look_some kvM zAm hk hg
 clear hg
 have gp := Bp.cells
 have gq := Bq.cells
 have gr := Br.cells
 have gM := BM.cells
 refine zA3 11 8 22 [.int .i64 T.A.x, .int .i64 T.A.y, .int .i64 T.B.x, .int .i64 T.B.y, .int .i64 T.C.x, .int .i64 T.C.y] (zs := [.int .i64 0, .int .i64 0, .int .i64 0, .int .i64 0, .int .i64 0, .int .i64 0]) (eff := eff6 (.int .i64 T.A.x) (.int .i64 T.A.y) (.int .i64 T.B.x) (.int .i64 T.B.y) (.int .i64 T.C.x) (.int .i64 T.C.y)) zAe rfl rfl rfl rfl rfl rfl rfl (by simp) (fun ρ W => by simp [execOp, go_sem]; rfl) (by kernel_rfl) (by as_aux_lemma => kernel_rfl) (C := fun w' => ∃ p : Regrown, w' = grow (redrawn W1 p.d) p.os) rgB ?_ (fun ρ W b e1 e2 hB => by obtain ⟨x, y, _, _⟩ := hB.facts; simp [execOp, go_sem, e1, e2, x, y, eff6])
 simp only [tK1, tK0, dP1, dP0]
 repeat (first | (refine zA0 (Eq.refl false) ?_; simp only [Act.put, sT2, sT1, sT0]) | (refine rWalk_step (fun K hK => ?_); go_simp; first | (refine hK _ ?_; clear hK K) | (apply Exists.intro; refine ⟨fun _ => ?_, hK _ ?_⟩; (first | fail); clear hK K)))
 refine rWalk_nil ⟨rfl, ?_⟩
 intro w2 bks hb h1b h2b Bs
 have lps := Bp.lt
 have lqs := Bq.lt
 have lrs := Br.lt
 have lMs := BM.lt
 have hw0z := hw.size
 clear gp gq gr gM
 replace Bp := Bp.ee hb
 replace Bq := Bq.ee hb
 replace Br := Br.ee hb
 replace BM := BM.ee hb
 replace hw := upB hw hb
 have fs := h1b
 have hwz : w.heap.size ≤ W1.heap.size := hw0z
 clear hb h1b h2b hw0z
 simp only [Act.put]
 clear hl
 obtain ⟨xp, yp, zp, vp⟩ := Bp.facts
 obtain ⟨xq, yq, zq, vq⟩ := Bq.facts
 obtain ⟨xr, yr, zr, vr⟩ := Br.facts
 obtain ⟨xM, yM, zM, vM⟩ := BM.facts
 obtain ⟨xs, ys, zs, vs⟩ := Bs.facts
 go_wp2_with fail
 refine bodyPost_ret (v := .tuple #[.agg #[.int .i64 T.A.x, .int .i64 T.A.y, .int .i64 T.B.x, .int .i64 T.B.y, .int .i64 T.C.x, .int .i64 T.C.y], .bool true]) (by simp [results, Tryz.results38, go_sem, xr]) rfl ⟨rfl, by have hl := hw.size; go_grown⟩
theorem zJv (mb b : Nat) (E : List ((Pt × Pt) × Tri3)) (p q : Pt) (hg : getE E (p, q) = none) (hk : okW (p, q)) (w : World) (Bm : Box w mb [.map (some b)] 89) (Hm : HoldsMap eW eT okW w b E) :
    Calls Tryz.prog 38 #[.pointer (some ⟨mb, 0, none⟩), .agg #[.int .i64 p.x, .int .i64 p.y], .agg #[.int .i64 q.x, .int .i64 q.y]] w fun e w' => e = .returned (.tuple #[.agg #[.int .i64 0, .int .i64 0, .int .i64 0, .int .i64 0, .int .i64 0, .int .i64 0], .bool false]) ∧ Below w.heap.size w w' := by
 go_enter Tryz.func38, Tryz.ntmps38
 go_wp2_with fail
 refine zA2 fun W1 hW => ?_
 have Bp : Box W1 (w.heap.size) [.int .i64 p.x, .int .i64 p.y] 30 := by rw [hW]; exact ((Box.new rfl).old _).old _
 have Bq : Box W1 (w.heap.size + 1) [.int .i64 q.x, .int .i64 q.y] 30 := by rw [hW]; exact (Box.new (by simp)).old _
 have Br : Box W1 (w.heap.size + 1 + 1) [.int .i64 0, .int .i64 0, .int .i64 0, .int .i64 0, .int .i64 0, .int .i64 0] 38 := by rw [hW]; exact Box.new (by simp)
 have hw : Below w.heap.size w W1 := by rw [hW]; go_grown
 clear hW
 have BM : Box W1 (mb) [.map (some b)] 89 := Bm.ee hw
 have hl : ∀ d os, (Instr.lookup 87 (.map (some b)) (.agg #[.int .i64 p.x, .int .i64 p.y, .int .i64 q.x, .int .i64 q.y]) true).run Tryz.prog (grow (redrawn W1 d) os) = .ok (.tuple #[.agg #[.int .i64 0, .int .i64 0, .int .i64 0, .int .i64 0, .int .i64 0, .int .i64 0], .bool false]) (grow (redrawn W1 d) os) := fun d os => ((Hm.ee hw).ext (below_regrown W1 d os) rfl).look_none kvM zAm hk hg
 clear hg
 have gp := Bp.cells
 have gq := Bq.cells
 have gr := Br.cells
 have gM := BM.cells
 refine zA3 11 8 22 [.int .i64 0, .int .i64 0, .int .i64 0, .int .i64 0, .int .i64 0, .int .i64 0] (zs := [.int .i64 0, .int .i64 0, .int .i64 0, .int .i64 0, .int .i64 0, .int .i64 0]) (eff := eff6 (.int .i64 0) (.int .i64 0) (.int .i64 0) (.int .i64 0) (.int .i64 0) (.int .i64 0)) zAe rfl rfl rfl rfl rfl rfl rfl (by simp) (fun ρ W => by simp [execOp, go_sem]; rfl) (by kernel_rfl) (by as_aux_lemma => kernel_rfl) (C := fun w' => ∃ p : Regrown, w' = grow (redrawn W1 p.d) p.os) rgB ?_ (fun ρ W b e1 e2 hB => by obtain ⟨x, y, _, _⟩ := hB.facts; simp [execOp, go_sem, e1, e2, x, y, eff6])
 simp only [tK1, tK0, dP1, dP0]
 repeat (first | (refine zA0 (Eq.refl false) ?_; simp only [Act.put, sT2, sT1, sT0]) | (refine rWalk_step (fun K hK => ?_); go_simp; first | (refine hK _ ?_; clear hK K) | (apply Exists.intro; refine ⟨fun _ => ?_, hK _ ?_⟩; (first | fail); clear hK K)))
 refine rWalk_nil ⟨rfl, ?_⟩
 intro w2 bks hb h1b h2b Bs
 have lps := Bp.lt
 have lqs := Bq.lt
 have lrs := Br.lt
 have lMs := BM.lt
 have hw0z := hw.size
 clear gp gq gr gM
 replace Bp := Bp.ee hb
 replace Bq := Bq.ee hb
 replace Br := Br.ee hb
 replace BM := BM.ee hb
 replace hw := upB hw hb
 have fs := h1b
 have hwz : w.heap.size ≤ W1.heap.size := hw0z
 clear hb h1b h2b hw0z
 simp only [Act.put]
 clear hl
 obtain ⟨xp, yp, zp, vp⟩ := Bp.facts
 obtain ⟨xq, yq, zq, vq⟩ := Bq.facts
 obtain ⟨xr, yr, zr, vr⟩ := Br.facts
 obtain ⟨xM, yM, zM, vM⟩ := BM.facts
 obtain ⟨xs, ys, zs, vs⟩ := Bs.facts
 go_wp2_with fail
 refine bodyPost_ret (v := .tuple #[.agg #[.int .i64 0, .int .i64 0, .int .i64 0, .int .i64 0, .int .i64 0, .int .i64 0], .bool false]) (by simp [results, Tryz.results38, go_sem, xr]) rfl ⟨rfl, by have hl := hw.size; go_grown⟩
theorem left_any (mb b : Nat) (E : List ((Pt × Pt) × Tri3)) (p q : Pt) (hk : okW (p, q)) (w : World) (Bm : Box w mb [.map (some b)] 89) (Hm : HoldsMap eW eT okW w b E) :
    Calls Tryz.prog 38 #[.pointer (some ⟨mb, 0, none⟩), .agg #[.int .i64 p.x, .int .i64 p.y], .agg #[.int .i64 q.x, .int .i64 q.y]] w fun e w' => e = .returned (.tuple #[eT (lftE E p q).1, .bool (lftE E p q).2]) ∧ Below w.heap.size w w' := by
 cases h : getE E (p, q) with
 | none => rw [zCn h]; exact zJv mb b E p q h hk w Bm Hm
 | some t => rw [zBk h]; exact zJ7 mb b E p q t h hk w Bm Hm
end Go.Proofs.YtmobnmjjmafibaaGreat
