/- Put together: TrD, TrE, TrM, Ord, RowK, Wal, WalB, Shelf. -/
import Derived.Test.YtmobnmjjmafibaaGreatRows
import Derived.Test.YtmobnmjjmafibaaGreatPum7
import Derived.Test.YtmobnmjjmafibaaGreatPum0
import Derived.WalkKit
import Derived.WalkSpells
import Derived.WalkLawsBesides
import Derived.Laws.Externs
import Derived.Deep.QuietTactic
import Derived.BigQuiet
import Derived.Lib.Hide
import Derived.Handy
import Derived.LoopN
import Derived.RegionTactic
import Derived.Test.YtmobnmjjmafibaaGreatPum5
import Derived.Shelf.SlSortCmp.NoneTotal
import Derived.Laws.AppendOwn
import Derived.BigCall
import Derived.Test.YtmobnmjjmafibaaGreatPum1
import Derived.Test.YtmobnmjjmafibaaGreatPum3
import Derived.Shelf.SlicesQ.IndexFunc
import Derived.Shelf.SlicesE.Clone
import Derived.Ground.SlsfProg
import Derived.Ground.SlgfProg
import Derived.Ground.SlgnProg
import Derived.Test.YtmobnmjjmafibaaGreatProg
set_option maxRecDepth 100000
set_option maxHeartbeats 8000000
namespace Go.Proofs.YtmobnmjjmafibaaGreat
open Go.RowKit Go.Sort
attribute [local go_sem] rOper rAt rUpon cell_set sg_i64 sg_u64 alloc_cell alloc_frozen
attribute [local go_sem 10000] pt_eql pt_neq tri_eql
attribute [local irreducible] rWalk
theorem tmake_n0 (a b c : Pt) (l0 : lds ⟨a, b, c⟩ = true) (ho : decide (ori a b c < 0) = true) (hv : valT ⟨a, c, b⟩ = true) (w : World) :
    Calls Tryz.prog 78 #[.agg #[.int .i64 a.x, .int .i64 a.y], .agg #[.int .i64 b.x, .int .i64 b.y], .agg #[.int .i64 c.x, .int .i64 c.y]] w fun e w' => e = .returned (.tuple #[.agg #[.int .i64 a.x, .int .i64 a.y, .int .i64 c.x, .int .i64 c.y, .int .i64 b.x, .int .i64 b.y], .bool true]) ∧ Below w.heap.size w w' := by
 have k0 := zAh ⟨a, b, c⟩
 rw [l0] at k0
 dsimp only at k0
 have co := zA7 a b c
 have cv := zB1 ⟨a, c, b⟩
 rw [hv] at cv
 dsimp only at cv
 generalize ori a b c = n at *
 clear hv l0
 go_enter Tryz.func78, Tryz.ntmps78
 go_wp2_with fail
 refine zA2 fun W1 hW => ?_
 have Ba : Box W1 (w.heap.size) [.int .i64 a.x, .int .i64 a.y] 30 := by rw [hW]; exact ((((Box.new rfl).old _).old _).old _).old _
 have Bb : Box W1 (w.heap.size + 1) [.int .i64 b.x, .int .i64 b.y] 30 := by rw [hW]; exact (((Box.new (by simp)).old _).old _).old _
 have Bc : Box W1 (w.heap.size + 1 + 1) [.int .i64 c.x, .int .i64 c.y] 30 := by rw [hW]; exact ((Box.new (by simp)).old _).old _
 have Br : Box W1 (w.heap.size + 1 + 1 + 1) [.int .i64 0, .int .i64 0, .int .i64 0, .int .i64 0, .int .i64 0, .int .i64 0] 38 := by rw [hW]; exact (Box.new (by simp)).old _
 have Bt : Box W1 (w.heap.size + 1 + 1 + 1 + 1) [.int .i64 a.x, .int .i64 a.y, .int .i64 b.x, .int .i64 b.y, .int .i64 c.x, .int .i64 c.y] 38 := by rw [hW]; exact Box.new (by simp)
 have hw : Below w.heap.size w W1 := by rw [hW]; go_grown
 clear hW
 refine wp_loop_rounds 4 ?_
 try rw [rounds_succ]
 have Fa := Ba.facts
 have Fb := Bb.facts
 have Fc := Bc.facts
 have Fr := Br.facts
 have Ft := Bt.facts
 go_wp2_with fail
 refine (k0 _).mono ?_
 rintro e w2 ⟨rfl, hb⟩
 clear Fa Fb Fc Fr Ft
 replace Ba := Ba.ee hb
 replace Bb := Bb.ee hb
 replace Bc := Bc.ee hb
 replace Br := Br.ee hb
 replace Bt := Bt.ee hb
 replace hw := upB hw hb
 clear hb
 have Fa := Ba.facts
 have Fb := Bb.facts
 have Fc := Bc.facts
 have Fr := Br.facts
 have Ft := Bt.facts
 go_wp2_with fail
 refine (co _).mono ?_
 rintro e w3 ⟨rfl, hb⟩
 clear Fa Fb Fc Fr Ft
 replace Ba := Ba.ee hb
 replace Bb := Bb.ee hb
 replace Bc := Bc.ee hb
 replace Br := Br.ee hb
 replace Bt := Bt.ee hb
 replace hw := upB hw hb
 clear hb
 have Fa := Ba.facts
 have Fb := Bb.facts
 have Fc := Bc.facts
 have Fr := Br.facts
 have Ft := Bt.facts
 go_wp2_with fail
 refine zA1 fun W4 hW => ?_
 have Ca : Box W4 (w.heap.size) [.int .i64 a.x, .int .i64 a.y] 30 := by rw [hW]; exact ((((Ba.set_ne ⟨w.heap.size + 1 + 1 + 1 + 1, 2, none⟩ ((.int .i64 c.x)) (by first | assumption | (show (w.heap.size + 1 + 1 + 1 + 1 : Nat) ≠ _; omega))).set_ne ⟨w.heap.size + 1 + 1 + 1 + 1, 3, none⟩ ((.int .i64 c.y)) (by first | assumption | (show (w.heap.size + 1 + 1 + 1 + 1 : Nat) ≠ _; omega))).set_ne ⟨w.heap.size + 1 + 1 + 1 + 1, 4, none⟩ ((.int .i64 b.x)) (by first | assumption | (show (w.heap.size + 1 + 1 + 1 + 1 : Nat) ≠ _; omega))).set_ne ⟨w.heap.size + 1 + 1 + 1 + 1, 5, none⟩ ((.int .i64 b.y)) (by first | assumption | (show (w.heap.size + 1 + 1 + 1 + 1 : Nat) ≠ _; omega)))
 have Cb : Box W4 (w.heap.size + 1) [.int .i64 b.x, .int .i64 b.y] 30 := by rw [hW]; exact ((((Bb.set_ne ⟨w.heap.size + 1 + 1 + 1 + 1, 2, none⟩ ((.int .i64 c.x)) (by first | assumption | (show (w.heap.size + 1 + 1 + 1 + 1 : Nat) ≠ _; omega))).set_ne ⟨w.heap.size + 1 + 1 + 1 + 1, 3, none⟩ ((.int .i64 c.y)) (by first | assumption | (show (w.heap.size + 1 + 1 + 1 + 1 : Nat) ≠ _; omega))).set_ne ⟨w.heap.size + 1 + 1 + 1 + 1, 4, none⟩ ((.int .i64 b.x)) (by first | assumption | (show (w.heap.size + 1 + 1 + 1 + 1 : Nat) ≠ _; omega))).set_ne ⟨w.heap.size + 1 + 1 + 1 + 1, 5, none⟩ ((.int .i64 b.y)) (by first | assumption | (show (w.heap.size + 1 + 1 + 1 + 1 : Nat) ≠ _; omega)))
 have Cc : Box W4 (w.heap.size + 1 + 1) [.int .i64 c.x, .int .i64 c.y] 30 := by rw [hW]; exact ((((Bc.set_ne ⟨w.heap.size + 1 + 1 + 1 + 1, 2, none⟩ ((.int .i64 c.x)) (by first | assumption | (show (w.heap.size + 1 + 1 + 1 + 1 : Nat) ≠ _; omega))).set_ne ⟨w.heap.size + 1 + 1 + 1 + 1, 3, none⟩ ((.int .i64 c.y)) (by first | assumption | (show (w.heap.size + 1 + 1 + 1 + 1 : Nat) ≠ _; omega))).set_ne ⟨w.heap.size + 1 + 1 + 1 + 1, 4, none⟩ ((.int .i64 b.x)) (by first | assumption | (show (w.heap.size + 1 + 1 + 1 + 1 : Nat) ≠ _; omega))).set_ne ⟨w.heap.size + 1 + 1 + 1 + 1, 5, none⟩ ((.int .i64 b.y)) (by first | assumption | (show (w.heap.size + 1 + 1 + 1 + 1 : Nat) ≠ _; omega)))
 have Cr : Box W4 (w.heap.size + 1 + 1 + 1) [.int .i64 0, .int .i64 0, .int .i64 0, .int .i64 0, .int .i64 0, .int .i64 0] 38 := by rw [hW]; exact ((((Br.set_ne ⟨w.heap.size + 1 + 1 + 1 + 1, 2, none⟩ ((.int .i64 c.x)) (by first | assumption | (show (w.heap.size + 1 + 1 + 1 + 1 : Nat) ≠ _; omega))).set_ne ⟨w.heap.size + 1 + 1 + 1 + 1, 3, none⟩ ((.int .i64 c.y)) (by first | assumption | (show (w.heap.size + 1 + 1 + 1 + 1 : Nat) ≠ _; omega))).set_ne ⟨w.heap.size + 1 + 1 + 1 + 1, 4, none⟩ ((.int .i64 b.x)) (by first | assumption | (show (w.heap.size + 1 + 1 + 1 + 1 : Nat) ≠ _; omega))).set_ne ⟨w.heap.size + 1 + 1 + 1 + 1, 5, none⟩ ((.int .i64 b.y)) (by first | assumption | (show (w.heap.size + 1 + 1 + 1 + 1 : Nat) ≠ _; omega)))
 have Ct : Box W4 (w.heap.size + 1 + 1 + 1 + 1) [.int .i64 a.x, .int .i64 a.y, .int .i64 c.x, .int .i64 c.y, .int .i64 b.x, .int .i64 b.y] 38 := by rw [hW]; exact ((((Bt.set 2 ((.int .i64 c.x))).set 3 ((.int .i64 c.y))).set 4 ((.int .i64 b.x))).set 5 ((.int .i64 b.y)))
 replace hw : Below w.heap.size w W4 := by have hl := hw.size; rw [hW]; go_grown
 clear Fa Fb Fc Fr Ft
 clear hW Ba Bb Bc Br Bt
 have Ba := Ca
 have Bb := Cb
 have Bc := Cc
 have Br := Cr
 have Bt := Ct
 clear Ca Cb Cc Cr Ct
 refine (cv _).mono ?_
 rintro e w5 ⟨rfl, hb⟩
 replace Ba := Ba.ee hb
 replace Bb := Bb.ee hb
 replace Bc := Bc.ee hb
 replace Br := Br.ee hb
 replace Bt := Bt.ee hb
 replace hw := upB hw hb
 clear hb
 have Fa := Ba.facts
 have Fb := Bb.facts
 have Fc := Bc.facts
 have Fr := Br.facts
 have Ft := Bt.facts
 go_wp2_with fail
 refine bodyPost_ret (v := .tuple #[.agg #[.int .i64 a.x, .int .i64 a.y, .int .i64 c.x, .int .i64 c.y, .int .i64 b.x, .int .i64 b.y], .bool true]) (by simp [results, Tryz.results78, go_sem, Fr]) rfl ⟨rfl, by have hl := hw.size; go_grown⟩
theorem tmake_p0 (a b c : Pt) (l0 : lds ⟨a, b, c⟩ = true) (ho : decide (ori a b c < 0) = false) (hv : valT ⟨a, b, c⟩ = true) (w : World) :
    Calls Tryz.prog 78 #[.agg #[.int .i64 a.x, .int .i64 a.y], .agg #[.int .i64 b.x, .int .i64 b.y], .agg #[.int .i64 c.x, .int .i64 c.y]] w fun e w' => e = .returned (.tuple #[.agg #[.int .i64 a.x, .int .i64 a.y, .int .i64 b.x, .int .i64 b.y, .int .i64 c.x, .int .i64 c.y], .bool true]) ∧ Below w.heap.size w w' := by
 have k0 := zAh ⟨a, b, c⟩
 rw [l0] at k0
 dsimp only at k0
 have co := zA7 a b c
 have cv := zB1 ⟨a, b, c⟩
 rw [hv] at cv
 dsimp only at cv
 generalize ori a b c = n at *
 clear hv l0
 go_enter Tryz.func78, Tryz.ntmps78
 go_wp2_with fail
 refine zA2 fun W1 hW => ?_
 have Ba : Box W1 (w.heap.size) [.int .i64 a.x, .int .i64 a.y] 30 := by rw [hW]; exact ((((Box.new rfl).old _).old _).old _).old _
 have Bb : Box W1 (w.heap.size + 1) [.int .i64 b.x, .int .i64 b.y] 30 := by rw [hW]; exact (((Box.new (by simp)).old _).old _).old _
 have Bc : Box W1 (w.heap.size + 1 + 1) [.int .i64 c.x, .int .i64 c.y] 30 := by rw [hW]; exact ((Box.new (by simp)).old _).old _
 have Br : Box W1 (w.heap.size + 1 + 1 + 1) [.int .i64 0, .int .i64 0, .int .i64 0, .int .i64 0, .int .i64 0, .int .i64 0] 38 := by rw [hW]; exact (Box.new (by simp)).old _
 have Bt : Box W1 (w.heap.size + 1 + 1 + 1 + 1) [.int .i64 a.x, .int .i64 a.y, .int .i64 b.x, .int .i64 b.y, .int .i64 c.x, .int .i64 c.y] 38 := by rw [hW]; exact Box.new (by simp)
 have hw : Below w.heap.size w W1 := by rw [hW]; go_grown
 clear hW
 refine wp_loop_rounds 4 ?_
 try rw [rounds_succ]
 have Fa := Ba.facts
 have Fb := Bb.facts
 have Fc := Bc.facts
 have Fr := Br.facts
 have Ft := Bt.facts
 go_wp2_with fail
 refine (k0 _).mono ?_
 rintro e w2 ⟨rfl, hb⟩
 clear Fa Fb Fc Fr Ft
 replace Ba := Ba.ee hb
 replace Bb := Bb.ee hb
 replace Bc := Bc.ee hb
 replace Br := Br.ee hb
 replace Bt := Bt.ee hb
 replace hw := upB hw hb
 clear hb
 have Fa := Ba.facts
 have Fb := Bb.facts
 have Fc := Bc.facts
 have Fr := Br.facts
 have Ft := Bt.facts
 go_wp2_with fail
 refine (co _).mono ?_
 rintro e w3 ⟨rfl, hb⟩
 clear Fa Fb Fc Fr Ft
 replace Ba := Ba.ee hb
 replace Bb := Bb.ee hb
 replace Bc := Bc.ee hb
 replace Br := Br.ee hb
 replace Bt := Bt.ee hb
 replace hw := upB hw hb
 clear hb
 have Fa := Ba.facts
 have Fb := Bb.facts
 have Fc := Bc.facts
 have Fr := Br.facts
 have Ft := Bt.facts
 go_wp2_with fail
 refine (cv _).mono ?_
 rintro e w4 ⟨rfl, hb⟩
 clear Fa Fb Fc Fr Ft
 replace Ba := Ba.ee hb
 replace Bb := Bb.ee hb
 replace Bc := Bc.ee hb
 replace Br := Br.ee hb
 replace Bt := Bt.ee hb
 replace hw := upB hw hb
 clear hb
 have Fa := Ba.facts
 have Fb := Bb.facts
 have Fc := Bc.facts
 have Fr := Br.facts
 have Ft := Bt.facts
 go_wp2_with fail
 refine bodyPost_ret (v := .tuple #[.agg #[.int .i64 a.x, .int .i64 a.y, .int .i64 b.x, .int .i64 b.y, .int .i64 c.x, .int .i64 c.y], .bool true]) (by simp [results, Tryz.results78, go_sem, Fr]) rfl ⟨rfl, by have hl := hw.size; go_grown⟩
theorem tmake_z0 (a b c : Pt) (l0 : lds ⟨a, b, c⟩ = true) (ho : decide (ori a b c < 0) = false) (hv : valT ⟨a, b, c⟩ = false) (w : World) :
    Calls Tryz.prog 78 #[.agg #[.int .i64 a.x, .int .i64 a.y], .agg #[.int .i64 b.x, .int .i64 b.y], .agg #[.int .i64 c.x, .int .i64 c.y]] w fun e w' => e = .returned (.tuple #[.agg #[.int .i64 0, .int .i64 0, .int .i64 0, .int .i64 0, .int .i64 0, .int .i64 0], .bool false]) ∧ Below w.heap.size w w' := by
 have k0 := zAh ⟨a, b, c⟩
 rw [l0] at k0
 dsimp only at k0
 have co := zA7 a b c
 have cv := zB1 ⟨a, b, c⟩
 rw [hv] at cv
 dsimp only at cv
 generalize ori a b c = n at *
 clear hv l0
 go_enter Tryz.func78, Tryz.ntmps78
 go_wp2_with fail
 refine zA2 fun W1 hW => ?_
 have Ba : Box W1 (w.heap.size) [.int .i64 a.x, .int .i64 a.y] 30 := by rw [hW]; exact ((((Box.new rfl).old _).old _).old _).old _
 have Bb : Box W1 (w.heap.size + 1) [.int .i64 b.x, .int .i64 b.y] 30 := by rw [hW]; exact (((Box.new (by simp)).old _).old _).old _
 have Bc : Box W1 (w.heap.size + 1 + 1) [.int .i64 c.x, .int .i64 c.y] 30 := by rw [hW]; exact ((Box.new (by simp)).old _).old _
 have Br : Box W1 (w.heap.size + 1 + 1 + 1) [.int .i64 0, .int .i64 0, .int .i64 0, .int .i64 0, .int .i64 0, .int .i64 0] 38 := by rw [hW]; exact (Box.new (by simp)).old _
 have Bt : Box W1 (w.heap.size + 1 + 1 + 1 + 1) [.int .i64 a.x, .int .i64 a.y, .int .i64 b.x, .int .i64 b.y, .int .i64 c.x, .int .i64 c.y] 38 := by rw [hW]; exact Box.new (by simp)
 have hw : Below w.heap.size w W1 := by rw [hW]; go_grown
 clear hW
 refine wp_loop_rounds 4 ?_
 try rw [rounds_succ]
 have Fa := Ba.facts
 have Fb := Bb.facts
 have Fc := Bc.facts
 have Fr := Br.facts
 have Ft := Bt.facts
 go_wp2_with fail
 refine (k0 _).mono ?_
 rintro e w2 ⟨rfl, hb⟩
 clear Fa Fb Fc Fr Ft
 replace Ba := Ba.ee hb
 replace Bb := Bb.ee hb
 replace Bc := Bc.ee hb
 replace Br := Br.ee hb
 replace Bt := Bt.ee hb
 replace hw := upB hw hb
 clear hb
 have Fa := Ba.facts
 have Fb := Bb.facts
 have Fc := Bc.facts
 have Fr := Br.facts
 have Ft := Bt.facts
 go_wp2_with fail
 refine (co _).mono ?_
 rintro e w3 ⟨rfl, hb⟩
 clear Fa Fb Fc Fr Ft
 replace Ba := Ba.ee hb
 replace Bb := Bb.ee hb
 replace Bc := Bc.ee hb
 replace Br := Br.ee hb
 replace Bt := Bt.ee hb
 replace hw := upB hw hb
 clear hb
 have Fa := Ba.facts
 have Fb := Bb.facts
 have Fc := Bc.facts
 have Fr := Br.facts
 have Ft := Bt.facts
 go_wp2_with fail
 refine (cv _).mono ?_
 rintro e w4 ⟨rfl, hb⟩
 clear Fa Fb Fc Fr Ft
 replace Ba := Ba.ee hb
 replace Bb := Bb.ee hb
 replace Bc := Bc.ee hb
 replace Br := Br.ee hb
 replace Bt := Bt.ee hb
 replace hw := upB hw hb
 clear hb
 have Fa := Ba.facts
 have Fb := Bb.facts
 have Fc := Bc.facts
 have Fr := Br.facts
 have Ft := Bt.facts
 go_wp2_with fail
 refine bodyPost_ret (v := .tuple #[.agg #[.int .i64 0, .int .i64 0, .int .i64 0, .int .i64 0, .int .i64 0, .int .i64 0], .bool false]) (by simp [results, Tryz.results78, go_sem, Fr]) rfl ⟨rfl, by have hl := hw.size; go_grown⟩
theorem tmake_n1 (a b c : Pt) (l0 : lds ⟨a, b, c⟩ = false) (l1 : lds ⟨b, c, a⟩ = true) (ho : decide (ori b c a < 0) = true) (hv : valT ⟨b, a, c⟩ = true) (w : World) :
    Calls Tryz.prog 78 #[.agg #[.int .i64 a.x, .int .i64 a.y], .agg #[.int .i64 b.x, .int .i64 b.y], .agg #[.int .i64 c.x, .int .i64 c.y]] w fun e w' => e = .returned (.tuple #[.agg #[.int .i64 b.x, .int .i64 b.y, .int .i64 a.x, .int .i64 a.y, .int .i64 c.x, .int .i64 c.y], .bool true]) ∧ Below w.heap.size w w' := by
 have k0 := zAh ⟨a, b, c⟩
 rw [l0] at k0
 dsimp only at k0
 have r0 := zBb ⟨a, b, c⟩
 dsimp only at r0
 have k1 := zAh ⟨b, c, a⟩
 rw [l1] at k1
 dsimp only at k1
 have co := zA7 b c a
 have cv := zB1 ⟨b, a, c⟩
 rw [hv] at cv
 dsimp only at cv
 generalize ori b c a = n at *
 clear hv l0 l1
 go_enter Tryz.func78, Tryz.ntmps78
 go_wp2_with fail
 refine zA2 fun W1 hW => ?_
 have Ba : Box W1 (w.heap.size) [.int .i64 a.x, .int .i64 a.y] 30 := by rw [hW]; exact ((((Box.new rfl).old _).old _).old _).old _
 have Bb : Box W1 (w.heap.size + 1) [.int .i64 b.x, .int .i64 b.y] 30 := by rw [hW]; exact (((Box.new (by simp)).old _).old _).old _
 have Bc : Box W1 (w.heap.size + 1 + 1) [.int .i64 c.x, .int .i64 c.y] 30 := by rw [hW]; exact ((Box.new (by simp)).old _).old _
 have Br : Box W1 (w.heap.size + 1 + 1 + 1) [.int .i64 0, .int .i64 0, .int .i64 0, .int .i64 0, .int .i64 0, .int .i64 0] 38 := by rw [hW]; exact (Box.new (by simp)).old _
 have Bt : Box W1 (w.heap.size + 1 + 1 + 1 + 1) [.int .i64 a.x, .int .i64 a.y, .int .i64 b.x, .int .i64 b.y, .int .i64 c.x, .int .i64 c.y] 38 := by rw [hW]; exact Box.new (by simp)
 have hw : Below w.heap.size w W1 := by rw [hW]; go_grown
 clear hW
 refine wp_loop_rounds 4 ?_
 try rw [rounds_succ]
 have Fa := Ba.facts
 have Fb := Bb.facts
 have Fc := Bc.facts
 have Fr := Br.facts
 have Ft := Bt.facts
 go_wp2_with fail
 refine (k0 _).mono ?_
 rintro e w2 ⟨rfl, hb⟩
 clear Fa Fb Fc Fr Ft
 replace Ba := Ba.ee hb
 replace Bb := Bb.ee hb
 replace Bc := Bc.ee hb
 replace Br := Br.ee hb
 replace Bt := Bt.ee hb
 replace hw := upB hw hb
 clear hb
 have Fa := Ba.facts
 have Fb := Bb.facts
 have Fc := Bc.facts
 have Fr := Br.facts
 have Ft := Bt.facts
 go_wp2_with fail
 refine (r0 _).mono ?_
 rintro e w3 ⟨rfl, hb⟩
 clear Fa Fb Fc Fr Ft
 replace Ba := Ba.ee hb
 replace Bb := Bb.ee hb
 replace Bc := Bc.ee hb
 replace Br := Br.ee hb
 replace Bt := Bt.ee hb
 replace hw := upB hw hb
 clear hb
 have Fa := Ba.facts
 have Fb := Bb.facts
 have Fc := Bc.facts
 have Fr := Br.facts
 have Ft := Bt.facts
 go_wp2_with fail
 refine zA2 fun W4 hW => ?_
 have Ca : Box W4 (w.heap.size) [.int .i64 a.x, .int .i64 a.y] 30 := by rw [hW]; exact ((((((Ba.set_ne ⟨w.heap.size + 1 + 1 + 1 + 1, 0, none⟩ ((.int .i64 b.x)) (by first | assumption | (show w.heap.size + 1 + 1 + 1 + 1 ≠ _; omega))).set_ne ⟨w.heap.size + 1 + 1 + 1 + 1, 1, none⟩ ((.int .i64 b.y)) (by first | assumption | (show w.heap.size + 1 + 1 + 1 + 1 ≠ _; omega))).set_ne ⟨w.heap.size + 1 + 1 + 1 + 1, 2, none⟩ ((.int .i64 c.x)) (by first | assumption | (show w.heap.size + 1 + 1 + 1 + 1 ≠ _; omega))).set_ne ⟨w.heap.size + 1 + 1 + 1 + 1, 3, none⟩ ((.int .i64 c.y)) (by first | assumption | (show w.heap.size + 1 + 1 + 1 + 1 ≠ _; omega))).set_ne ⟨w.heap.size + 1 + 1 + 1 + 1, 4, none⟩ ((.int .i64 a.x)) (by first | assumption | (show w.heap.size + 1 + 1 + 1 + 1 ≠ _; omega))).set_ne ⟨w.heap.size + 1 + 1 + 1 + 1, 5, none⟩ ((.int .i64 a.y)) (by first | assumption | (show w.heap.size + 1 + 1 + 1 + 1 ≠ _; omega)))
 have Cb : Box W4 (w.heap.size + 1) [.int .i64 b.x, .int .i64 b.y] 30 := by rw [hW]; exact ((((((Bb.set_ne ⟨w.heap.size + 1 + 1 + 1 + 1, 0, none⟩ ((.int .i64 b.x)) (by first | assumption | (show w.heap.size + 1 + 1 + 1 + 1 ≠ _; omega))).set_ne ⟨w.heap.size + 1 + 1 + 1 + 1, 1, none⟩ ((.int .i64 b.y)) (by first | assumption | (show w.heap.size + 1 + 1 + 1 + 1 ≠ _; omega))).set_ne ⟨w.heap.size + 1 + 1 + 1 + 1, 2, none⟩ ((.int .i64 c.x)) (by first | assumption | (show w.heap.size + 1 + 1 + 1 + 1 ≠ _; omega))).set_ne ⟨w.heap.size + 1 + 1 + 1 + 1, 3, none⟩ ((.int .i64 c.y)) (by first | assumption | (show w.heap.size + 1 + 1 + 1 + 1 ≠ _; omega))).set_ne ⟨w.heap.size + 1 + 1 + 1 + 1, 4, none⟩ ((.int .i64 a.x)) (by first | assumption | (show w.heap.size + 1 + 1 + 1 + 1 ≠ _; omega))).set_ne ⟨w.heap.size + 1 + 1 + 1 + 1, 5, none⟩ ((.int .i64 a.y)) (by first | assumption | (show w.heap.size + 1 + 1 + 1 + 1 ≠ _; omega)))
 have Cc : Box W4 (w.heap.size + 1 + 1) [.int .i64 c.x, .int .i64 c.y] 30 := by rw [hW]; exact ((((((Bc.set_ne ⟨w.heap.size + 1 + 1 + 1 + 1, 0, none⟩ ((.int .i64 b.x)) (by first | assumption | (show w.heap.size + 1 + 1 + 1 + 1 ≠ _; omega))).set_ne ⟨w.heap.size + 1 + 1 + 1 + 1, 1, none⟩ ((.int .i64 b.y)) (by first | assumption | (show w.heap.size + 1 + 1 + 1 + 1 ≠ _; omega))).set_ne ⟨w.heap.size + 1 + 1 + 1 + 1, 2, none⟩ ((.int .i64 c.x)) (by first | assumption | (show w.heap.size + 1 + 1 + 1 + 1 ≠ _; omega))).set_ne ⟨w.heap.size + 1 + 1 + 1 + 1, 3, none⟩ ((.int .i64 c.y)) (by first | assumption | (show w.heap.size + 1 + 1 + 1 + 1 ≠ _; omega))).set_ne ⟨w.heap.size + 1 + 1 + 1 + 1, 4, none⟩ ((.int .i64 a.x)) (by first | assumption | (show w.heap.size + 1 + 1 + 1 + 1 ≠ _; omega))).set_ne ⟨w.heap.size + 1 + 1 + 1 + 1, 5, none⟩ ((.int .i64 a.y)) (by first | assumption | (show w.heap.size + 1 + 1 + 1 + 1 ≠ _; omega)))
 have Cr : Box W4 (w.heap.size + 1 + 1 + 1) [.int .i64 0, .int .i64 0, .int .i64 0, .int .i64 0, .int .i64 0, .int .i64 0] 38 := by rw [hW]; exact ((((((Br.set_ne ⟨w.heap.size + 1 + 1 + 1 + 1, 0, none⟩ ((.int .i64 b.x)) (by first | assumption | (show w.heap.size + 1 + 1 + 1 + 1 ≠ _; omega))).set_ne ⟨w.heap.size + 1 + 1 + 1 + 1, 1, none⟩ ((.int .i64 b.y)) (by first | assumption | (show w.heap.size + 1 + 1 + 1 + 1 ≠ _; omega))).set_ne ⟨w.heap.size + 1 + 1 + 1 + 1, 2, none⟩ ((.int .i64 c.x)) (by first | assumption | (show w.heap.size + 1 + 1 + 1 + 1 ≠ _; omega))).set_ne ⟨w.heap.size + 1 + 1 + 1 + 1, 3, none⟩ ((.int .i64 c.y)) (by first | assumption | (show w.heap.size + 1 + 1 + 1 + 1 ≠ _; omega))).set_ne ⟨w.heap.size + 1 + 1 + 1 + 1, 4, none⟩ ((.int .i64 a.x)) (by first | assumption | (show w.heap.size + 1 + 1 + 1 + 1 ≠ _; omega))).set_ne ⟨w.heap.size + 1 + 1 + 1 + 1, 5, none⟩ ((.int .i64 a.y)) (by first | assumption | (show w.heap.size + 1 + 1 + 1 + 1 ≠ _; omega)))
 have Ct : Box W4 (w.heap.size + 1 + 1 + 1 + 1) [(.int .i64 b.x), (.int .i64 b.y), (.int .i64 c.x), (.int .i64 c.y), (.int .i64 a.x), (.int .i64 a.y)] 38 := by rw [hW]; exact ((((((Bt.set 0 ((.int .i64 b.x))).set 1 ((.int .i64 b.y))).set 2 ((.int .i64 c.x))).set 3 ((.int .i64 c.y))).set 4 ((.int .i64 a.x))).set 5 ((.int .i64 a.y)))
 replace hw : Below w.heap.size w W4 := by have hl := hw.size; rw [hW]; go_grown
 clear Fa Fb Fc Fr Ft
 clear hW Ba Bb Bc Br Bt
 have Ba := Ca
 have Bb := Cb
 have Bc := Cc
 have Br := Cr
 have Bt := Ct
 clear Ca Cb Cc Cr Ct
 try rw [rounds_succ]
 have Fa := Ba.facts
 have Fb := Bb.facts
 have Fc := Bc.facts
 have Fr := Br.facts
 have Ft := Bt.facts
 go_wp2_with fail
 refine (k1 _).mono ?_
 rintro e w5 ⟨rfl, hb⟩
 clear Fa Fb Fc Fr Ft
 replace Ba := Ba.ee hb
 replace Bb := Bb.ee hb
 replace Bc := Bc.ee hb
 replace Br := Br.ee hb
 replace Bt := Bt.ee hb
 replace hw := upB hw hb
 clear hb
 have Fa := Ba.facts
 have Fb := Bb.facts
 have Fc := Bc.facts
 have Fr := Br.facts
 have Ft := Bt.facts
 go_wp2_with fail
 refine (co _).mono ?_
 rintro e w6 ⟨rfl, hb⟩
 clear Fa Fb Fc Fr Ft
 replace Ba := Ba.ee hb
 replace Bb := Bb.ee hb
 replace Bc := Bc.ee hb
 replace Br := Br.ee hb
 replace Bt := Bt.ee hb
 replace hw := upB hw hb
 clear hb
 have Fa := Ba.facts
 have Fb := Bb.facts
 have Fc := Bc.facts
 have Fr := Br.facts
 have Ft := Bt.facts
 go_wp2_with fail
 refine zA1 fun W7 hW => ?_
 have Ca : Box W7 (w.heap.size) [.int .i64 a.x, .int .i64 a.y] 30 := by rw [hW]; exact ((((Ba.set_ne ⟨w.heap.size + 1 + 1 + 1 + 1, 2, none⟩ ((.int .i64 a.x)) (by first | assumption | (show (w.heap.size + 1 + 1 + 1 + 1 : Nat) ≠ _; omega))).set_ne ⟨w.heap.size + 1 + 1 + 1 + 1, 3, none⟩ ((.int .i64 a.y)) (by first | assumption | (show (w.heap.size + 1 + 1 + 1 + 1 : Nat) ≠ _; omega))).set_ne ⟨w.heap.size + 1 + 1 + 1 + 1, 4, none⟩ ((.int .i64 c.x)) (by first | assumption | (show (w.heap.size + 1 + 1 + 1 + 1 : Nat) ≠ _; omega))).set_ne ⟨w.heap.size + 1 + 1 + 1 + 1, 5, none⟩ ((.int .i64 c.y)) (by first | assumption | (show (w.heap.size + 1 + 1 + 1 + 1 : Nat) ≠ _; omega)))
 have Cb : Box W7 (w.heap.size + 1) [.int .i64 b.x, .int .i64 b.y] 30 := by rw [hW]; exact ((((Bb.set_ne ⟨w.heap.size + 1 + 1 + 1 + 1, 2, none⟩ ((.int .i64 a.x)) (by first | assumption | (show (w.heap.size + 1 + 1 + 1 + 1 : Nat) ≠ _; omega))).set_ne ⟨w.heap.size + 1 + 1 + 1 + 1, 3, none⟩ ((.int .i64 a.y)) (by first | assumption | (show (w.heap.size + 1 + 1 + 1 + 1 : Nat) ≠ _; omega))).set_ne ⟨w.heap.size + 1 + 1 + 1 + 1, 4, none⟩ ((.int .i64 c.x)) (by first | assumption | (show (w.heap.size + 1 + 1 + 1 + 1 : Nat) ≠ _; omega))).set_ne ⟨w.heap.size + 1 + 1 + 1 + 1, 5, none⟩ ((.int .i64 c.y)) (by first | assumption | (show (w.heap.size + 1 + 1 + 1 + 1 : Nat) ≠ _; omega)))
 have Cc : Box W7 (w.heap.size + 1 + 1) [.int .i64 c.x, .int .i64 c.y] 30 := by rw [hW]; exact ((((Bc.set_ne ⟨w.heap.size + 1 + 1 + 1 + 1, 2, none⟩ ((.int .i64 a.x)) (by first | assumption | (show (w.heap.size + 1 + 1 + 1 + 1 : Nat) ≠ _; omega))).set_ne ⟨w.heap.size + 1 + 1 + 1 + 1, 3, none⟩ ((.int .i64 a.y)) (by first | assumption | (show (w.heap.size + 1 + 1 + 1 + 1 : Nat) ≠ _; omega))).set_ne ⟨w.heap.size + 1 + 1 + 1 + 1, 4, none⟩ ((.int .i64 c.x)) (by first | assumption | (show (w.heap.size + 1 + 1 + 1 + 1 : Nat) ≠ _; omega))).set_ne ⟨w.heap.size + 1 + 1 + 1 + 1, 5, none⟩ ((.int .i64 c.y)) (by first | assumption | (show (w.heap.size + 1 + 1 + 1 + 1 : Nat) ≠ _; omega)))
 have Cr : Box W7 (w.heap.size + 1 + 1 + 1) [.int .i64 0, .int .i64 0, .int .i64 0, .int .i64 0, .int .i64 0, .int .i64 0] 38 := by rw [hW]; exact ((((Br.set_ne ⟨w.heap.size + 1 + 1 + 1 + 1, 2, none⟩ ((.int .i64 a.x)) (by first | assumption | (show (w.heap.size + 1 + 1 + 1 + 1 : Nat) ≠ _; omega))).set_ne ⟨w.heap.size + 1 + 1 + 1 + 1, 3, none⟩ ((.int .i64 a.y)) (by first | assumption | (show (w.heap.size + 1 + 1 + 1 + 1 : Nat) ≠ _; omega))).set_ne ⟨w.heap.size + 1 + 1 + 1 + 1, 4, none⟩ ((.int .i64 c.x)) (by first | assumption | (show (w.heap.size + 1 + 1 + 1 + 1 : Nat) ≠ _; omega))).set_ne ⟨w.heap.size + 1 + 1 + 1 + 1, 5, none⟩ ((.int .i64 c.y)) (by first | assumption | (show (w.heap.size + 1 + 1 + 1 + 1 : Nat) ≠ _; omega)))
 have Ct : Box W7 (w.heap.size + 1 + 1 + 1 + 1) [.int .i64 b.x, .int .i64 b.y, .int .i64 a.x, .int .i64 a.y, .int .i64 c.x, .int .i64 c.y] 38 := by rw [hW]; exact ((((Bt.set 2 ((.int .i64 a.x))).set 3 ((.int .i64 a.y))).set 4 ((.int .i64 c.x))).set 5 ((.int .i64 c.y)))
 replace hw : Below w.heap.size w W7 := by have hl := hw.size; rw [hW]; go_grown
 clear Fa Fb Fc Fr Ft
 clear hW Ba Bb Bc Br Bt
 have Ba := Ca
 have Bb := Cb
 have Bc := Cc
 have Br := Cr
 have Bt := Ct
 clear Ca Cb Cc Cr Ct
 refine (cv _).mono ?_
 rintro e w8 ⟨rfl, hb⟩
 replace Ba := Ba.ee hb
 replace Bb := Bb.ee hb
 replace Bc := Bc.ee hb
 replace Br := Br.ee hb
 replace Bt := Bt.ee hb
 replace hw := upB hw hb
 clear hb
 have Fa := Ba.facts
 have Fb := Bb.facts
 have Fc := Bc.facts
 have Fr := Br.facts
 have Ft := Bt.facts
 go_wp2_with fail
 refine bodyPost_ret (v := .tuple #[.agg #[.int .i64 b.x, .int .i64 b.y, .int .i64 a.x, .int .i64 a.y, .int .i64 c.x, .int .i64 c.y], .bool true]) (by simp [results, Tryz.results78, go_sem, Fr]) rfl ⟨rfl, by have hl := hw.size; go_grown⟩
theorem tmake_p1 (a b c : Pt) (l0 : lds ⟨a, b, c⟩ = false) (l1 : lds ⟨b, c, a⟩ = true) (ho : decide (ori b c a < 0) = false) (hv : valT ⟨b, c, a⟩ = true) (w : World) :
    Calls Tryz.prog 78 #[.agg #[.int .i64 a.x, .int .i64 a.y], .agg #[.int .i64 b.x, .int .i64 b.y], .agg #[.int .i64 c.x, .int .i64 c.y]] w fun e w' => e = .returned (.tuple #[.agg #[.int .i64 b.x, .int .i64 b.y, .int .i64 c.x, .int .i64 c.y, .int .i64 a.x, .int .i64 a.y], .bool true]) ∧ Below w.heap.size w w' := by
 have k0 := zAh ⟨a, b, c⟩
 rw [l0] at k0
 dsimp only at k0
 have r0 := zBb ⟨a, b, c⟩
 dsimp only at r0
 have k1 := zAh ⟨b, c, a⟩
 rw [l1] at k1
 dsimp only at k1
 have co := zA7 b c a
 have cv := zB1 ⟨b, c, a⟩
 rw [hv] at cv
 dsimp only at cv
 generalize ori b c a = n at *
 clear hv l0 l1
 go_enter Tryz.func78, Tryz.ntmps78
 go_wp2_with fail
 refine zA2 fun W1 hW => ?_
 have Ba : Box W1 (w.heap.size) [.int .i64 a.x, .int .i64 a.y] 30 := by rw [hW]; exact ((((Box.new rfl).old _).old _).old _).old _
 have Bb : Box W1 (w.heap.size + 1) [.int .i64 b.x, .int .i64 b.y] 30 := by rw [hW]; exact (((Box.new (by simp)).old _).old _).old _
 have Bc : Box W1 (w.heap.size + 1 + 1) [.int .i64 c.x, .int .i64 c.y] 30 := by rw [hW]; exact ((Box.new (by simp)).old _).old _
 have Br : Box W1 (w.heap.size + 1 + 1 + 1) [.int .i64 0, .int .i64 0, .int .i64 0, .int .i64 0, .int .i64 0, .int .i64 0] 38 := by rw [hW]; exact (Box.new (by simp)).old _
 have Bt : Box W1 (w.heap.size + 1 + 1 + 1 + 1) [.int .i64 a.x, .int .i64 a.y, .int .i64 b.x, .int .i64 b.y, .int .i64 c.x, .int .i64 c.y] 38 := by rw [hW]; exact Box.new (by simp)
 have hw : Below w.heap.size w W1 := by rw [hW]; go_grown
 clear hW
 refine wp_loop_rounds 4 ?_
 try rw [rounds_succ]
 have Fa := Ba.facts
 have Fb := Bb.facts
 have Fc := Bc.facts
 have Fr := Br.facts
 have Ft := Bt.facts
 go_wp2_with fail
 refine (k0 _).mono ?_
 rintro e w2 ⟨rfl, hb⟩
 clear Fa Fb Fc Fr Ft
 replace Ba := Ba.ee hb
 replace Bb := Bb.ee hb
 replace Bc := Bc.ee hb
 replace Br := Br.ee hb
 replace Bt := Bt.ee hb
 replace hw := upB hw hb
 clear hb
 have Fa := Ba.facts
 have Fb := Bb.facts
 have Fc := Bc.facts
 have Fr := Br.facts
 have Ft := Bt.facts
 go_wp2_with fail
 refine (r0 _).mono ?_
 rintro e w3 ⟨rfl, hb⟩
 clear Fa Fb Fc Fr Ft
 replace Ba := Ba.ee hb
 replace Bb := Bb.ee hb
 replace Bc := Bc.ee hb
 replace Br := Br.ee hb
 replace Bt := Bt.ee hb
 replace hw := upB hw hb
 clear hb
 have Fa := Ba.facts
 have Fb := Bb.facts
 have Fc := Bc.facts
 have Fr := Br.facts
 have Ft := Bt.facts
 go_wp2_with fail
 refine zA2 fun W4 hW => ?_
 have Ca : Box W4 (w.heap.size) [.int .i64 a.x, .int .i64 a.y] 30 := by rw [hW]; exact ((((((Ba.set_ne ⟨w.heap.size + 1 + 1 + 1 + 1, 0, none⟩ ((.int .i64 b.x)) (by first | assumption | (show w.heap.size + 1 + 1 + 1 + 1 ≠ _; omega))).set_ne ⟨w.heap.size + 1 + 1 + 1 + 1, 1, none⟩ ((.int .i64 b.y)) (by first | assumption | (show w.heap.size + 1 + 1 + 1 + 1 ≠ _; omega))).set_ne ⟨w.heap.size + 1 + 1 + 1 + 1, 2, none⟩ ((.int .i64 c.x)) (by first | assumption | (show w.heap.size + 1 + 1 + 1 + 1 ≠ _; omega))).set_ne ⟨w.heap.size + 1 + 1 + 1 + 1, 3, none⟩ ((.int .i64 c.y)) (by first | assumption | (show w.heap.size + 1 + 1 + 1 + 1 ≠ _; omega))).set_ne ⟨w.heap.size + 1 + 1 + 1 + 1, 4, none⟩ ((.int .i64 a.x)) (by first | assumption | (show w.heap.size + 1 + 1 + 1 + 1 ≠ _; omega))).set_ne ⟨w.heap.size + 1 + 1 + 1 + 1, 5, none⟩ ((.int .i64 a.y)) (by first | assumption | (show w.heap.size + 1 + 1 + 1 + 1 ≠ _; omega)))
 have Cb : Box W4 (w.heap.size + 1) [.int .i64 b.x, .int .i64 b.y] 30 := by rw [hW]; exact ((((((Bb.set_ne ⟨w.heap.size + 1 + 1 + 1 + 1, 0, none⟩ ((.int .i64 b.x)) (by first | assumption | (show w.heap.size + 1 + 1 + 1 + 1 ≠ _; omega))).set_ne ⟨w.heap.size + 1 + 1 + 1 + 1, 1, none⟩ ((.int .i64 b.y)) (by first | assumption | (show w.heap.size + 1 + 1 + 1 + 1 ≠ _; omega))).set_ne ⟨w.heap.size + 1 + 1 + 1 + 1, 2, none⟩ ((.int .i64 c.x)) (by first | assumption | (show w.heap.size + 1 + 1 + 1 + 1 ≠ _; omega))).set_ne ⟨w.heap.size + 1 + 1 + 1 + 1, 3, none⟩ ((.int .i64 c.y)) (by first | assumption | (show w.heap.size + 1 + 1 + 1 + 1 ≠ _; omega))).set_ne ⟨w.heap.size + 1 + 1 + 1 + 1, 4, none⟩ ((.int .i64 a.x)) (by first | assumption | (show w.heap.size + 1 + 1 + 1 + 1 ≠ _; omega))).set_ne ⟨w.heap.size + 1 + 1 + 1 + 1, 5, none⟩ ((.int .i64 a.y)) (by first | assumption | (show w.heap.size + 1 + 1 + 1 + 1 ≠ _; omega)))
 have Cc : Box W4 (w.heap.size + 1 + 1) [.int .i64 c.x, .int .i64 c.y] 30 := by rw [hW]; exact ((((((Bc.set_ne ⟨w.heap.size + 1 + 1 + 1 + 1, 0, none⟩ ((.int .i64 b.x)) (by first | assumption | (show w.heap.size + 1 + 1 + 1 + 1 ≠ _; omega))).set_ne ⟨w.heap.size + 1 + 1 + 1 + 1, 1, none⟩ ((.int .i64 b.y)) (by first | assumption | (show w.heap.size + 1 + 1 + 1 + 1 ≠ _; omega))).set_ne ⟨w.heap.size + 1 + 1 + 1 + 1, 2, none⟩ ((.int .i64 c.x)) (by first | assumption | (show w.heap.size + 1 + 1 + 1 + 1 ≠ _; omega))).set_ne ⟨w.heap.size + 1 + 1 + 1 + 1, 3, none⟩ ((.int .i64 c.y)) (by first | assumption | (show w.heap.size + 1 + 1 + 1 + 1 ≠ _; omega))).set_ne ⟨w.heap.size + 1 + 1 + 1 + 1, 4, none⟩ ((.int .i64 a.x)) (by first | assumption | (show w.heap.size + 1 + 1 + 1 + 1 ≠ _; omega))).set_ne ⟨w.heap.size + 1 + 1 + 1 + 1, 5, none⟩ ((.int .i64 a.y)) (by first | assumption | (show w.heap.size + 1 + 1 + 1 + 1 ≠ _; omega)))
 have Cr : Box W4 (w.heap.size + 1 + 1 + 1) [.int .i64 0, .int .i64 0, .int .i64 0, .int .i64 0, .int .i64 0, .int .i64 0] 38 := by rw [hW]; exact ((((((Br.set_ne ⟨w.heap.size + 1 + 1 + 1 + 1, 0, none⟩ ((.int .i64 b.x)) (by first | assumption | (show w.heap.size + 1 + 1 + 1 + 1 ≠ _; omega))).set_ne ⟨w.heap.size + 1 + 1 + 1 + 1, 1, none⟩ ((.int .i64 b.y)) (by first | assumption | (show w.heap.size + 1 + 1 + 1 + 1 ≠ _; omega))).set_ne ⟨w.heap.size + 1 + 1 + 1 + 1, 2, none⟩ ((.int .i64 c.x)) (by first | assumption | (show w.heap.size + 1 + 1 + 1 + 1 ≠ _; omega))).set_ne ⟨w.heap.size + 1 + 1 + 1 + 1, 3, none⟩ ((.int .i64 c.y)) (by first | assumption | (show w.heap.size + 1 + 1 + 1 + 1 ≠ _; omega))).set_ne ⟨w.heap.size + 1 + 1 + 1 + 1, 4, none⟩ ((.int .i64 a.x)) (by first | assumption | (show w.heap.size + 1 + 1 + 1 + 1 ≠ _; omega))).set_ne ⟨w.heap.size + 1 + 1 + 1 + 1, 5, none⟩ ((.int .i64 a.y)) (by first | assumption | (show w.heap.size + 1 + 1 + 1 + 1 ≠ _; omega)))
 have Ct : Box W4 (w.heap.size + 1 + 1 + 1 + 1) [(.int .i64 b.x), (.int .i64 b.y), (.int .i64 c.x), (.int .i64 c.y), (.int .i64 a.x), (.int .i64 a.y)] 38 := by rw [hW]; exact ((((((Bt.set 0 ((.int .i64 b.x))).set 1 ((.int .i64 b.y))).set 2 ((.int .i64 c.x))).set 3 ((.int .i64 c.y))).set 4 ((.int .i64 a.x))).set 5 ((.int .i64 a.y)))
 replace hw : Below w.heap.size w W4 := by have hl := hw.size; rw [hW]; go_grown
 clear Fa Fb Fc Fr Ft
 clear hW Ba Bb Bc Br Bt
 have Ba := Ca
 have Bb := Cb
 have Bc := Cc
 have Br := Cr
 have Bt := Ct
 clear Ca Cb Cc Cr Ct
 try rw [rounds_succ]
 have Fa := Ba.facts
 have Fb := Bb.facts
 have Fc := Bc.facts
 have Fr := Br.facts
 have Ft := Bt.facts
 go_wp2_with fail
 refine (k1 _).mono ?_
 rintro e w5 ⟨rfl, hb⟩
 clear Fa Fb Fc Fr Ft
 replace Ba := Ba.ee hb
 replace Bb := Bb.ee hb
 replace Bc := Bc.ee hb
 replace Br := Br.ee hb
 replace Bt := Bt.ee hb
 replace hw := upB hw hb
 clear hb
 have Fa := Ba.facts
 have Fb := Bb.facts
 have Fc := Bc.facts
 have Fr := Br.facts
 have Ft := Bt.facts
 go_wp2_with fail
 refine (co _).mono ?_
 rintro e w6 ⟨rfl, hb⟩
 clear Fa Fb Fc Fr Ft
 replace Ba := Ba.ee hb
 replace Bb := Bb.ee hb
 replace Bc := Bc.ee hb
 replace Br := Br.ee hb
 replace Bt := Bt.ee hb
 replace hw := upB hw hb
 clear hb
 have Fa := Ba.facts
 have Fb := Bb.facts
 have Fc := Bc.facts
 have Fr := Br.facts
 have Ft := Bt.facts
 go_wp2_with fail
 refine (cv _).mono ?_
 rintro e w7 ⟨rfl, hb⟩
 clear Fa Fb Fc Fr Ft
 replace Ba := Ba.ee hb
 replace Bb := Bb.ee hb
 replace Bc := Bc.ee hb
 replace Br := Br.ee hb
 replace Bt := Bt.ee hb
 replace hw := upB hw hb
 clear hb
 have Fa := Ba.facts
 have Fb := Bb.facts
 have Fc := Bc.facts
 have Fr := Br.facts
 have Ft := Bt.facts
 go_wp2_with fail
 refine bodyPost_ret (v := .tuple #[.agg #[.int .i64 b.x, .int .i64 b.y, .int .i64 c.x, .int .i64 c.y, .int .i64 a.x, .int .i64 a.y], .bool true]) (by simp [results, Tryz.results78, go_sem, Fr]) rfl ⟨rfl, by have hl := hw.size; go_grown⟩
theorem tmake_z1 (a b c : Pt) (l0 : lds ⟨a, b, c⟩ = false) (l1 : lds ⟨b, c, a⟩ = true) (ho : decide (ori b c a < 0) = false) (hv : valT ⟨b, c, a⟩ = false) (w : World) :
    Calls Tryz.prog 78 #[.agg #[.int .i64 a.x, .int .i64 a.y], .agg #[.int .i64 b.x, .int .i64 b.y], .agg #[.int .i64 c.x, .int .i64 c.y]] w fun e w' => e = .returned (.tuple #[.agg #[.int .i64 0, .int .i64 0, .int .i64 0, .int .i64 0, .int .i64 0, .int .i64 0], .bool false]) ∧ Below w.heap.size w w' := by
 have k0 := zAh ⟨a, b, c⟩
 rw [l0] at k0
 dsimp only at k0
 have r0 := zBb ⟨a, b, c⟩
 dsimp only at r0
 have k1 := zAh ⟨b, c, a⟩
 rw [l1] at k1
 dsimp only at k1
 have co := zA7 b c a
 have cv := zB1 ⟨b, c, a⟩
 rw [hv] at cv
 dsimp only at cv
 generalize ori b c a = n at *
 clear hv l0 l1
 go_enter Tryz.func78, Tryz.ntmps78
 go_wp2_with fail
 refine zA2 fun W1 hW => ?_
 have Ba : Box W1 (w.heap.size) [.int .i64 a.x, .int .i64 a.y] 30 := by rw [hW]; exact ((((Box.new rfl).old _).old _).old _).old _
 have Bb : Box W1 (w.heap.size + 1) [.int .i64 b.x, .int .i64 b.y] 30 := by rw [hW]; exact (((Box.new (by simp)).old _).old _).old _
 have Bc : Box W1 (w.heap.size + 1 + 1) [.int .i64 c.x, .int .i64 c.y] 30 := by rw [hW]; exact ((Box.new (by simp)).old _).old _
 have Br : Box W1 (w.heap.size + 1 + 1 + 1) [.int .i64 0, .int .i64 0, .int .i64 0, .int .i64 0, .int .i64 0, .int .i64 0] 38 := by rw [hW]; exact (Box.new (by simp)).old _
 have Bt : Box W1 (w.heap.size + 1 + 1 + 1 + 1) [.int .i64 a.x, .int .i64 a.y, .int .i64 b.x, .int .i64 b.y, .int .i64 c.x, .int .i64 c.y] 38 := by rw [hW]; exact Box.new (by simp)
 have hw : Below w.heap.size w W1 := by rw [hW]; go_grown
 clear hW
 refine wp_loop_rounds 4 ?_
 try rw [rounds_succ]
 have Fa := Ba.facts
 have Fb := Bb.facts
 have Fc := Bc.facts
 have Fr := Br.facts
 have Ft := Bt.facts
 go_wp2_with fail
 refine (k0 _).mono ?_
 rintro e w2 ⟨rfl, hb⟩
 clear Fa Fb Fc Fr Ft
 replace Ba := Ba.ee hb
 replace Bb := Bb.ee hb
 replace Bc := Bc.ee hb
 replace Br := Br.ee hb
 replace Bt := Bt.ee hb
 replace hw := upB hw hb
 clear hb
 have Fa := Ba.facts
 have Fb := Bb.facts
 have Fc := Bc.facts
 have Fr := Br.facts
 have Ft := Bt.facts
 go_wp2_with fail
 refine (r0 _).mono ?_
 rintro e w3 ⟨rfl, hb⟩
 clear Fa Fb Fc Fr Ft
 replace Ba := Ba.ee hb
 replace Bb := Bb.ee hb
 replace Bc := Bc.ee hb
 replace Br := Br.ee hb
 replace Bt := Bt.ee hb
 replace hw := upB hw hb
 clear hb
 have Fa := Ba.facts
 have Fb := Bb.facts
 have Fc := Bc.facts
 have Fr := Br.facts
 have Ft := Bt.facts
 go_wp2_with fail
 refine zA2 fun W4 hW => ?_
 have Ca : Box W4 (w.heap.size) [.int .i64 a.x, .int .i64 a.y] 30 := by rw [hW]; exact ((((((Ba.set_ne ⟨w.heap.size + 1 + 1 + 1 + 1, 0, none⟩ ((.int .i64 b.x)) (by first | assumption | (show w.heap.size + 1 + 1 + 1 + 1 ≠ _; omega))).set_ne ⟨w.heap.size + 1 + 1 + 1 + 1, 1, none⟩ ((.int .i64 b.y)) (by first | assumption | (show w.heap.size + 1 + 1 + 1 + 1 ≠ _; omega))).set_ne ⟨w.heap.size + 1 + 1 + 1 + 1, 2, none⟩ ((.int .i64 c.x)) (by first | assumption | (show w.heap.size + 1 + 1 + 1 + 1 ≠ _; omega))).set_ne ⟨w.heap.size + 1 + 1 + 1 + 1, 3, none⟩ ((.int .i64 c.y)) (by first | assumption | (show w.heap.size + 1 + 1 + 1 + 1 ≠ _; omega))).set_ne ⟨w.heap.size + 1 + 1 + 1 + 1, 4, none⟩ ((.int .i64 a.x)) (by first | assumption | (show w.heap.size + 1 + 1 + 1 + 1 ≠ _; omega))).set_ne ⟨w.heap.size + 1 + 1 + 1 + 1, 5, none⟩ ((.int .i64 a.y)) (by first | assumption | (show w.heap.size + 1 + 1 + 1 + 1 ≠ _; omega)))
 have Cb : Box W4 (w.heap.size + 1) [.int .i64 b.x, .int .i64 b.y] 30 := by rw [hW]; exact ((((((Bb.set_ne ⟨w.heap.size + 1 + 1 + 1 + 1, 0, none⟩ ((.int .i64 b.x)) (by first | assumption | (show w.heap.size + 1 + 1 + 1 + 1 ≠ _; omega))).set_ne ⟨w.heap.size + 1 + 1 + 1 + 1, 1, none⟩ ((.int .i64 b.y)) (by first | assumption | (show w.heap.size + 1 + 1 + 1 + 1 ≠ _; omega))).set_ne ⟨w.heap.size + 1 + 1 + 1 + 1, 2, none⟩ ((.int .i64 c.x)) (by first | assumption | (show w.heap.size + 1 + 1 + 1 + 1 ≠ _; omega))).set_ne ⟨w.heap.size + 1 + 1 + 1 + 1, 3, none⟩ ((.int .i64 c.y)) (by first | assumption | (show w.heap.size + 1 + 1 + 1 + 1 ≠ _; omega))).set_ne ⟨w.heap.size + 1 + 1 + 1 + 1, 4, none⟩ ((.int .i64 a.x)) (by first | assumption | (show w.heap.size + 1 + 1 + 1 + 1 ≠ _; omega))).set_ne ⟨w.heap.size + 1 + 1 + 1 + 1, 5, none⟩ ((.int .i64 a.y)) (by first | assumption | (show w.heap.size + 1 + 1 + 1 + 1 ≠ _; omega)))
 have Cc : Box W4 (w.heap.size + 1 + 1) [.int .i64 c.x, .int .i64 c.y] 30 := by rw [hW]; exact ((((((Bc.set_ne ⟨w.heap.size + 1 + 1 + 1 + 1, 0, none⟩ ((.int .i64 b.x)) (by first | assumption | (show w.heap.size + 1 + 1 + 1 + 1 ≠ _; omega))).set_ne ⟨w.heap.size + 1 + 1 + 1 + 1, 1, none⟩ ((.int .i64 b.y)) (by first | assumption | (show w.heap.size + 1 + 1 + 1 + 1 ≠ _; omega))).set_ne ⟨w.heap.size + 1 + 1 + 1 + 1, 2, none⟩ ((.int .i64 c.x)) (by first | assumption | (show w.heap.size + 1 + 1 + 1 + 1 ≠ _; omega))).set_ne ⟨w.heap.size + 1 + 1 + 1 + 1, 3, none⟩ ((.int .i64 c.y)) (by first | assumption | (show w.heap.size + 1 + 1 + 1 + 1 ≠ _; omega))).set_ne ⟨w.heap.size + 1 + 1 + 1 + 1, 4, none⟩ ((.int .i64 a.x)) (by first | assumption | (show w.heap.size + 1 + 1 + 1 + 1 ≠ _; omega))).set_ne ⟨w.heap.size + 1 + 1 + 1 + 1, 5, none⟩ ((.int .i64 a.y)) (by first | assumption | (show w.heap.size + 1 + 1 + 1 + 1 ≠ _; omega)))
 have Cr : Box W4 (w.heap.size + 1 + 1 + 1) [.int .i64 0, .int .i64 0, .int .i64 0, .int .i64 0, .int .i64 0, .int .i64 0] 38 := by rw [hW]; exact ((((((Br.set_ne ⟨w.heap.size + 1 + 1 + 1 + 1, 0, none⟩ ((.int .i64 b.x)) (by first | assumption | (show w.heap.size + 1 + 1 + 1 + 1 ≠ _; omega))).set_ne ⟨w.heap.size + 1 + 1 + 1 + 1, 1, none⟩ ((.int .i64 b.y)) (by first | assumption | (show w.heap.size + 1 + 1 + 1 + 1 ≠ _; omega))).set_ne ⟨w.heap.size + 1 + 1 + 1 + 1, 2, none⟩ ((.int .i64 c.x)) (by first | assumption | (show w.heap.size + 1 + 1 + 1 + 1 ≠ _; omega))).set_ne ⟨w.heap.size + 1 + 1 + 1 + 1, 3, none⟩ ((.int .i64 c.y)) (by first | assumption | (show w.heap.size + 1 + 1 + 1 + 1 ≠ _; omega))).set_ne ⟨w.heap.size + 1 + 1 + 1 + 1, 4, none⟩ ((.int .i64 a.x)) (by first | assumption | (show w.heap.size + 1 + 1 + 1 + 1 ≠ _; omega))).set_ne ⟨w.heap.size + 1 + 1 + 1 + 1, 5, none⟩ ((.int .i64 a.y)) (by first | assumption | (show w.heap.size + 1 + 1 + 1 + 1 ≠ _; omega)))
 have Ct : Box W4 (w.heap.size + 1 + 1 + 1 + 1) [(.int .i64 b.x), (.int .i64 b.y), (.int .i64 c.x), (.int .i64 c.y), (.int .i64 a.x), (.int .i64 a.y)] 38 := by rw [hW]; exact ((((((Bt.set 0 ((.int .i64 b.x))).set 1 ((.int .i64 b.y))).set 2 ((.int .i64 c.x))).set 3 ((.int .i64 c.y))).set 4 ((.int .i64 a.x))).set 5 ((.int .i64 a.y)))
 replace hw : Below w.heap.size w W4 := by have hl := hw.size; rw [hW]; go_grown
 clear Fa Fb Fc Fr Ft
 clear hW Ba Bb Bc Br Bt
 have Ba := Ca
 have Bb := Cb
 have Bc := Cc
 have Br := Cr
 have Bt := Ct
 clear Ca Cb Cc Cr Ct
 try rw [rounds_succ]
 have Fa := Ba.facts
 have Fb := Bb.facts
 have Fc := Bc.facts
 have Fr := Br.facts
 have Ft := Bt.facts
 go_wp2_with fail
 refine (k1 _).mono ?_
 rintro e w5 ⟨rfl, hb⟩
 clear Fa Fb Fc Fr Ft
 replace Ba := Ba.ee hb
 replace Bb := Bb.ee hb
 replace Bc := Bc.ee hb
 replace Br := Br.ee hb
 replace Bt := Bt.ee hb
 replace hw := upB hw hb
 clear hb
 have Fa := Ba.facts
 have Fb := Bb.facts
 have Fc := Bc.facts
 have Fr := Br.facts
 have Ft := Bt.facts
 go_wp2_with fail
 refine (co _).mono ?_
 rintro e w6 ⟨rfl, hb⟩
 clear Fa Fb Fc Fr Ft
 replace Ba := Ba.ee hb
 replace Bb := Bb.ee hb
 replace Bc := Bc.ee hb
 replace Br := Br.ee hb
 replace Bt := Bt.ee hb
 replace hw := upB hw hb
 clear hb
 have Fa := Ba.facts
 have Fb := Bb.facts
 have Fc := Bc.facts
 have Fr := Br.facts
 have Ft := Bt.facts
 go_wp2_with fail
 refine (cv _).mono ?_
 rintro e w7 ⟨rfl, hb⟩
 clear Fa Fb Fc Fr Ft
 replace Ba := Ba.ee hb
 replace Bb := Bb.ee hb
 replace Bc := Bc.ee hb
 replace Br := Br.ee hb
 replace Bt := Bt.ee hb
 replace hw := upB hw hb
 clear hb
 have Fa := Ba.facts
 have Fb := Bb.facts
 have Fc := Bc.facts
 have Fr := Br.facts
 have Ft := Bt.facts
 go_wp2_with fail
 refine bodyPost_ret (v := .tuple #[.agg #[.int .i64 0, .int .i64 0, .int .i64 0, .int .i64 0, .int .i64 0, .int .i64 0], .bool false]) (by simp [results, Tryz.results78, go_sem, Fr]) rfl ⟨rfl, by have hl := hw.size; go_grown⟩
theorem tmake_n2 (a b c : Pt) (l0 : lds ⟨a, b, c⟩ = false) (l1 : lds ⟨b, c, a⟩ = false) (l2 : lds ⟨c, a, b⟩ = true) (ho : decide (ori c a b < 0) = true) (hv : valT ⟨c, b, a⟩ = true) (w : World) :
    Calls Tryz.prog 78 #[.agg #[.int .i64 a.x, .int .i64 a.y], .agg #[.int .i64 b.x, .int .i64 b.y], .agg #[.int .i64 c.x, .int .i64 c.y]] w fun e w' => e = .returned (.tuple #[.agg #[.int .i64 c.x, .int .i64 c.y, .int .i64 b.x, .int .i64 b.y, .int .i64 a.x, .int .i64 a.y], .bool true]) ∧ Below w.heap.size w w' := by
 have k0 := zAh ⟨a, b, c⟩
 rw [l0] at k0
 dsimp only at k0
 have r0 := zBb ⟨a, b, c⟩
 dsimp only at r0
 have k1 := zAh ⟨b, c, a⟩
 rw [l1] at k1
 dsimp only at k1
 have r1 := zBb ⟨b, c, a⟩
 dsimp only at r1
 have k2 := zAh ⟨c, a, b⟩
 rw [l2] at k2
 dsimp only at k2
 have co := zA7 c a b
 have cv := zB1 ⟨c, b, a⟩
 rw [hv] at cv
 dsimp only at cv
 generalize ori c a b = n at *
 clear hv l0 l1 l2
 go_enter Tryz.func78, Tryz.ntmps78
 go_wp2_with fail
 refine zA2 fun W1 hW => ?_
 have Ba : Box W1 (w.heap.size) [.int .i64 a.x, .int .i64 a.y] 30 := by rw [hW]; exact ((((Box.new rfl).old _).old _).old _).old _
 have Bb : Box W1 (w.heap.size + 1) [.int .i64 b.x, .int .i64 b.y] 30 := by rw [hW]; exact (((Box.new (by simp)).old _).old _).old _
 have Bc : Box W1 (w.heap.size + 1 + 1) [.int .i64 c.x, .int .i64 c.y] 30 := by rw [hW]; exact ((Box.new (by simp)).old _).old _
 have Br : Box W1 (w.heap.size + 1 + 1 + 1) [.int .i64 0, .int .i64 0, .int .i64 0, .int .i64 0, .int .i64 0, .int .i64 0] 38 := by rw [hW]; exact (Box.new (by simp)).old _
 have Bt : Box W1 (w.heap.size + 1 + 1 + 1 + 1) [.int .i64 a.x, .int .i64 a.y, .int .i64 b.x, .int .i64 b.y, .int .i64 c.x, .int .i64 c.y] 38 := by rw [hW]; exact Box.new (by simp)
 have hw : Below w.heap.size w W1 := by rw [hW]; go_grown
 clear hW
 refine wp_loop_rounds 4 ?_
 try rw [rounds_succ]
 have Fa := Ba.facts
 have Fb := Bb.facts
 have Fc := Bc.facts
 have Fr := Br.facts
 have Ft := Bt.facts
 go_wp2_with fail
 refine (k0 _).mono ?_
 rintro e w2 ⟨rfl, hb⟩
 clear Fa Fb Fc Fr Ft
 replace Ba := Ba.ee hb
 replace Bb := Bb.ee hb
 replace Bc := Bc.ee hb
 replace Br := Br.ee hb
 replace Bt := Bt.ee hb
 replace hw := upB hw hb
 clear hb
 have Fa := Ba.facts
 have Fb := Bb.facts
 have Fc := Bc.facts
 have Fr := Br.facts
 have Ft := Bt.facts
 go_wp2_with fail
 refine (r0 _).mono ?_
 rintro e w3 ⟨rfl, hb⟩
 clear Fa Fb Fc Fr Ft
 replace Ba := Ba.ee hb
 replace Bb := Bb.ee hb
 replace Bc := Bc.ee hb
 replace Br := Br.ee hb
 replace Bt := Bt.ee hb
 replace hw := upB hw hb
 clear hb
 have Fa := Ba.facts
 have Fb := Bb.facts
 have Fc := Bc.facts
 have Fr := Br.facts
 have Ft := Bt.facts
 go_wp2_with fail
 refine zA2 fun W4 hW => ?_
 have Ca : Box W4 (w.heap.size) [.int .i64 a.x, .int .i64 a.y] 30 := by rw [hW]; exact ((((((Ba.set_ne ⟨w.heap.size + 1 + 1 + 1 + 1, 0, none⟩ ((.int .i64 b.x)) (by first | assumption | (show w.heap.size + 1 + 1 + 1 + 1 ≠ _; omega))).set_ne ⟨w.heap.size + 1 + 1 + 1 + 1, 1, none⟩ ((.int .i64 b.y)) (by first | assumption | (show w.heap.size + 1 + 1 + 1 + 1 ≠ _; omega))).set_ne ⟨w.heap.size + 1 + 1 + 1 + 1, 2, none⟩ ((.int .i64 c.x)) (by first | assumption | (show w.heap.size + 1 + 1 + 1 + 1 ≠ _; omega))).set_ne ⟨w.heap.size + 1 + 1 + 1 + 1, 3, none⟩ ((.int .i64 c.y)) (by first | assumption | (show w.heap.size + 1 + 1 + 1 + 1 ≠ _; omega))).set_ne ⟨w.heap.size + 1 + 1 + 1 + 1, 4, none⟩ ((.int .i64 a.x)) (by first | assumption | (show w.heap.size + 1 + 1 + 1 + 1 ≠ _; omega))).set_ne ⟨w.heap.size + 1 + 1 + 1 + 1, 5, none⟩ ((.int .i64 a.y)) (by first | assumption | (show w.heap.size + 1 + 1 + 1 + 1 ≠ _; omega)))
 have Cb : Box W4 (w.heap.size + 1) [.int .i64 b.x, .int .i64 b.y] 30 := by rw [hW]; exact ((((((Bb.set_ne ⟨w.heap.size + 1 + 1 + 1 + 1, 0, none⟩ ((.int .i64 b.x)) (by first | assumption | (show w.heap.size + 1 + 1 + 1 + 1 ≠ _; omega))).set_ne ⟨w.heap.size + 1 + 1 + 1 + 1, 1, none⟩ ((.int .i64 b.y)) (by first | assumption | (show w.heap.size + 1 + 1 + 1 + 1 ≠ _; omega))).set_ne ⟨w.heap.size + 1 + 1 + 1 + 1, 2, none⟩ ((.int .i64 c.x)) (by first | assumption | (show w.heap.size + 1 + 1 + 1 + 1 ≠ _; omega))).set_ne ⟨w.heap.size + 1 + 1 + 1 + 1, 3, none⟩ ((.int .i64 c.y)) (by first | assumption | (show w.heap.size + 1 + 1 + 1 + 1 ≠ _; omega))).set_ne ⟨w.heap.size + 1 + 1 + 1 + 1, 4, none⟩ ((.int .i64 a.x)) (by first | assumption | (show w.heap.size + 1 + 1 + 1 + 1 ≠ _; omega))).set_ne ⟨w.heap.size + 1 + 1 + 1 + 1, 5, none⟩ ((.int .i64 a.y)) (by first | assumption | (show w.heap.size + 1 + 1 + 1 + 1 ≠ _; omega)))
 have Cc : Box W4 (w.heap.size + 1 + 1) [.int .i64 c.x, .int .i64 c.y] 30 := by rw [hW]; exact ((((((Bc.set_ne ⟨w.heap.size + 1 + 1 + 1 + 1, 0, none⟩ ((.int .i64 b.x)) (by first | assumption | (show w.heap.size + 1 + 1 + 1 + 1 ≠ _; omega))).set_ne ⟨w.heap.size + 1 + 1 + 1 + 1, 1, none⟩ ((.int .i64 b.y)) (by first | assumption | (show w.heap.size + 1 + 1 + 1 + 1 ≠ _; omega))).set_ne ⟨w.heap.size + 1 + 1 + 1 + 1, 2, none⟩ ((.int .i64 c.x)) (by first | assumption | (show w.heap.size + 1 + 1 + 1 + 1 ≠ _; omega))).set_ne ⟨w.heap.size + 1 + 1 + 1 + 1, 3, none⟩ ((.int .i64 c.y)) (by first | assumption | (show w.heap.size + 1 + 1 + 1 + 1 ≠ _; omega))).set_ne ⟨w.heap.size + 1 + 1 + 1 + 1, 4, none⟩ ((.int .i64 a.x)) (by first | assumption | (show w.heap.size + 1 + 1 + 1 + 1 ≠ _; omega))).set_ne ⟨w.heap.size + 1 + 1 + 1 + 1, 5, none⟩ ((.int .i64 a.y)) (by first | assumption | (show w.heap.size + 1 + 1 + 1 + 1 ≠ _; omega)))
 have Cr : Box W4 (w.heap.size + 1 + 1 + 1) [.int .i64 0, .int .i64 0, .int .i64 0, .int .i64 0, .int .i64 0, .int .i64 0] 38 := by rw [hW]; exact ((((((Br.set_ne ⟨w.heap.size + 1 + 1 + 1 + 1, 0, none⟩ ((.int .i64 b.x)) (by first | assumption | (show w.heap.size + 1 + 1 + 1 + 1 ≠ _; omega))).set_ne ⟨w.heap.size + 1 + 1 + 1 + 1, 1, none⟩ ((.int .i64 b.y)) (by first | assumption | (show w.heap.size + 1 + 1 + 1 + 1 ≠ _; omega))).set_ne ⟨w.heap.size + 1 + 1 + 1 + 1, 2, none⟩ ((.int .i64 c.x)) (by first | assumption | (show w.heap.size + 1 + 1 + 1 + 1 ≠ _; omega))).set_ne ⟨w.heap.size + 1 + 1 + 1 + 1, 3, none⟩ ((.int .i64 c.y)) (by first | assumption | (show w.heap.size + 1 + 1 + 1 + 1 ≠ _; omega))).set_ne ⟨w.heap.size + 1 + 1 + 1 + 1, 4, none⟩ ((.int .i64 a.x)) (by first | assumption | (show w.heap.size + 1 + 1 + 1 + 1 ≠ _; omega))).set_ne ⟨w.heap.size + 1 + 1 + 1 + 1, 5, none⟩ ((.int .i64 a.y)) (by first | assumption | (show w.heap.size + 1 + 1 + 1 + 1 ≠ _; omega)))
 have Ct : Box W4 (w.heap.size + 1 + 1 + 1 + 1) [(.int .i64 b.x), (.int .i64 b.y), (.int .i64 c.x), (.int .i64 c.y), (.int .i64 a.x), (.int .i64 a.y)] 38 := by rw [hW]; exact ((((((Bt.set 0 ((.int .i64 b.x))).set 1 ((.int .i64 b.y))).set 2 ((.int .i64 c.x))).set 3 ((.int .i64 c.y))).set 4 ((.int .i64 a.x))).set 5 ((.int .i64 a.y)))
 replace hw : Below w.heap.size w W4 := by have hl := hw.size; rw [hW]; go_grown
 clear Fa Fb Fc Fr Ft
 clear hW Ba Bb Bc Br Bt
 have Ba := Ca
 have Bb := Cb
 have Bc := Cc
 have Br := Cr
 have Bt := Ct
 clear Ca Cb Cc Cr Ct
 try rw [rounds_succ]
 have Fa := Ba.facts
 have Fb := Bb.facts
 have Fc := Bc.facts
 have Fr := Br.facts
 have Ft := Bt.facts
 go_wp2_with fail
 refine (k1 _).mono ?_
 rintro e w5 ⟨rfl, hb⟩
 clear Fa Fb Fc Fr Ft
 replace Ba := Ba.ee hb
 replace Bb := Bb.ee hb
 replace Bc := Bc.ee hb
 replace Br := Br.ee hb
 replace Bt := Bt.ee hb
 replace hw := upB hw hb
 clear hb
 have Fa := Ba.facts
 have Fb := Bb.facts
 have Fc := Bc.facts
 have Fr := Br.facts
 have Ft := Bt.facts
 go_wp2_with fail
 refine (r1 _).mono ?_
 rintro e w6 ⟨rfl, hb⟩
 clear Fa Fb Fc Fr Ft
 replace Ba := Ba.ee hb
 replace Bb := Bb.ee hb
 replace Bc := Bc.ee hb
 replace Br := Br.ee hb
 replace Bt := Bt.ee hb
 replace hw := upB hw hb
 clear hb
 have Fa := Ba.facts
 have Fb := Bb.facts
 have Fc := Bc.facts
 have Fr := Br.facts
 have Ft := Bt.facts
 go_wp2_with fail
 refine zA2 fun W7 hW => ?_
 have Ca : Box W7 (w.heap.size) [.int .i64 a.x, .int .i64 a.y] 30 := by rw [hW]; exact ((((((Ba.set_ne ⟨w.heap.size + 1 + 1 + 1 + 1, 0, none⟩ ((.int .i64 c.x)) (by first | assumption | (show w.heap.size + 1 + 1 + 1 + 1 ≠ _; omega))).set_ne ⟨w.heap.size + 1 + 1 + 1 + 1, 1, none⟩ ((.int .i64 c.y)) (by first | assumption | (show w.heap.size + 1 + 1 + 1 + 1 ≠ _; omega))).set_ne ⟨w.heap.size + 1 + 1 + 1 + 1, 2, none⟩ ((.int .i64 a.x)) (by first | assumption | (show w.heap.size + 1 + 1 + 1 + 1 ≠ _; omega))).set_ne ⟨w.heap.size + 1 + 1 + 1 + 1, 3, none⟩ ((.int .i64 a.y)) (by first | assumption | (show w.heap.size + 1 + 1 + 1 + 1 ≠ _; omega))).set_ne ⟨w.heap.size + 1 + 1 + 1 + 1, 4, none⟩ ((.int .i64 b.x)) (by first | assumption | (show w.heap.size + 1 + 1 + 1 + 1 ≠ _; omega))).set_ne ⟨w.heap.size + 1 + 1 + 1 + 1, 5, none⟩ ((.int .i64 b.y)) (by first | assumption | (show w.heap.size + 1 + 1 + 1 + 1 ≠ _; omega)))
 have Cb : Box W7 (w.heap.size + 1) [.int .i64 b.x, .int .i64 b.y] 30 := by rw [hW]; exact ((((((Bb.set_ne ⟨w.heap.size + 1 + 1 + 1 + 1, 0, none⟩ ((.int .i64 c.x)) (by first | assumption | (show w.heap.size + 1 + 1 + 1 + 1 ≠ _; omega))).set_ne ⟨w.heap.size + 1 + 1 + 1 + 1, 1, none⟩ ((.int .i64 c.y)) (by first | assumption | (show w.heap.size + 1 + 1 + 1 + 1 ≠ _; omega))).set_ne ⟨w.heap.size + 1 + 1 + 1 + 1, 2, none⟩ ((.int .i64 a.x)) (by first | assumption | (show w.heap.size + 1 + 1 + 1 + 1 ≠ _; omega))).set_ne ⟨w.heap.size + 1 + 1 + 1 + 1, 3, none⟩ ((.int .i64 a.y)) (by first | assumption | (show w.heap.size + 1 + 1 + 1 + 1 ≠ _; omega))).set_ne ⟨w.heap.size + 1 + 1 + 1 + 1, 4, none⟩ ((.int .i64 b.x)) (by first | assumption | (show w.heap.size + 1 + 1 + 1 + 1 ≠ _; omega))).set_ne ⟨w.heap.size + 1 + 1 + 1 + 1, 5, none⟩ ((.int .i64 b.y)) (by first | assumption | (show w.heap.size + 1 + 1 + 1 + 1 ≠ _; omega)))
 have Cc : Box W7 (w.heap.size + 1 + 1) [.int .i64 c.x, .int .i64 c.y] 30 := by rw [hW]; exact ((((((Bc.set_ne ⟨w.heap.size + 1 + 1 + 1 + 1, 0, none⟩ ((.int .i64 c.x)) (by first | assumption | (show w.heap.size + 1 + 1 + 1 + 1 ≠ _; omega))).set_ne ⟨w.heap.size + 1 + 1 + 1 + 1, 1, none⟩ ((.int .i64 c.y)) (by first | assumption | (show w.heap.size + 1 + 1 + 1 + 1 ≠ _; omega))).set_ne ⟨w.heap.size + 1 + 1 + 1 + 1, 2, none⟩ ((.int .i64 a.x)) (by first | assumption | (show w.heap.size + 1 + 1 + 1 + 1 ≠ _; omega))).set_ne ⟨w.heap.size + 1 + 1 + 1 + 1, 3, none⟩ ((.int .i64 a.y)) (by first | assumption | (show w.heap.size + 1 + 1 + 1 + 1 ≠ _; omega))).set_ne ⟨w.heap.size + 1 + 1 + 1 + 1, 4, none⟩ ((.int .i64 b.x)) (by first | assumption | (show w.heap.size + 1 + 1 + 1 + 1 ≠ _; omega))).set_ne ⟨w.heap.size + 1 + 1 + 1 + 1, 5, none⟩ ((.int .i64 b.y)) (by first | assumption | (show w.heap.size + 1 + 1 + 1 + 1 ≠ _; omega)))
 have Cr : Box W7 (w.heap.size + 1 + 1 + 1) [.int .i64 0, .int .i64 0, .int .i64 0, .int .i64 0, .int .i64 0, .int .i64 0] 38 := by rw [hW]; exact ((((((Br.set_ne ⟨w.heap.size + 1 + 1 + 1 + 1, 0, none⟩ ((.int .i64 c.x)) (by first | assumption | (show w.heap.size + 1 + 1 + 1 + 1 ≠ _; omega))).set_ne ⟨w.heap.size + 1 + 1 + 1 + 1, 1, none⟩ ((.int .i64 c.y)) (by first | assumption | (show w.heap.size + 1 + 1 + 1 + 1 ≠ _; omega))).set_ne ⟨w.heap.size + 1 + 1 + 1 + 1, 2, none⟩ ((.int .i64 a.x)) (by first | assumption | (show w.heap.size + 1 + 1 + 1 + 1 ≠ _; omega))).set_ne ⟨w.heap.size + 1 + 1 + 1 + 1, 3, none⟩ ((.int .i64 a.y)) (by first | assumption | (show w.heap.size + 1 + 1 + 1 + 1 ≠ _; omega))).set_ne ⟨w.heap.size + 1 + 1 + 1 + 1, 4, none⟩ ((.int .i64 b.x)) (by first | assumption | (show w.heap.size + 1 + 1 + 1 + 1 ≠ _; omega))).set_ne ⟨w.heap.size + 1 + 1 + 1 + 1, 5, none⟩ ((.int .i64 b.y)) (by first | assumption | (show w.heap.size + 1 + 1 + 1 + 1 ≠ _; omega)))
 have Ct : Box W7 (w.heap.size + 1 + 1 + 1 + 1) [(.int .i64 c.x), (.int .i64 c.y), (.int .i64 a.x), (.int .i64 a.y), (.int .i64 b.x), (.int .i64 b.y)] 38 := by rw [hW]; exact ((((((Bt.set 0 ((.int .i64 c.x))).set 1 ((.int .i64 c.y))).set 2 ((.int .i64 a.x))).set 3 ((.int .i64 a.y))).set 4 ((.int .i64 b.x))).set 5 ((.int .i64 b.y)))
 replace hw : Below w.heap.size w W7 := by have hl := hw.size; rw [hW]; go_grown
 clear Fa Fb Fc Fr Ft
 clear hW Ba Bb Bc Br Bt
 have Ba := Ca
 have Bb := Cb
 have Bc := Cc
 have Br := Cr
 have Bt := Ct
 clear Ca Cb Cc Cr Ct
 try rw [rounds_succ]
 have Fa := Ba.facts
 have Fb := Bb.facts
 have Fc := Bc.facts
 have Fr := Br.facts
 have Ft := Bt.facts
 go_wp2_with fail
 refine (k2 _).mono ?_
 rintro e w8 ⟨rfl, hb⟩
 clear Fa Fb Fc Fr Ft
 replace Ba := Ba.ee hb
 replace Bb := Bb.ee hb
 replace Bc := Bc.ee hb
 replace Br := Br.ee hb
 replace Bt := Bt.ee hb
 replace hw := upB hw hb
 clear hb
 have Fa := Ba.facts
 have Fb := Bb.facts
 have Fc := Bc.facts
 have Fr := Br.facts
 have Ft := Bt.facts
 go_wp2_with fail
 refine (co _).mono ?_
 rintro e w9 ⟨rfl, hb⟩
 clear Fa Fb Fc Fr Ft
 replace Ba := Ba.ee hb
 replace Bb := Bb.ee hb
 replace Bc := Bc.ee hb
 replace Br := Br.ee hb
 replace Bt := Bt.ee hb
 replace hw := upB hw hb
 clear hb
 have Fa := Ba.facts
 have Fb := Bb.facts
 have Fc := Bc.facts
 have Fr := Br.facts
 have Ft := Bt.facts
 go_wp2_with fail
 refine zA1 fun W10 hW => ?_
 have Ca : Box W10 (w.heap.size) [.int .i64 a.x, .int .i64 a.y] 30 := by rw [hW]; exact ((((Ba.set_ne ⟨w.heap.size + 1 + 1 + 1 + 1, 2, none⟩ ((.int .i64 b.x)) (by first | assumption | (show (w.heap.size + 1 + 1 + 1 + 1 : Nat) ≠ _; omega))).set_ne ⟨w.heap.size + 1 + 1 + 1 + 1, 3, none⟩ ((.int .i64 b.y)) (by first | assumption | (show (w.heap.size + 1 + 1 + 1 + 1 : Nat) ≠ _; omega))).set_ne ⟨w.heap.size + 1 + 1 + 1 + 1, 4, none⟩ ((.int .i64 a.x)) (by first | assumption | (show (w.heap.size + 1 + 1 + 1 + 1 : Nat) ≠ _; omega))).set_ne ⟨w.heap.size + 1 + 1 + 1 + 1, 5, none⟩ ((.int .i64 a.y)) (by first | assumption | (show (w.heap.size + 1 + 1 + 1 + 1 : Nat) ≠ _; omega)))
 have Cb : Box W10 (w.heap.size + 1) [.int .i64 b.x, .int .i64 b.y] 30 := by rw [hW]; exact ((((Bb.set_ne ⟨w.heap.size + 1 + 1 + 1 + 1, 2, none⟩ ((.int .i64 b.x)) (by first | assumption | (show (w.heap.size + 1 + 1 + 1 + 1 : Nat) ≠ _; omega))).set_ne ⟨w.heap.size + 1 + 1 + 1 + 1, 3, none⟩ ((.int .i64 b.y)) (by first | assumption | (show (w.heap.size + 1 + 1 + 1 + 1 : Nat) ≠ _; omega))).set_ne ⟨w.heap.size + 1 + 1 + 1 + 1, 4, none⟩ ((.int .i64 a.x)) (by first | assumption | (show (w.heap.size + 1 + 1 + 1 + 1 : Nat) ≠ _; omega))).set_ne ⟨w.heap.size + 1 + 1 + 1 + 1, 5, none⟩ ((.int .i64 a.y)) (by first | assumption | (show (w.heap.size + 1 + 1 + 1 + 1 : Nat) ≠ _; omega)))
 have Cc : Box W10 (w.heap.size + 1 + 1) [.int .i64 c.x, .int .i64 c.y] 30 := by rw [hW]; exact ((((Bc.set_ne ⟨w.heap.size + 1 + 1 + 1 + 1, 2, none⟩ ((.int .i64 b.x)) (by first | assumption | (show (w.heap.size + 1 + 1 + 1 + 1 : Nat) ≠ _; omega))).set_ne ⟨w.heap.size + 1 + 1 + 1 + 1, 3, none⟩ ((.int .i64 b.y)) (by first | assumption | (show (w.heap.size + 1 + 1 + 1 + 1 : Nat) ≠ _; omega))).set_ne ⟨w.heap.size + 1 + 1 + 1 + 1, 4, none⟩ ((.int .i64 a.x)) (by first | assumption | (show (w.heap.size + 1 + 1 + 1 + 1 : Nat) ≠ _; omega))).set_ne ⟨w.heap.size + 1 + 1 + 1 + 1, 5, none⟩ ((.int .i64 a.y)) (by first | assumption | (show (w.heap.size + 1 + 1 + 1 + 1 : Nat) ≠ _; omega)))
 have Cr : Box W10 (w.heap.size + 1 + 1 + 1) [.int .i64 0, .int .i64 0, .int .i64 0, .int .i64 0, .int .i64 0, .int .i64 0] 38 := by rw [hW]; exact ((((Br.set_ne ⟨w.heap.size + 1 + 1 + 1 + 1, 2, none⟩ ((.int .i64 b.x)) (by first | assumption | (show (w.heap.size + 1 + 1 + 1 + 1 : Nat) ≠ _; omega))).set_ne ⟨w.heap.size + 1 + 1 + 1 + 1, 3, none⟩ ((.int .i64 b.y)) (by first | assumption | (show (w.heap.size + 1 + 1 + 1 + 1 : Nat) ≠ _; omega))).set_ne ⟨w.heap.size + 1 + 1 + 1 + 1, 4, none⟩ ((.int .i64 a.x)) (by first | assumption | (show (w.heap.size + 1 + 1 + 1 + 1 : Nat) ≠ _; omega))).set_ne ⟨w.heap.size + 1 + 1 + 1 + 1, 5, none⟩ ((.int .i64 a.y)) (by first | assumption | (show (w.heap.size + 1 + 1 + 1 + 1 : Nat) ≠ _; omega)))
 have Ct : Box W10 (w.heap.size + 1 + 1 + 1 + 1) [.int .i64 c.x, .int .i64 c.y, .int .i64 b.x, .int .i64 b.y, .int .i64 a.x, .int .i64 a.y] 38 := by rw [hW]; exact ((((Bt.set 2 ((.int .i64 b.x))).set 3 ((.int .i64 b.y))).set 4 ((.int .i64 a.x))).set 5 ((.int .i64 a.y)))
 replace hw : Below w.heap.size w W10 := by have hl := hw.size; rw [hW]; go_grown
 clear Fa Fb Fc Fr Ft
 clear hW Ba Bb Bc Br Bt
 have Ba := Ca
 have Bb := Cb
 have Bc := Cc
 have Br := Cr
 have Bt := Ct
 clear Ca Cb Cc Cr Ct
 refine (cv _).mono ?_
 rintro e w11 ⟨rfl, hb⟩
 replace Ba := Ba.ee hb
 replace Bb := Bb.ee hb
 replace Bc := Bc.ee hb
 replace Br := Br.ee hb
 replace Bt := Bt.ee hb
 replace hw := upB hw hb
 clear hb
 have Fa := Ba.facts
 have Fb := Bb.facts
 have Fc := Bc.facts
 have Fr := Br.facts
 have Ft := Bt.facts
 go_wp2_with fail
 refine bodyPost_ret (v := .tuple #[.agg #[.int .i64 c.x, .int .i64 c.y, .int .i64 b.x, .int .i64 b.y, .int .i64 a.x, .int .i64 a.y], .bool true]) (by simp [results, Tryz.results78, go_sem, Fr]) rfl ⟨rfl, by have hl := hw.size; go_grown⟩
theorem tmake_p2 (a b c : Pt) (l0 : lds ⟨a, b, c⟩ = false) (l1 : lds ⟨b, c, a⟩ = false) (l2 : lds ⟨c, a, b⟩ = true) (ho : decide (ori c a b < 0) = false) (hv : valT ⟨c, a, b⟩ = true) (w : World) :
    Calls Tryz.prog 78 #[.agg #[.int .i64 a.x, .int .i64 a.y], .agg #[.int .i64 b.x, .int .i64 b.y], .agg #[.int .i64 c.x, .int .i64 c.y]] w fun e w' => e = .returned (.tuple #[.agg #[.int .i64 c.x, .int .i64 c.y, .int .i64 a.x, .int .i64 a.y, .int .i64 b.x, .int .i64 b.y], .bool true]) ∧ Below w.heap.size w w' := by
 have k0 := zAh ⟨a, b, c⟩
 rw [l0] at k0
 dsimp only at k0
 have r0 := zBb ⟨a, b, c⟩
 dsimp only at r0
 have k1 := zAh ⟨b, c, a⟩
 rw [l1] at k1
 dsimp only at k1
 have r1 := zBb ⟨b, c, a⟩
 dsimp only at r1
 have k2 := zAh ⟨c, a, b⟩
 rw [l2] at k2
 dsimp only at k2
 have co := zA7 c a b
 have cv := zB1 ⟨c, a, b⟩
 rw [hv] at cv
 dsimp only at cv
 generalize ori c a b = n at *
 clear hv l0 l1 l2
 go_enter Tryz.func78, Tryz.ntmps78
 go_wp2_with fail
 refine zA2 fun W1 hW => ?_
 have Ba : Box W1 (w.heap.size) [.int .i64 a.x, .int .i64 a.y] 30 := by rw [hW]; exact ((((Box.new rfl).old _).old _).old _).old _
 have Bb : Box W1 (w.heap.size + 1) [.int .i64 b.x, .int .i64 b.y] 30 := by rw [hW]; exact (((Box.new (by simp)).old _).old _).old _
 have Bc : Box W1 (w.heap.size + 1 + 1) [.int .i64 c.x, .int .i64 c.y] 30 := by rw [hW]; exact ((Box.new (by simp)).old _).old _
 have Br : Box W1 (w.heap.size + 1 + 1 + 1) [.int .i64 0, .int .i64 0, .int .i64 0, .int .i64 0, .int .i64 0, .int .i64 0] 38 := by rw [hW]; exact (Box.new (by simp)).old _
 have Bt : Box W1 (w.heap.size + 1 + 1 + 1 + 1) [.int .i64 a.x, .int .i64 a.y, .int .i64 b.x, .int .i64 b.y, .int .i64 c.x, .int .i64 c.y] 38 := by rw [hW]; exact Box.new (by simp)
 have hw : Below w.heap.size w W1 := by rw [hW]; go_grown
 clear hW
 refine wp_loop_rounds 4 ?_
 try rw [rounds_succ]
 have Fa := Ba.facts
 have Fb := Bb.facts
 have Fc := Bc.facts
 have Fr := Br.facts
 have Ft := Bt.facts
 go_wp2_with fail
 refine (k0 _).mono ?_
 rintro e w2 ⟨rfl, hb⟩
 clear Fa Fb Fc Fr Ft
 replace Ba := Ba.ee hb
 replace Bb := Bb.ee hb
 replace Bc := Bc.ee hb
 replace Br := Br.ee hb
 replace Bt := Bt.ee hb
 replace hw := upB hw hb
 clear hb
 have Fa := Ba.facts
 have Fb := Bb.facts
 have Fc := Bc.facts
 have Fr := Br.facts
 have Ft := Bt.facts
 go_wp2_with fail
 refine (r0 _).mono ?_
 rintro e w3 ⟨rfl, hb⟩
 clear Fa Fb Fc Fr Ft
 replace Ba := Ba.ee hb
 replace Bb := Bb.ee hb
 replace Bc := Bc.ee hb
 replace Br := Br.ee hb
 replace Bt := Bt.ee hb
 replace hw := upB hw hb
 clear hb
 have Fa := Ba.facts
 have Fb := Bb.facts
 have Fc := Bc.facts
 have Fr := Br.facts
 have Ft := Bt.facts
 go_wp2_with fail
 refine zA2 fun W4 hW => ?_
 have Ca : Box W4 (w.heap.size) [.int .i64 a.x, .int .i64 a.y] 30 := by rw [hW]; exact ((((((Ba.set_ne ⟨w.heap.size + 1 + 1 + 1 + 1, 0, none⟩ ((.int .i64 b.x)) (by first | assumption | (show w.heap.size + 1 + 1 + 1 + 1 ≠ _; omega))).set_ne ⟨w.heap.size + 1 + 1 + 1 + 1, 1, none⟩ ((.int .i64 b.y)) (by first | assumption | (show w.heap.size + 1 + 1 + 1 + 1 ≠ _; omega))).set_ne ⟨w.heap.size + 1 + 1 + 1 + 1, 2, none⟩ ((.int .i64 c.x)) (by first | assumption | (show w.heap.size + 1 + 1 + 1 + 1 ≠ _; omega))).set_ne ⟨w.heap.size + 1 + 1 + 1 + 1, 3, none⟩ ((.int .i64 c.y)) (by first | assumption | (show w.heap.size + 1 + 1 + 1 + 1 ≠ _; omega))).set_ne ⟨w.heap.size + 1 + 1 + 1 + 1, 4, none⟩ ((.int .i64 a.x)) (by first | assumption | (show w.heap.size + 1 + 1 + 1 + 1 ≠ _; omega))).set_ne ⟨w.heap.size + 1 + 1 + 1 + 1, 5, none⟩ ((.int .i64 a.y)) (by first | assumption | (show w.heap.size + 1 + 1 + 1 + 1 ≠ _; omega)))
 have Cb : Box W4 (w.heap.size + 1) [.int .i64 b.x, .int .i64 b.y] 30 := by rw [hW]; exact ((((((Bb.set_ne ⟨w.heap.size + 1 + 1 + 1 + 1, 0, none⟩ ((.int .i64 b.x)) (by first | assumption | (show w.heap.size + 1 + 1 + 1 + 1 ≠ _; omega))).set_ne ⟨w.heap.size + 1 + 1 + 1 + 1, 1, none⟩ ((.int .i64 b.y)) (by first | assumption | (show w.heap.size + 1 + 1 + 1 + 1 ≠ _; omega))).set_ne ⟨w.heap.size + 1 + 1 + 1 + 1, 2, none⟩ ((.int .i64 c.x)) (by first | assumption | (show w.heap.size + 1 + 1 + 1 + 1 ≠ _; omega))).set_ne ⟨w.heap.size + 1 + 1 + 1 + 1, 3, none⟩ ((.int .i64 c.y)) (by first | assumption | (show w.heap.size + 1 + 1 + 1 + 1 ≠ _; omega))).set_ne ⟨w.heap.size + 1 + 1 + 1 + 1, 4, none⟩ ((.int .i64 a.x)) (by first | assumption | (show w.heap.size + 1 + 1 + 1 + 1 ≠ _; omega))).set_ne ⟨w.heap.size + 1 + 1 + 1 + 1, 5, none⟩ ((.int .i64 a.y)) (by first | assumption | (show w.heap.size + 1 + 1 + 1 + 1 ≠ _; omega)))
 have Cc : Box W4 (w.heap.size + 1 + 1) [.int .i64 c.x, .int .i64 c.y] 30 := by rw [hW]; exact ((((((Bc.set_ne ⟨w.heap.size + 1 + 1 + 1 + 1, 0, none⟩ ((.int .i64 b.x)) (by first | assumption | (show w.heap.size + 1 + 1 + 1 + 1 ≠ _; omega))).set_ne ⟨w.heap.size + 1 + 1 + 1 + 1, 1, none⟩ ((.int .i64 b.y)) (by first | assumption | (show w.heap.size + 1 + 1 + 1 + 1 ≠ _; omega))).set_ne ⟨w.heap.size + 1 + 1 + 1 + 1, 2, none⟩ ((.int .i64 c.x)) (by first | assumption | (show w.heap.size + 1 + 1 + 1 + 1 ≠ _; omega))).set_ne ⟨w.heap.size + 1 + 1 + 1 + 1, 3, none⟩ ((.int .i64 c.y)) (by first | assumption | (show w.heap.size + 1 + 1 + 1 + 1 ≠ _; omega))).set_ne ⟨w.heap.size + 1 + 1 + 1 + 1, 4, none⟩ ((.int .i64 a.x)) (by first | assumption | (show w.heap.size + 1 + 1 + 1 + 1 ≠ _; omega))).set_ne ⟨w.heap.size + 1 + 1 + 1 + 1, 5, none⟩ ((.int .i64 a.y)) (by first | assumption | (show w.heap.size + 1 + 1 + 1 + 1 ≠ _; omega)))
 have Cr : Box W4 (w.heap.size + 1 + 1 + 1) [.int .i64 0, .int .i64 0, .int .i64 0, .int .i64 0, .int .i64 0, .int .i64 0] 38 := by rw [hW]; exact ((((((Br.set_ne ⟨w.heap.size + 1 + 1 + 1 + 1, 0, none⟩ ((.int .i64 b.x)) (by first | assumption | (show w.heap.size + 1 + 1 + 1 + 1 ≠ _; omega))).set_ne ⟨w.heap.size + 1 + 1 + 1 + 1, 1, none⟩ ((.int .i64 b.y)) (by first | assumption | (show w.heap.size + 1 + 1 + 1 + 1 ≠ _; omega))).set_ne ⟨w.heap.size + 1 + 1 + 1 + 1, 2, none⟩ ((.int .i64 c.x)) (by first | assumption | (show w.heap.size + 1 + 1 + 1 + 1 ≠ _; omega))).set_ne ⟨w.heap.size + 1 + 1 + 1 + 1, 3, none⟩ ((.int .i64 c.y)) (by first | assumption | (show w.heap.size + 1 + 1 + 1 + 1 ≠ _; omega))).set_ne ⟨w.heap.size + 1 + 1 + 1 + 1, 4, none⟩ ((.int .i64 a.x)) (by first | assumption | (show w.heap.size + 1 + 1 + 1 + 1 ≠ _; omega))).set_ne ⟨w.heap.size + 1 + 1 + 1 + 1, 5, none⟩ ((.int .i64 a.y)) (by first | assumption | (show w.heap.size + 1 + 1 + 1 + 1 ≠ _; omega)))
 have Ct : Box W4 (w.heap.size + 1 + 1 + 1 + 1) [(.int .i64 b.x), (.int .i64 b.y), (.int .i64 c.x), (.int .i64 c.y), (.int .i64 a.x), (.int .i64 a.y)] 38 := by rw [hW]; exact ((((((Bt.set 0 ((.int .i64 b.x))).set 1 ((.int .i64 b.y))).set 2 ((.int .i64 c.x))).set 3 ((.int .i64 c.y))).set 4 ((.int .i64 a.x))).set 5 ((.int .i64 a.y)))
 replace hw : Below w.heap.size w W4 := by have hl := hw.size; rw [hW]; go_grown
 clear Fa Fb Fc Fr Ft
 clear hW Ba Bb Bc Br Bt
 have Ba := Ca
 have Bb := Cb
 have Bc := Cc
 have Br := Cr
 have Bt := Ct
 clear Ca Cb Cc Cr Ct
 try rw [rounds_succ]
 have Fa := Ba.facts
 have Fb := Bb.facts
 have Fc := Bc.facts
 have Fr := Br.facts
 have Ft := Bt.facts
 go_wp2_with fail
 refine (k1 _).mono ?_
 rintro e w5 ⟨rfl, hb⟩
 clear Fa Fb Fc Fr Ft
 replace Ba := Ba.ee hb
 replace Bb := Bb.ee hb
 replace Bc := Bc.ee hb
 replace Br := Br.ee hb
 replace Bt := Bt.ee hb
 replace hw := upB hw hb
 clear hb
 have Fa := Ba.facts
 have Fb := Bb.facts
 have Fc := Bc.facts
 have Fr := Br.facts
 have Ft := Bt.facts
 go_wp2_with fail
 refine (r1 _).mono ?_
 rintro e w6 ⟨rfl, hb⟩
 clear Fa Fb Fc Fr Ft
 replace Ba := Ba.ee hb
 replace Bb := Bb.ee hb
 replace Bc := Bc.ee hb
 replace Br := Br.ee hb
 replace Bt := Bt.ee hb
 replace hw := upB hw hb
 clear hb
 have Fa := Ba.facts
 have Fb := Bb.facts
 have Fc := Bc.facts
 have Fr := Br.facts
 have Ft := Bt.facts
 go_wp2_with fail
 refine zA2 fun W7 hW => ?_
 have Ca : Box W7 (w.heap.size) [.int .i64 a.x, .int .i64 a.y] 30 := by rw [hW]; exact ((((((Ba.set_ne ⟨w.heap.size + 1 + 1 + 1 + 1, 0, none⟩ ((.int .i64 c.x)) (by first | assumption | (show w.heap.size + 1 + 1 + 1 + 1 ≠ _; omega))).set_ne ⟨w.heap.size + 1 + 1 + 1 + 1, 1, none⟩ ((.int .i64 c.y)) (by first | assumption | (show w.heap.size + 1 + 1 + 1 + 1 ≠ _; omega))).set_ne ⟨w.heap.size + 1 + 1 + 1 + 1, 2, none⟩ ((.int .i64 a.x)) (by first | assumption | (show w.heap.size + 1 + 1 + 1 + 1 ≠ _; omega))).set_ne ⟨w.heap.size + 1 + 1 + 1 + 1, 3, none⟩ ((.int .i64 a.y)) (by first | assumption | (show w.heap.size + 1 + 1 + 1 + 1 ≠ _; omega))).set_ne ⟨w.heap.size + 1 + 1 + 1 + 1, 4, none⟩ ((.int .i64 b.x)) (by first | assumption | (show w.heap.size + 1 + 1 + 1 + 1 ≠ _; omega))).set_ne ⟨w.heap.size + 1 + 1 + 1 + 1, 5, none⟩ ((.int .i64 b.y)) (by first | assumption | (show w.heap.size + 1 + 1 + 1 + 1 ≠ _; omega)))
 have Cb : Box W7 (w.heap.size + 1) [.int .i64 b.x, .int .i64 b.y] 30 := by rw [hW]; exact ((((((Bb.set_ne ⟨w.heap.size + 1 + 1 + 1 + 1, 0, none⟩ ((.int .i64 c.x)) (by first | assumption | (show w.heap.size + 1 + 1 + 1 + 1 ≠ _; omega))).set_ne ⟨w.heap.size + 1 + 1 + 1 + 1, 1, none⟩ ((.int .i64 c.y)) (by first | assumption | (show w.heap.size + 1 + 1 + 1 + 1 ≠ _; omega))).set_ne ⟨w.heap.size + 1 + 1 + 1 + 1, 2, none⟩ ((.int .i64 a.x)) (by first | assumption | (show w.heap.size + 1 + 1 + 1 + 1 ≠ _; omega))).set_ne ⟨w.heap.size + 1 + 1 + 1 + 1, 3, none⟩ ((.int .i64 a.y)) (by first | assumption | (show w.heap.size + 1 + 1 + 1 + 1 ≠ _; omega))).set_ne ⟨w.heap.size + 1 + 1 + 1 + 1, 4, none⟩ ((.int .i64 b.x)) (by first | assumption | (show w.heap.size + 1 + 1 + 1 + 1 ≠ _; omega))).set_ne ⟨w.heap.size + 1 + 1 + 1 + 1, 5, none⟩ ((.int .i64 b.y)) (by first | assumption | (show w.heap.size + 1 + 1 + 1 + 1 ≠ _; omega)))
 have Cc : Box W7 (w.heap.size + 1 + 1) [.int .i64 c.x, .int .i64 c.y] 30 := by rw [hW]; exact ((((((Bc.set_ne ⟨w.heap.size + 1 + 1 + 1 + 1, 0, none⟩ ((.int .i64 c.x)) (by first | assumption | (show w.heap.size + 1 + 1 + 1 + 1 ≠ _; omega))).set_ne ⟨w.heap.size + 1 + 1 + 1 + 1, 1, none⟩ ((.int .i64 c.y)) (by first | assumption | (show w.heap.size + 1 + 1 + 1 + 1 ≠ _; omega))).set_ne ⟨w.heap.size + 1 + 1 + 1 + 1, 2, none⟩ ((.int .i64 a.x)) (by first | assumption | (show w.heap.size + 1 + 1 + 1 + 1 ≠ _; omega))).set_ne ⟨w.heap.size + 1 + 1 + 1 + 1, 3, none⟩ ((.int .i64 a.y)) (by first | assumption | (show w.heap.size + 1 + 1 + 1 + 1 ≠ _; omega))).set_ne ⟨w.heap.size + 1 + 1 + 1 + 1, 4, none⟩ ((.int .i64 b.x)) (by first | assumption | (show w.heap.size + 1 + 1 + 1 + 1 ≠ _; omega))).set_ne ⟨w.heap.size + 1 + 1 + 1 + 1, 5, none⟩ ((.int .i64 b.y)) (by first | assumption | (show w.heap.size + 1 + 1 + 1 + 1 ≠ _; omega)))
 have Cr : Box W7 (w.heap.size + 1 + 1 + 1) [.int .i64 0, .int .i64 0, .int .i64 0, .int .i64 0, .int .i64 0, .int .i64 0] 38 := by rw [hW]; exact ((((((Br.set_ne ⟨w.heap.size + 1 + 1 + 1 + 1, 0, none⟩ ((.int .i64 c.x)) (by first | assumption | (show w.heap.size + 1 + 1 + 1 + 1 ≠ _; omega))).set_ne ⟨w.heap.size + 1 + 1 + 1 + 1, 1, none⟩ ((.int .i64 c.y)) (by first | assumption | (show w.heap.size + 1 + 1 + 1 + 1 ≠ _; omega))).set_ne ⟨w.heap.size + 1 + 1 + 1 + 1, 2, none⟩ ((.int .i64 a.x)) (by first | assumption | (show w.heap.size + 1 + 1 + 1 + 1 ≠ _; omega))).set_ne ⟨w.heap.size + 1 + 1 + 1 + 1, 3, none⟩ ((.int .i64 a.y)) (by first | assumption | (show w.heap.size + 1 + 1 + 1 + 1 ≠ _; omega))).set_ne ⟨w.heap.size + 1 + 1 + 1 + 1, 4, none⟩ ((.int .i64 b.x)) (by first | assumption | (show w.heap.size + 1 + 1 + 1 + 1 ≠ _; omega))).set_ne ⟨w.heap.size + 1 + 1 + 1 + 1, 5, none⟩ ((.int .i64 b.y)) (by first | assumption | (show w.heap.size + 1 + 1 + 1 + 1 ≠ _; omega)))
 have Ct : Box W7 (w.heap.size + 1 + 1 + 1 + 1) [(.int .i64 c.x), (.int .i64 c.y), (.int .i64 a.x), (.int .i64 a.y), (.int .i64 b.x), (.int .i64 b.y)] 38 := by rw [hW]; exact ((((((Bt.set 0 ((.int .i64 c.x))).set 1 ((.int .i64 c.y))).set 2 ((.int .i64 a.x))).set 3 ((.int .i64 a.y))).set 4 ((.int .i64 b.x))).set 5 ((.int .i64 b.y)))
 replace hw : Below w.heap.size w W7 := by have hl := hw.size; rw [hW]; go_grown
 clear Fa Fb Fc Fr Ft
 clear hW Ba Bb Bc Br Bt
 have Ba := Ca
 have Bb := Cb
 have Bc := Cc
 have Br := Cr
 have Bt := Ct
 clear Ca Cb Cc Cr Ct
 try rw [rounds_succ]
 have Fa := Ba.facts
 have Fb := Bb.facts
 have Fc := Bc.facts
 have Fr := Br.facts
 have Ft := Bt.facts
 go_wp2_with fail
 refine (k2 _).mono ?_
 rintro e w8 ⟨rfl, hb⟩
 clear Fa Fb Fc Fr Ft
 replace Ba := Ba.ee hb
 replace Bb := Bb.ee hb
 replace Bc := Bc.ee hb
 replace Br := Br.ee hb
 replace Bt := Bt.ee hb
 replace hw := upB hw hb
 clear hb
 have Fa := Ba.facts
 have Fb := Bb.facts
 have Fc := Bc.facts
 have Fr := Br.facts
 have Ft := Bt.facts
 go_wp2_with fail
 refine (co _).mono ?_
 rintro e w9 ⟨rfl, hb⟩
 clear Fa Fb Fc Fr Ft
 replace Ba := Ba.ee hb
 replace Bb := Bb.ee hb
 replace Bc := Bc.ee hb
 replace Br := Br.ee hb
 replace Bt := Bt.ee hb
 replace hw := upB hw hb
 clear hb
 have Fa := Ba.facts
 have Fb := Bb.facts
 have Fc := Bc.facts
 have Fr := Br.facts
 have Ft := Bt.facts
 go_wp2_with fail
 refine (cv _).mono ?_
 rintro e w10 ⟨rfl, hb⟩
 clear Fa Fb Fc Fr Ft
 replace Ba := Ba.ee hb
 replace Bb := Bb.ee hb
 replace Bc := Bc.ee hb
 replace Br := Br.ee hb
 replace Bt := Bt.ee hb
 replace hw := upB hw hb
 clear hb
 have Fa := Ba.facts
 have Fb := Bb.facts
 have Fc := Bc.facts
 have Fr := Br.facts
 have Ft := Bt.facts
 go_wp2_with fail
 refine bodyPost_ret (v := .tuple #[.agg #[.int .i64 c.x, .int .i64 c.y, .int .i64 a.x, .int .i64 a.y, .int .i64 b.x, .int .i64 b.y], .bool true]) (by simp [results, Tryz.results78, go_sem, Fr]) rfl ⟨rfl, by have hl := hw.size; go_grown⟩
theorem tmake_z2 (a b c : Pt) (l0 : lds ⟨a, b, c⟩ = false) (l1 : lds ⟨b, c, a⟩ = false) (l2 : lds ⟨c, a, b⟩ = true) (ho : decide (ori c a b < 0) = false) (hv : valT ⟨c, a, b⟩ = false) (w : World) :
    Calls Tryz.prog 78 #[.agg #[.int .i64 a.x, .int .i64 a.y], .agg #[.int .i64 b.x, .int .i64 b.y], .agg #[.int .i64 c.x, .int .i64 c.y]] w fun e w' => e = .returned (.tuple #[.agg #[.int .i64 0, .int .i64 0, .int .i64 0, .int .i64 0, .int .i64 0, .int .i64 0], .bool false]) ∧ Below w.heap.size w w' := by
 have k0 := zAh ⟨a, b, c⟩
 rw [l0] at k0
 dsimp only at k0
 have r0 := zBb ⟨a, b, c⟩
 dsimp only at r0
 have k1 := zAh ⟨b, c, a⟩
 rw [l1] at k1
 dsimp only at k1
 have r1 := zBb ⟨b, c, a⟩
 dsimp only at r1
 have k2 := zAh ⟨c, a, b⟩
 rw [l2] at k2
 dsimp only at k2
 have co := zA7 c a b
 have cv := zB1 ⟨c, a, b⟩
 rw [hv] at cv
 dsimp only at cv
 generalize ori c a b = n at *
 clear hv l0 l1 l2
 go_enter Tryz.func78, Tryz.ntmps78
 go_wp2_with fail
 refine zA2 fun W1 hW => ?_
 have Ba : Box W1 (w.heap.size) [.int .i64 a.x, .int .i64 a.y] 30 := by rw [hW]; exact ((((Box.new rfl).old _).old _).old _).old _
 have Bb : Box W1 (w.heap.size + 1) [.int .i64 b.x, .int .i64 b.y] 30 := by rw [hW]; exact (((Box.new (by simp)).old _).old _).old _
 have Bc : Box W1 (w.heap.size + 1 + 1) [.int .i64 c.x, .int .i64 c.y] 30 := by rw [hW]; exact ((Box.new (by simp)).old _).old _
 have Br : Box W1 (w.heap.size + 1 + 1 + 1) [.int .i64 0, .int .i64 0, .int .i64 0, .int .i64 0, .int .i64 0, .int .i64 0] 38 := by rw [hW]; exact (Box.new (by simp)).old _
 have Bt : Box W1 (w.heap.size + 1 + 1 + 1 + 1) [.int .i64 a.x, .int .i64 a.y, .int .i64 b.x, .int .i64 b.y, .int .i64 c.x, .int .i64 c.y] 38 := by rw [hW]; exact Box.new (by simp)
 have hw : Below w.heap.size w W1 := by rw [hW]; go_grown
 clear hW
 refine wp_loop_rounds 4 ?_
 try rw [rounds_succ]
 have Fa := Ba.facts
 have Fb := Bb.facts
 have Fc := Bc.facts
 have Fr := Br.facts
 have Ft := Bt.facts
 go_wp2_with fail
 refine (k0 _).mono ?_
 rintro e w2 ⟨rfl, hb⟩
 clear Fa Fb Fc Fr Ft
 replace Ba := Ba.ee hb
 replace Bb := Bb.ee hb
 replace Bc := Bc.ee hb
 replace Br := Br.ee hb
 replace Bt := Bt.ee hb
 replace hw := upB hw hb
 clear hb
 have Fa := Ba.facts
 have Fb := Bb.facts
 have Fc := Bc.facts
 have Fr := Br.facts
 have Ft := Bt.facts
 go_wp2_with fail
 refine (r0 _).mono ?_
 rintro e w3 ⟨rfl, hb⟩
 clear Fa Fb Fc Fr Ft
 replace Ba := Ba.ee hb
 replace Bb := Bb.ee hb
 replace Bc := Bc.ee hb
 replace Br := Br.ee hb
 replace Bt := Bt.ee hb
 replace hw := upB hw hb
 clear hb
 have Fa := Ba.facts
 have Fb := Bb.facts
 have Fc := Bc.facts
 have Fr := Br.facts
 have Ft := Bt.facts
 go_wp2_with fail
 refine zA2 fun W4 hW => ?_
 have Ca : Box W4 (w.heap.size) [.int .i64 a.x, .int .i64 a.y] 30 := by rw [hW]; exact ((((((Ba.set_ne ⟨w.heap.size + 1 + 1 + 1 + 1, 0, none⟩ ((.int .i64 b.x)) (by first | assumption | (show w.heap.size + 1 + 1 + 1 + 1 ≠ _; omega))).set_ne ⟨w.heap.size + 1 + 1 + 1 + 1, 1, none⟩ ((.int .i64 b.y)) (by first | assumption | (show w.heap.size + 1 + 1 + 1 + 1 ≠ _; omega))).set_ne ⟨w.heap.size + 1 + 1 + 1 + 1, 2, none⟩ ((.int .i64 c.x)) (by first | assumption | (show w.heap.size + 1 + 1 + 1 + 1 ≠ _; omega))).set_ne ⟨w.heap.size + 1 + 1 + 1 + 1, 3, none⟩ ((.int .i64 c.y)) (by first | assumption | (show w.heap.size + 1 + 1 + 1 + 1 ≠ _; omega))).set_ne ⟨w.heap.size + 1 + 1 + 1 + 1, 4, none⟩ ((.int .i64 a.x)) (by first | assumption | (show w.heap.size + 1 + 1 + 1 + 1 ≠ _; omega))).set_ne ⟨w.heap.size + 1 + 1 + 1 + 1, 5, none⟩ ((.int .i64 a.y)) (by first | assumption | (show w.heap.size + 1 + 1 + 1 + 1 ≠ _; omega)))
 have Cb : Box W4 (w.heap.size + 1) [.int .i64 b.x, .int .i64 b.y] 30 := by rw [hW]; exact ((((((Bb.set_ne ⟨w.heap.size + 1 + 1 + 1 + 1, 0, none⟩ ((.int .i64 b.x)) (by first | assumption | (show w.heap.size + 1 + 1 + 1 + 1 ≠ _; omega))).set_ne ⟨w.heap.size + 1 + 1 + 1 + 1, 1, none⟩ ((.int .i64 b.y)) (by first | assumption | (show w.heap.size + 1 + 1 + 1 + 1 ≠ _; omega))).set_ne ⟨w.heap.size + 1 + 1 + 1 + 1, 2, none⟩ ((.int .i64 c.x)) (by first | assumption | (show w.heap.size + 1 + 1 + 1 + 1 ≠ _; omega))).set_ne ⟨w.heap.size + 1 + 1 + 1 + 1, 3, none⟩ ((.int .i64 c.y)) (by first | assumption | (show w.heap.size + 1 + 1 + 1 + 1 ≠ _; omega))).set_ne ⟨w.heap.size + 1 + 1 + 1 + 1, 4, none⟩ ((.int .i64 a.x)) (by first | assumption | (show w.heap.size + 1 + 1 + 1 + 1 ≠ _; omega))).set_ne ⟨w.heap.size + 1 + 1 + 1 + 1, 5, none⟩ ((.int .i64 a.y)) (by first | assumption | (show w.heap.size + 1 + 1 + 1 + 1 ≠ _; omega)))
 have Cc : Box W4 (w.heap.size + 1 + 1) [.int .i64 c.x, .int .i64 c.y] 30 := by rw [hW]; exact ((((((Bc.set_ne ⟨w.heap.size + 1 + 1 + 1 + 1, 0, none⟩ ((.int .i64 b.x)) (by first | assumption | (show w.heap.size + 1 + 1 + 1 + 1 ≠ _; omega))).set_ne ⟨w.heap.size + 1 + 1 + 1 + 1, 1, none⟩ ((.int .i64 b.y)) (by first | assumption | (show w.heap.size + 1 + 1 + 1 + 1 ≠ _; omega))).set_ne ⟨w.heap.size + 1 + 1 + 1 + 1, 2, none⟩ ((.int .i64 c.x)) (by first | assumption | (show w.heap.size + 1 + 1 + 1 + 1 ≠ _; omega))).set_ne ⟨w.heap.size + 1 + 1 + 1 + 1, 3, none⟩ ((.int .i64 c.y)) (by first | assumption | (show w.heap.size + 1 + 1 + 1 + 1 ≠ _; omega))).set_ne ⟨w.heap.size + 1 + 1 + 1 + 1, 4, none⟩ ((.int .i64 a.x)) (by first | assumption | (show w.heap.size + 1 + 1 + 1 + 1 ≠ _; omega))).set_ne ⟨w.heap.size + 1 + 1 + 1 + 1, 5, none⟩ ((.int .i64 a.y)) (by first | assumption | (show w.heap.size + 1 + 1 + 1 + 1 ≠ _; omega)))
 have Cr : Box W4 (w.heap.size + 1 + 1 + 1) [.int .i64 0, .int .i64 0, .int .i64 0, .int .i64 0, .int .i64 0, .int .i64 0] 38 := by rw [hW]; exact ((((((Br.set_ne ⟨w.heap.size + 1 + 1 + 1 + 1, 0, none⟩ ((.int .i64 b.x)) (by first | assumption | (show w.heap.size + 1 + 1 + 1 + 1 ≠ _; omega))).set_ne ⟨w.heap.size + 1 + 1 + 1 + 1, 1, none⟩ ((.int .i64 b.y)) (by first | assumption | (show w.heap.size + 1 + 1 + 1 + 1 ≠ _; omega))).set_ne ⟨w.heap.size + 1 + 1 + 1 + 1, 2, none⟩ ((.int .i64 c.x)) (by first | assumption | (show w.heap.size + 1 + 1 + 1 + 1 ≠ _; omega))).set_ne ⟨w.heap.size + 1 + 1 + 1 + 1, 3, none⟩ ((.int .i64 c.y)) (by first | assumption | (show w.heap.size + 1 + 1 + 1 + 1 ≠ _; omega))).set_ne ⟨w.heap.size + 1 + 1 + 1 + 1, 4, none⟩ ((.int .i64 a.x)) (by first | assumption | (show w.heap.size + 1 + 1 + 1 + 1 ≠ _; omega))).set_ne ⟨w.heap.size + 1 + 1 + 1 + 1, 5, none⟩ ((.int .i64 a.y)) (by first | assumption | (show w.heap.size + 1 + 1 + 1 + 1 ≠ _; omega)))
 have Ct : Box W4 (w.heap.size + 1 + 1 + 1 + 1) [(.int .i64 b.x), (.int .i64 b.y), (.int .i64 c.x), (.int .i64 c.y), (.int .i64 a.x), (.int .i64 a.y)] 38 := by rw [hW]; exact ((((((Bt.set 0 ((.int .i64 b.x))).set 1 ((.int .i64 b.y))).set 2 ((.int .i64 c.x))).set 3 ((.int .i64 c.y))).set 4 ((.int .i64 a.x))).set 5 ((.int .i64 a.y)))
 replace hw : Below w.heap.size w W4 := by have hl := hw.size; rw [hW]; go_grown
 clear Fa Fb Fc Fr Ft
 clear hW Ba Bb Bc Br Bt
 have Ba := Ca
 have Bb := Cb
 have Bc := Cc
 have Br := Cr
 have Bt := Ct
 clear Ca Cb Cc Cr Ct
 try rw [rounds_succ]
 have Fa := Ba.facts
 have Fb := Bb.facts
 have Fc := Bc.facts
 have Fr := Br.facts
 have Ft := Bt.facts
 go_wp2_with fail
 refine (k1 _).mono ?_
 rintro e w5 ⟨rfl, hb⟩
 clear Fa Fb Fc Fr Ft
 replace Ba := Ba.ee hb
 replace Bb := Bb.ee hb
 replace Bc := Bc.ee hb
 replace Br := Br.ee hb
 replace Bt := Bt.ee hb
 replace hw := upB hw hb
 clear hb
 have Fa := Ba.facts
 have Fb := Bb.facts
 have Fc := Bc.facts
 have Fr := Br.facts
 have Ft := Bt.facts
 go_wp2_with fail
 refine (r1 _).mono ?_
 rintro e w6 ⟨rfl, hb⟩
 clear Fa Fb Fc Fr Ft
 replace Ba := Ba.ee hb
 replace Bb := Bb.ee hb
 replace Bc := Bc.ee hb
 replace Br := Br.ee hb
 replace Bt := Bt.ee hb
 replace hw := upB hw hb
 clear hb
 have Fa := Ba.facts
 have Fb := Bb.facts
 have Fc := Bc.facts
 have Fr := Br.facts
 have Ft := Bt.facts
 go_wp2_with fail
 refine zA2 fun W7 hW => ?_
 have Ca : Box W7 (w.heap.size) [.int .i64 a.x, .int .i64 a.y] 30 := by rw [hW]; exact ((((((Ba.set_ne ⟨w.heap.size + 1 + 1 + 1 + 1, 0, none⟩ ((.int .i64 c.x)) (by first | assumption | (show w.heap.size + 1 + 1 + 1 + 1 ≠ _; omega))).set_ne ⟨w.heap.size + 1 + 1 + 1 + 1, 1, none⟩ ((.int .i64 c.y)) (by first | assumption | (show w.heap.size + 1 + 1 + 1 + 1 ≠ _; omega))).set_ne ⟨w.heap.size + 1 + 1 + 1 + 1, 2, none⟩ ((.int .i64 a.x)) (by first | assumption | (show w.heap.size + 1 + 1 + 1 + 1 ≠ _; omega))).set_ne ⟨w.heap.size + 1 + 1 + 1 + 1, 3, none⟩ ((.int .i64 a.y)) (by first | assumption | (show w.heap.size + 1 + 1 + 1 + 1 ≠ _; omega))).set_ne ⟨w.heap.size + 1 + 1 + 1 + 1, 4, none⟩ ((.int .i64 b.x)) (by first | assumption | (show w.heap.size + 1 + 1 + 1 + 1 ≠ _; omega))).set_ne ⟨w.heap.size + 1 + 1 + 1 + 1, 5, none⟩ ((.int .i64 b.y)) (by first | assumption | (show w.heap.size + 1 + 1 + 1 + 1 ≠ _; omega)))
 have Cb : Box W7 (w.heap.size + 1) [.int .i64 b.x, .int .i64 b.y] 30 := by rw [hW]; exact ((((((Bb.set_ne ⟨w.heap.size + 1 + 1 + 1 + 1, 0, none⟩ ((.int .i64 c.x)) (by first | assumption | (show w.heap.size + 1 + 1 + 1 + 1 ≠ _; omega))).set_ne ⟨w.heap.size + 1 + 1 + 1 + 1, 1, none⟩ ((.int .i64 c.y)) (by first | assumption | (show w.heap.size + 1 + 1 + 1 + 1 ≠ _; omega))).set_ne ⟨w.heap.size + 1 + 1 + 1 + 1, 2, none⟩ ((.int .i64 a.x)) (by first | assumption | (show w.heap.size + 1 + 1 + 1 + 1 ≠ _; omega))).set_ne ⟨w.heap.size + 1 + 1 + 1 + 1, 3, none⟩ ((.int .i64 a.y)) (by first | assumption | (show w.heap.size + 1 + 1 + 1 + 1 ≠ _; omega))).set_ne ⟨w.heap.size + 1 + 1 + 1 + 1, 4, none⟩ ((.int .i64 b.x)) (by first | assumption | (show w.heap.size + 1 + 1 + 1 + 1 ≠ _; omega))).set_ne ⟨w.heap.size + 1 + 1 + 1 + 1, 5, none⟩ ((.int .i64 b.y)) (by first | assumption | (show w.heap.size + 1 + 1 + 1 + 1 ≠ _; omega)))
 have Cc : Box W7 (w.heap.size + 1 + 1) [.int .i64 c.x, .int .i64 c.y] 30 := by rw [hW]; exact ((((((Bc.set_ne ⟨w.heap.size + 1 + 1 + 1 + 1, 0, none⟩ ((.int .i64 c.x)) (by first | assumption | (show w.heap.size + 1 + 1 + 1 + 1 ≠ _; omega))).set_ne ⟨w.heap.size + 1 + 1 + 1 + 1, 1, none⟩ ((.int .i64 c.y)) (by first | assumption | (show w.heap.size + 1 + 1 + 1 + 1 ≠ _; omega))).set_ne ⟨w.heap.size + 1 + 1 + 1 + 1, 2, none⟩ ((.int .i64 a.x)) (by first | assumption | (show w.heap.size + 1 + 1 + 1 + 1 ≠ _; omega))).set_ne ⟨w.heap.size + 1 + 1 + 1 + 1, 3, none⟩ ((.int .i64 a.y)) (by first | assumption | (show w.heap.size + 1 + 1 + 1 + 1 ≠ _; omega))).set_ne ⟨w.heap.size + 1 + 1 + 1 + 1, 4, none⟩ ((.int .i64 b.x)) (by first | assumption | (show w.heap.size + 1 + 1 + 1 + 1 ≠ _; omega))).set_ne ⟨w.heap.size + 1 + 1 + 1 + 1, 5, none⟩ ((.int .i64 b.y)) (by first | assumption | (show w.heap.size + 1 + 1 + 1 + 1 ≠ _; omega)))
 have Cr : Box W7 (w.heap.size + 1 + 1 + 1) [.int .i64 0, .int .i64 0, .int .i64 0, .int .i64 0, .int .i64 0, .int .i64 0] 38 := by rw [hW]; exact ((((((Br.set_ne ⟨w.heap.size + 1 + 1 + 1 + 1, 0, none⟩ ((.int .i64 c.x)) (by first | assumption | (show w.heap.size + 1 + 1 + 1 + 1 ≠ _; omega))).set_ne ⟨w.heap.size + 1 + 1 + 1 + 1, 1, none⟩ ((.int .i64 c.y)) (by first | assumption | (show w.heap.size + 1 + 1 + 1 + 1 ≠ _; omega))).set_ne ⟨w.heap.size + 1 + 1 + 1 + 1, 2, none⟩ ((.int .i64 a.x)) (by first | assumption | (show w.heap.size + 1 + 1 + 1 + 1 ≠ _; omega))).set_ne ⟨w.heap.size + 1 + 1 + 1 + 1, 3, none⟩ ((.int .i64 a.y)) (by first | assumption | (show w.heap.size + 1 + 1 + 1 + 1 ≠ _; omega))).set_ne ⟨w.heap.size + 1 + 1 + 1 + 1, 4, none⟩ ((.int .i64 b.x)) (by first | assumption | (show w.heap.size + 1 + 1 + 1 + 1 ≠ _; omega))).set_ne ⟨w.heap.size + 1 + 1 + 1 + 1, 5, none⟩ ((.int .i64 b.y)) (by first | assumption | (show w.heap.size + 1 + 1 + 1 + 1 ≠ _; omega)))
 have Ct : Box W7 (w.heap.size + 1 + 1 + 1 + 1) [(.int .i64 c.x), (.int .i64 c.y), (.int .i64 a.x), (.int .i64 a.y), (.int .i64 b.x), (.int .i64 b.y)] 38 := by rw [hW]; exact ((((((Bt.set 0 ((.int .i64 c.x))).set 1 ((.int .i64 c.y))).set 2 ((.int .i64 a.x))).set 3 ((.int .i64 a.y))).set 4 ((.int .i64 b.x))).set 5 ((.int .i64 b.y)))
 replace hw : Below w.heap.size w W7 := by have hl := hw.size; rw [hW]; go_grown
 clear Fa Fb Fc Fr Ft
 clear hW Ba Bb Bc Br Bt
 have Ba := Ca
 have Bb := Cb
 have Bc := Cc
 have Br := Cr
 have Bt := Ct
 clear Ca Cb Cc Cr Ct
 try rw [rounds_succ]
 have Fa := Ba.facts
 have Fb := Bb.facts
 have Fc := Bc.facts
 have Fr := Br.facts
 have Ft := Bt.facts
 go_wp2_with fail
 refine (k2 _).mono ?_
 rintro e w8 ⟨rfl, hb⟩
 clear Fa Fb Fc Fr Ft
 replace Ba := Ba.ee hb
 replace Bb := Bb.ee hb
 replace Bc := Bc.ee hb
 replace Br := Br.ee hb
 replace Bt := Bt.ee hb
 replace hw := upB hw hb
 clear hb
 have Fa := Ba.facts
 have Fb := Bb.facts
 have Fc := Bc.facts
 have Fr := Br.facts
 have Ft := Bt.facts
 go_wp2_with fail
 refine (co _).mono ?_
 rintro e w9 ⟨rfl, hb⟩
 clear Fa Fb Fc Fr Ft
 replace Ba := Ba.ee hb
 replace Bb := Bb.ee hb
 replace Bc := Bc.ee hb
 replace Br := Br.ee hb
 replace Bt := Bt.ee hb
 replace hw := upB hw hb
 clear hb
 have Fa := Ba.facts
 have Fb := Bb.facts
 have Fc := Bc.facts
 have Fr := Br.facts
 have Ft := Bt.facts
 go_wp2_with fail
 refine (cv _).mono ?_
 rintro e w10 ⟨rfl, hb⟩
 clear Fa Fb Fc Fr Ft
 replace Ba := Ba.ee hb
 replace Bb := Bb.ee hb
 replace Bc := Bc.ee hb
 replace Br := Br.ee hb
 replace Bt := Bt.ee hb
 replace hw := upB hw hb
 clear hb
 have Fa := Ba.facts
 have Fb := Bb.facts
 have Fc := Bc.facts
 have Fr := Br.facts
 have Ft := Bt.facts
 go_wp2_with fail
 refine bodyPost_ret (v := .tuple #[.agg #[.int .i64 0, .int .i64 0, .int .i64 0, .int .i64 0, .int .i64 0, .int .i64 0], .bool false]) (by simp [results, Tryz.results78, go_sem, Fr]) rfl ⟨rfl, by have hl := hw.size; go_grown⟩
end Go.Proofs.YtmobnmjjmafibaaGreat
namespace Go.Proofs.YtmobnmjjmafibaaGreat
open Go.RowKit Go.Sort
attribute [local go_sem] rOper rAt rUpon cell_set sg_i64 sg_u64 alloc_cell alloc_frozen
attribute [local go_sem 10000] pt_eql pt_neq
attribute [local irreducible] rWalk
theorem zJh {p q : Pt} : leq p q = true ↔ p.x < q.x ∨ (p.x = q.x ∧ p.y ≤ q.y) := by
 unfold leq cmpP cmpN sgn
 rw [decide_eq_true_eq]
 (repeat' split) <;> omega
theorem zJi {T : Tri3} : lds T = true ↔ (T.A.x < T.B.x ∨ (T.A.x = T.B.x ∧ T.A.y ≤ T.B.y)) ∧ (T.A.x < T.C.x ∨ (T.A.x = T.C.x ∧ T.A.y ≤ T.C.y)) := by
 unfold lds; rw [Bool.and_eq_true, zJh, zJh]
theorem lead_some (a b c : Pt) (h1 : lds ⟨a, b, c⟩ = false) (h2 : lds ⟨b, c, a⟩ = false) : lds ⟨c, a, b⟩ = true := by
 rw [← Bool.not_eq_true, zJi] at h1 h2
 rw [zJi]
 simp only at h1 h2 ⊢
 omega
theorem zJf {x y z : Pt} (hx : vld x = true) (hy : vld y = true) (hz : vld z = true) (n1 : key x ≠ key y) (n2 : key x ≠ key z) (n3 : key y ≠ key z) : mkT y z x = mkT x y z := by
 rcases zDg hx hy hz n1 n2 n3 with ⟨u1, u2, e⟩ | ⟨u1, u2, e⟩ | ⟨u1, u2, e⟩ <;> rcases zDg hy hz hx n3 n1.symm n2.symm with ⟨v1, v2, f⟩ | ⟨v1, v2, f⟩ | ⟨v1, v2, f⟩ <;> first | (exfalso; omega) | rw [e, f]
theorem zIi {a b c : Pt} (h : ori a b c = 0) : mk a b c = ⟨⟨0, 0⟩, ⟨0, 0⟩, ⟨0, 0⟩⟩ := by unfold mk; rw [if_pos h]
theorem zIj {a b c : Pt} (h0 : ¬ ori a b c = 0) : vld a = true ∧ vld b = true ∧ vld c = true ∧ key a ≠ key b ∧ key a ≠ key c ∧ key b ≠ key c := by
 obtain ⟨va, vb, vc⟩ := zC8 h0
 obtain ⟨d1, d2, d3⟩ := zB3 h0
 exact ⟨va, vb, vc, fun h => d1 (zBr va vb h).symm, fun h => d2 (zBr va vc h).symm, fun h => d3 (zBr vb vc h).symm⟩
theorem zJ6 (a b c : Pt) : mk b c a = mk a b c := by
 by_cases h0 : ori a b c = 0
 ·rw [zIi h0, zIi (by rw [zB6]; exact h0)]
 ·obtain ⟨va, vb, vc, n1, n2, n3⟩ := zIj h0
  unfold mk
  rw [zB6, if_neg h0, if_neg h0, zJf va vb vc n1 n2 n3, zJf vb va vc n1.symm n3 n2]
theorem mk_swap (a b c : Pt) : mk a c b = mk a b c := by
 have hb := zBv a b c
 unfold mk
 rw [zDf]
 by_cases h0 : ori a b c = 0
 ·simp [h0]
 ·rw [if_neg h0, if_neg (by omega)]
  by_cases h1 : ori a b c = 1
  ·rw [if_pos h1, if_neg (by omega)]
  ·rw [if_neg h1, if_pos (by omega)]
theorem val_mk {x y z : Pt} (h : valT ⟨x, y, z⟩ = true) : mk x y z = ⟨x, y, z⟩ := by
 unfold valT at h
 simp only [Bool.and_eq_true, zEz] at h
 exact h.2
theorem val_of {x y z : Pt} (ho : 0 < ori x y z) (hl : lds ⟨x, y, z⟩ = true) : valT ⟨x, y, z⟩ = true := by
 rw [zHz]; unfold valS; simp [ho, hl]
theorem val_none {x y z : Pt} (ho : ori x y z = 0) : valT ⟨x, y, z⟩ = false := by
 rw [zHz]; unfold valS; simp [ho]
theorem lds_swap {x y z : Pt} (hl : lds ⟨x, y, z⟩ = true) : lds ⟨x, z, y⟩ = true := by
 unfold lds at hl ⊢; simp only at hl ⊢; rw [Bool.and_comm]; exact hl
theorem ori_swap2' (x y z : Pt) : ori x z y = -ori x y z := zDf x y z
theorem zH2 (a b c : Pt) (w : World) :
    Calls Tryz.prog 78 #[.agg #[.int .i64 a.x, .int .i64 a.y], .agg #[.int .i64 b.x, .int .i64 b.y], .agg #[.int .i64 c.x, .int .i64 c.y]] w fun e w' => e = .returned (.tuple #[.agg #[.int .i64 (mk a b c).A.x, .int .i64 (mk a b c).A.y, .int .i64 (mk a b c).B.x, .int .i64 (mk a b c).B.y, .int .i64 (mk a b c).C.x, .int .i64 (mk a b c).C.y], .bool (!decide (ori a b c = 0))]) ∧ Below w.heap.size w w' := by
 have main : ∀ {x y z : Pt}, ori x y z = ori a b c → mk x y z = mk a b c → lds ⟨x, y, z⟩ = true →
     (ori x y z = 0 ∧ decide (ori x y z < 0) = false ∧ valT ⟨x, y, z⟩ = false ∧ mk a b c = ⟨⟨0, 0⟩, ⟨0, 0⟩, ⟨0, 0⟩⟩ ∧ (!decide (ori a b c = 0)) = false) ∨
     (decide (ori x y z < 0) = false ∧ valT ⟨x, y, z⟩ = true ∧ mk a b c = ⟨x, y, z⟩ ∧ (!decide (ori a b c = 0)) = true) ∨
     (decide (ori x y z < 0) = true ∧ valT ⟨x, z, y⟩ = true ∧ mk a b c = ⟨x, z, y⟩ ∧ (!decide (ori a b c = 0)) = true) := by
  intro x y z e1 e2 hl
  by_cases h0 : ori x y z = 0
  ·left
   exact ⟨h0, by simp [h0], val_none h0, by rw [← e2]; exact zIi h0, by rw [← e1]; simp [h0]⟩
  ·right
   by_cases h1 : ori x y z < 0
   ·right
    have hv : valT ⟨x, z, y⟩ = true := val_of (by rw [ori_swap2']; omega) (lds_swap hl)
    exact ⟨by simp [h1], hv, by rw [← e2, ← mk_swap]; exact val_mk hv, by rw [← e1]; simp [h0]⟩
   ·left
    have hv : valT ⟨x, y, z⟩ = true := val_of (by omega) hl
    exact ⟨by simp; omega, hv, by rw [← e2]; exact val_mk hv, by rw [← e1]; simp [h0]⟩
 cases l0 : lds ⟨a, b, c⟩ with
 | true =>
  rcases main (x := a) (y := b) (z := c) rfl rfl l0 with ⟨_, p, q, e, f⟩ | ⟨p, q, e, f⟩ | ⟨p, q, e, f⟩ <;> rw [e, f]
  ·exact tmake_z0 a b c l0 p q w
  ·exact tmake_p0 a b c l0 p q w
  ·exact tmake_n0 a b c l0 p q w
 | false => cases l1 : lds ⟨b, c, a⟩ with
  | true =>
   rcases main (x := b) (y := c) (z := a) (zB6 a b c) (zJ6 a b c) l1 with ⟨_, p, q, e, f⟩ | ⟨p, q, e, f⟩ | ⟨p, q, e, f⟩ <;> rw [e, f]
   ·exact tmake_z1 a b c l0 l1 p q w
   ·exact tmake_p1 a b c l0 l1 p q w
   ·exact tmake_n1 a b c l0 l1 p q w
  | false =>
   have l2 := lead_some a b c l0 l1
   rcases main (x := c) (y := a) (z := b) (by rw [zB6, zB6]) (by rw [zJ6, zJ6]) l2 with ⟨_, p, q, e, f⟩ | ⟨p, q, e, f⟩ | ⟨p, q, e, f⟩ <;> rw [e, f]
   ·exact tmake_z2 a b c l0 l1 l2 p q w
   ·exact tmake_p2 a b c l0 l1 l2 p q w
   ·exact tmake_n2 a b c l0 l1 l2 p q w
end Go.Proofs.YtmobnmjjmafibaaGreat
namespace Go.Proofs.YtmobnmjjmafibaaGreat
open Go.RowKit
theorem mk_ok {a b c : Pt} (h0 : ¬ ori a b c = 0) : valT (mk a b c) = true ∧
    (mk a b c = ⟨a, b, c⟩ ∨ mk a b c = ⟨b, c, a⟩ ∨ mk a b c = ⟨c, a, b⟩ ∨ mk a b c = ⟨a, c, b⟩ ∨ mk a b c = ⟨c, b, a⟩ ∨ mk a b c = ⟨b, a, c⟩) := by
 obtain ⟨va, vb, vc, n1, n2, n3⟩ := zIj h0
 have hb := zBv a b c
 rw [zHz]; unfold valS lds
 by_cases h1 : ori a b c = 1
 ·have e0 : mk a b c = mkT a b c := by unfold mk; rw [if_neg h0, if_pos h1]
  rw [e0]
  rcases zDg va vb vc n1 n2 n3 with ⟨x1, x2, e⟩ | ⟨x1, x2, e⟩ | ⟨x1, x2, e⟩ <;> rw [e] <;> simp only
  ·rw [zBs va vb, zBs va vc]; refine ⟨?_, by simp⟩; simp only [Bool.and_eq_true, decide_eq_true_eq]; omega
  ·rw [zB6, zBs vb vc, zBs vb va]; refine ⟨?_, by simp⟩; simp only [Bool.and_eq_true, decide_eq_true_eq]; omega
  ·rw [zB6, zB6, zBs vc va, zBs vc vb]; refine ⟨?_, by simp⟩; simp only [Bool.and_eq_true, decide_eq_true_eq]; omega
 ·have e0 : mk a b c = mkT a c b := by unfold mk; rw [if_neg h0, if_neg h1]
  have h2 : ori a c b = 1 := by rw [zDf]; omega
  rw [e0]
  rcases zDg va vc vb n2 n1 n3.symm with ⟨x1, x2, e⟩ | ⟨x1, x2, e⟩ | ⟨x1, x2, e⟩ <;> rw [e] <;> simp only
  ·rw [zBs va vb, zBs va vc]; refine ⟨?_, by simp⟩; simp only [Bool.and_eq_true, decide_eq_true_eq]; omega
  ·rw [zB6, zBs vc vb, zBs vc va]; refine ⟨?_, by simp⟩; simp only [Bool.and_eq_true, decide_eq_true_eq]; omega
  ·rw [zB6, zB6, zBs vb va, zBs vb vc]; refine ⟨?_, by simp⟩; simp only [Bool.and_eq_true, decide_eq_true_eq]; omega
theorem zH1 {T : Tri3} (h : valT T = true) : vld T.A = true ∧ vld T.B = true ∧ vld T.C = true ∧ 0 < det T.A T.B T.C := by
 obtain ⟨va, vb, vc⟩ := valT_vld h
 rw [zHz] at h
 unfold valS at h
 simp only [Bool.and_eq_true, decide_eq_true_eq] at h
 have h1 := h.1
 rw [ori_v va vb vc] at h1
 have := zAs (det T.A T.B T.C)
 exact ⟨va, vb, vc, by omega⟩
theorem zDm (a b c p : Pt) : det a b p + det b c p + det c a p = det a b c := by unfold det; grind
theorem corner0 {a b c : Pt} (p : Pt) (hD : 0 < det a b c) : p = a ↔ det a b p = 0 ∧ det c a p = 0 := by
 constructor
 ·intro h; subst h; constructor <;> (unfold det; grind)
 ·intro ⟨h1, h2⟩
  have e1 : det a b c * (p.x - a.x) = det c a p * (b.x - a.x) + det a b p * (c.x - a.x) := by unfold det; grind
  have e2 : det a b c * (p.y - a.y) = det c a p * (b.y - a.y) + det a b p * (c.y - a.y) := by unfold det; grind
  rw [h1, h2] at e1 e2
  simp only [Int.zero_mul, Int.add_zero] at e1 e2
  rw [Pt.eq_iff]
  rcases Int.mul_eq_zero.1 e1 with h | h
  ·omega
  ·rcases Int.mul_eq_zero.1 e2 with h' | h'
   ·omega
   ·omega
theorem zGq {a b c : Pt} (ha : vld a = true) (hb : vld b = true) (hc : vld c = true) : -562949886312450 ≤ det a b c ∧ det a b c ≤ 562949886312450 := by
 have := cr_bd (zE9 ha hb) (zE9 ha hc)
 exact this
theorem zJ4 {a b p : Pt} (va : vld a = true) (vb : vld b = true) (vp : vld p = true) : (0 < ori a b p ↔ 0 < det a b p) ∧ (0 ≤ ori a b p ↔ 0 ≤ det a b p) ∧ (ori a b p = 0 ↔ det a b p = 0) := by
 rw [ori_v va vb vp]
 have := zAs (det a b p)
 omega
end Go.Proofs.YtmobnmjjmafibaaGreat
namespace Go.Proofs.YtmobnmjjmafibaaGreat
open Go.RowKit Go.Sort
theorem zEu (p q : Pt) : cmpP q p = -cmpP p q := by
 unfold cmpP cmpN sgn; (repeat' split) <;> omega
theorem zD3 {p q : Pt} : cmpP p q = 0 ↔ p = q := by
 rw [Pt.eq_iff]; unfold cmpP cmpN sgn; (repeat' split) <;> omega
theorem cmpP_lt {p q : Pt} : cmpP p q < 0 ↔ p.x < q.x ∨ (p.x = q.x ∧ p.y < q.y) := by
 unfold cmpP cmpN sgn; (repeat' split) <;> omega
theorem zDp {p q r : Pt} (h1 : cmpP p q < 0) (h2 : cmpP q r < 0) : cmpP p r < 0 := by
 rw [cmpP_lt] at *; omega
theorem zIx (S T : Tri3) : cmpT T S = -cmpT S T := by
 unfold cmpT; rw [zEu S.A T.A, zEu S.B T.B, zEu S.C T.C]; (repeat' split) <;> omega
theorem cmpT_eq0 {S T : Tri3} : cmpT S T = 0 ↔ S = T := by
 rw [Tri3.eq_iff, ← zD3, ← zD3 (p := S.B), ← zD3 (p := S.C)]
 unfold cmpT; (repeat' split) <;> omega
theorem cmpT_lt {S T : Tri3} : cmpT S T < 0 ↔ cmpP S.A T.A < 0 ∨ (S.A = T.A ∧ (cmpP S.B T.B < 0 ∨ (S.B = T.B ∧ cmpP S.C T.C < 0))) := by
 rw [← zD3 (p := S.A), ← zD3 (p := S.B)]
 unfold cmpT; (repeat' split) <;> omega
theorem cmpT_trans {S T U : Tri3} (h1 : cmpT S T < 0) (h2 : cmpT T U < 0) : cmpT S U < 0 := by
 rw [cmpT_lt] at *
 rcases h1 with h1 | ⟨e1, h1⟩ <;> rcases h2 with h2 | ⟨e2, h2⟩
 ·exact .inl (zDp h1 h2)
 ·exact .inl (e2 ▸ h1)
 ·exact .inl (e1 ▸ h2)
 ·refine .inr ⟨e1.trans e2, ?_⟩
  rcases h1 with h1 | ⟨f1, h1⟩ <;> rcases h2 with h2 | ⟨f2, h2⟩
  ·exact .inl (zDp h1 h2)
  ·exact .inl (f2 ▸ h1)
  ·exact .inl (f1 ▸ h2)
  ·exact .inr ⟨f1.trans f2, zDp h1 h2⟩
structure Whole {α : Type} (c : α → α → Int) : Prop where
 neg : ∀ x y, c y x = -c x y
 eq0 : ∀ {x y}, c x y = 0 ↔ x = y
 trans : ∀ {x y z}, c x y < 0 → c y z < 0 → c x z < 0
theorem wholeP : Whole cmpP := ⟨zEu, zD3, zDp⟩
theorem wholeT : Whole cmpT := ⟨zIx, cmpT_eq0, cmpT_trans⟩
section
variable {α : Type} {c : α → α → Int}
theorem Whole.swo (W : Whole c) : SWO (ltOf c) where
 irrefl x := by unfold ltOf; have := (W.eq0 (x := x) (y := x)).2 rfl; simp; omega
 trans x y z h1 h2 := by unfold ltOf at *; simp at *; exact W.trans h1 h2
 ntrans x y z h1 h2 := by
  unfold ltOf at *; simp at *
  rcases Int.lt_or_le (c x z) 0 with h | h
  ·exfalso
   have n1 := W.neg x y
   have n2 := W.neg y z
   rcases Int.lt_or_eq_of_le h1 with g1 | g1
   ·have := W.trans (x := y) (y := x) (z := z) (by omega) h
    omega
   ·have e := W.eq0.1 g1.symm
    subst e; omega
  ·exact h
theorem Whole.one (W : Whole c) : ∀ x y, ltOf c x y = false → ltOf c y x = false → x = y := fun x y h1 h2 => by
 unfold ltOf at *
 simp at h1 h2
 rw [W.neg x y] at h2
 exact W.eq0.1 (by omega)
def srt (c : α → α → Int) (L : List α) : List α := L.mergeSort fun x y => !(ltOf c) y x
def InOrder (c : α → α → Int) (L : List α) : Prop := L.Pairwise fun x y => c x y ≤ 0
theorem zAn (L : List α) : (srt c L).Perm L := List.mergeSort_perm _ _
theorem Whole.le_trans (W : Whole c) {x y z : α} (h1 : c x y ≤ 0) (h2 : c y z ≤ 0) : c x z ≤ 0 := by
 rcases Int.lt_or_eq_of_le h1 with g1 | g1
 ·rcases Int.lt_or_eq_of_le h2 with g2 | g2
  ·have := W.trans g1 g2; omega
  ·have e := W.eq0.1 g2; subst e; exact h1
 ·have e := W.eq0.1 g1; subst e; exact h2
theorem Whole.srt_order (W : Whole c) (L : List α) : InOrder c (srt c L) := by
 have h := List.pairwise_mergeSort (le := fun x y => !(ltOf c) y x) (fun a b d h1 h2 => by
  unfold ltOf at *
  simp at *
  have n1 := W.neg a b
  have n2 := W.neg b d
  have n3 := W.neg a d
  have := W.le_trans (x := a) (y := b) (z := d) (by omega) (by omega)
  omega) (fun a b => by
  unfold ltOf
  have := W.neg a b
  simp
  omega) L
 refine h.imp fun {a b} h1 => ?_
 unfold ltOf at h1
 simp at h1
 have := W.neg a b
 omega
theorem Whole.unique (W : Whole c) : ∀ {L M : List α}, L.Perm M → InOrder c L → InOrder c M → L = M
 | [], M, hp, _, _ => by rw [List.nil_perm.1 hp]
 | x :: L, M, hp, h1, h2 => by
  cases M with
  | nil => exact absurd hp.length_eq (by simp)
  | cons y M =>
   unfold InOrder at *
   rw [List.pairwise_cons] at h1 h2
   have e : x = y := by
    rcases List.mem_cons.1 (hp.mem_iff.1 (List.mem_cons_self)) with e | hx
    ·exact e
    ·rcases List.mem_cons.1 (hp.mem_iff.2 (List.mem_cons_self)) with e | hy
     ·exact e.symm
     ·have a1 := h1.1 y hy
      have a2 := h2.1 x hx
      have := W.neg x y
      exact W.eq0.1 (by omega)
   subst e
   rw [Whole.unique W (hp.cons_inv) h1.2 h2.2]
theorem Whole.srt_eq (W : Whole c) {L M : List α} (hp : M.Perm L) (ho : InOrder c M) : M = srt c L :=
 W.unique (hp.trans (zAn L).symm) ho (W.srt_order L)
theorem Whole.srt_of_perm (W : Whole c) {L M : List α} (hp : M.Perm L) : srt c M = srt c L := W.srt_eq ((zAn M).trans hp) (W.srt_order M)
end
end Go.Proofs.YtmobnmjjmafibaaGreat
namespace Go.Proofs.YtmobnmjjmafibaaGreat
open Go.RowKit Go.Sort Go.Lib Go.Shelf
section
variable {α : Type} {c : α → List Value} {k : Nat}
theorem zB8 (hc : ∀ x, (c x).length = k) : ∀ L : List α, (L.flatMap c).length = L.length * k
 | [] => by simp
 | x :: L => by rw [List.flatMap_cons, List.length_append, hc, zB8 hc L, List.length_cons, Nat.add_mul]; omega
theorem zB0 (hc : ∀ x, (c x).length = k) : ∀ (L : List α) (j i : Nat) (x : α), L[j]? = some x → i < k → (L.flatMap c)[j * k + i]? = (c x)[i]?
 | [], j, i, x, h, _ => by simp at h
 | y :: L, 0, i, x, h, hi => by
  simp at h; subst h
  rw [List.flatMap_cons, Nat.zero_mul, Nat.zero_add, List.getElem?_append_left (by rw [hc]; exact hi)]
 | y :: L, j + 1, i, x, h, hi => by
  rw [List.flatMap_cons, List.getElem?_append_right (by rw [hc, Nat.add_mul]; omega), hc]
  rw [show (j + 1) * k + i - k = j * k + i by rw [Nat.add_mul]; omega]
  exact zB0 hc L j i x (by simpa using h) hi
theorem zE3 {w : World} {B : Nat} {T : TypeId} {v : Value} {L : List α} (hc : ∀ x, (c x).length = k) (h : w.ownsRow B T k v L.length (L.flatMap c)) :
    ∃ a cap, v = .slice a L.length cap ∧ RowAt c k w a L := by
 rcases h.2 with ⟨rfl, h0⟩ | ⟨g, cap, cur, rfl, hB, hb, h1, h2, h3, h4⟩
 ·have : L = [] := List.eq_nil_of_length_eq_zero h0
  subst this
  exact ⟨none, 0, rfl, RowAt.nil⟩
 ·refine ⟨some ⟨g, 0, none⟩, cap, rfl, fun j x hj => ⟨_, rfl, (Array.getElem?_eq_some_iff.1 hb).1, fun i u hu => ?_⟩⟩
  have hi : i < k := by rw [← hc x]; exact (List.getElem?_eq_some_iff.1 hu).1
  have e := zB0 hc L j i x hj hi
  rw [hu, ← h4, List.getElem?_take] at e
  split at e
  ·rw [Addr.add_lit, Addr.add_lit]
   simp only [World.cell?, hb, Nat.zero_add]
   simpa using e
  ·cases e
end
section
variable {α : Type} [Inhabited α] {c : α → List Value} {k : Nat}
theorem zDi {w : World} {B g cap n : Nat} {T : TypeId} {L : List α} (hc : ∀ x, (c x).length = k) (h : w.ownsRow B T k (.slice (some ⟨g, 0, none⟩) n cap) L.length (L.flatMap c)) : HoldsK c k w g 0 L.toArray ∧ g < w.heap.size := by
 rcases h.2 with ⟨h0, _⟩ | ⟨g', cap', cur, h0, hB, hb, h1, h2, h3, h4⟩
 ·cases h0
 ·simp only [Value.slice.injEq, Option.some.injEq, Addr.mk.injEq, and_true] at h0
  obtain ⟨e1, e2, e3⟩ := h0
  subst e1 e3
  refine ⟨fun t ht => ⟨?_, by simp [World.frozen?, hb]⟩, (Array.getElem?_eq_some_iff.1 hb).1⟩
  have ht' : t < L.length * k := by simpa using ht
  rw [get_flatK _ _ _ _ (by simpa using ht')]
  have k0 : 0 < k := by rcases Nat.eq_zero_or_pos k with h | h; · subst h; simp at ht'
                        ·exact h
  have hj : t / k < L.length := by rwa [Nat.div_lt_iff_lt_mul k0]
  have hi : t % k < k := Nat.mod_lt _ k0
  have e := zB0 hc L (t / k) (t % k) L[t / k] (List.getElem?_eq_getElem hj) hi
  rw [show t / k * k + t % k = t by rw [Nat.mul_comm]; exact Nat.div_add_mod t k, ← h4, List.getElem?_take] at e
  split at e
  ·simp only [World.cell?, hb, Nat.zero_add]
   simp only [Option.isSome_none, Bool.false_eq_true, if_false]
   rw [← Array.getElem?_toList, e]
   simp [hj, hc, hi]
  ·rename_i hh; exact absurd ht' hh
theorem zCt {w : World} {g : Nat} {L : List α} (hc : ∀ x, (c x).length = k) (h : HoldsK c k w g 0 L.toArray) (hg : g < w.heap.size) : RowAt c k w (some ⟨g, 0, none⟩) L := fun j x hj => by
 refine ⟨_, rfl, hg, fun i u hu => ?_⟩
 have hi : i < k := by rw [← hc x]; exact (List.getElem?_eq_some_iff.1 hu).1
 have hjl : j < L.length := (List.getElem?_eq_some_iff.1 hj).1
 have e := (h.cell (i := j) (c := i) (by simpa using hjl) hi).1
 rw [Addr.add_lit, Addr.add_lit, e]
 have e2 : L.toArray[j]! = x := by
  rw [getElem!_pos _ j (by simpa using hjl)]
  simpa using (List.getElem?_eq_some_iff.1 hj).2
 rw [e2, ← hu, List.getElem!_eq_getElem?_getD, List.getElem?_eq_getElem (by rw [hc]; exact hi)]
 rfl
theorem zBt {w : World} {g n : Nat} {os : Array Obj} (d : Array α) : w.grownBy (sortWorldK c k w g 0 n d os) (some g) := by
 refine ⟨rfl, rfl, rfl, by simp [sortWorldK, putRowK], fun i hi hne => ?_⟩
 unfold sortWorldK putRowK
 rw [heap_grow_old _ _ (by simpa using hi)]
 have : g ≠ i := fun e => hne (by rw [e])
 simp [putRow, mapBlock, Sort.ahead, Array.getElem?_modify, this]
theorem zEp {w : World} {g n : Nat} {os : Array Obj} {d d' : Array α} (h : HoldsK c k w g 0 d) (hg : g < w.heap.size) (hs : d'.size = d.size) : HoldsK c k (sortWorldK c k w g 0 n d' os) g 0 d' := by
 unfold sortWorldK
 refine holdsK_grow c k _ os g 0 d' (by simp [putRowK, Sort.ahead]; exact hg) ?_
 exact holdsK_putRowK c k _ g 0 d d' (holdsK_ahead c k w n g 0 d h) hs
end
theorem zE8 (b : Nat) : ∀ (l : List Value) (o : Nat) (w : World) (i : Nat), i < o → (w.setCells b o l).cell? ⟨b, i, none⟩ = w.cell? ⟨b, i, none⟩
 | [], _, _, _, _ => rfl
 | v :: l, o, w, i, h => by
  rw [World.setCells, zE8 b l (o + 1) _ i (by omega), World.cell?_setCell_other (h := fun e => by have := congrArg Addr.off e; simp at this; omega)]
theorem zE2 (b : Nat) : ∀ (l : List Value) (o : Nat) (w : World), (w.setCells b o l).heap.size = w.heap.size
 | [], _, _ => rfl
 | v :: l, o, w => by rw [World.setCells, zE2 b l]; simp
end Go.Proofs.YtmobnmjjmafibaaGreat
namespace Go.Proofs.YtmobnmjjmafibaaGreat
open Go.RowKit
attribute [local go_sem 10000] pt_eql pt_neq
structure Wl where
 A : Pt
 B : Pt
 K : Int
theorem Wl.eq_iff {p q : Wl} : p = q ↔ p.A = q.A ∧ p.B = q.B ∧ p.K = q.K := by
 cases p; cases q; simp
instance : DecidableEq Pt := fun p q => decidable_of_iff (p.x = q.x ∧ p.y = q.y) Pt.eq_iff.symm
instance : DecidableEq Wl := fun p q => decidable_of_iff (p.A = q.A ∧ p.B = q.B ∧ p.K = q.K) Wl.eq_iff.symm
instance : Inhabited Wl := ⟨⟨⟨0, 0⟩, ⟨0, 0⟩, 0⟩⟩
def cW (t : Wl) : List Value := [.int .i64 t.A.x, .int .i64 t.A.y, .int .i64 t.B.x, .int .i64 t.B.y, .int .i64 t.K]
theorem zIy (x : Wl) : (cW x).length = 5 := rfl
theorem cW_one (x : Wl) : ∀ v ∈ cW x, v.oneCell' = true := by intro v hv; simp [cW] at hv; rcases hv with rfl | rfl | rfl | rfl | rfl <;> rfl
def weqI (a b c d k e f g h l : Int) : Bool := decide (a = e) && (decide (b = f) && (decide (c = g) && (decide (d = h) && decide (k = l))))
theorem wal_eql (a b c d k e f g h l : Int) (w : World) : (binOp .eql 105 (.agg #[.int .i64 a, .int .i64 b, .int .i64 c, .int .i64 d, .int .i64 k]) (.agg #[.int .i64 e, .int .i64 f, .int .i64 g, .int .i64 h, .int .i64 l])).run Tryz.prog w = .ok (.bool (weqI a b c d k e f g h l)) w := by
 unfold weqI
 by_cases h1 : a = e
 case neg => simp [go_sem, h1]
 case pos =>
 by_cases h2 : b = f
 case neg => simp [go_sem, h1, h2]
 case pos =>
 by_cases h3 : c = g
 case neg => simp [go_sem, h1, h2, h3]
 case pos =>
 by_cases h4 : d = h
 case neg => simp [go_sem, h1, h2, h3, h4]
 case pos => by_cases h5 : k = l <;> simp [go_sem, h1, h2, h3, h4, h5]
theorem wal_neq (a b c d k e f g h l : Int) (w : World) : (binOp .neq 105 (.agg #[.int .i64 a, .int .i64 b, .int .i64 c, .int .i64 d, .int .i64 k]) (.agg #[.int .i64 e, .int .i64 f, .int .i64 g, .int .i64 h, .int .i64 l])).run Tryz.prog w = .ok (.bool (!weqI a b c d k e f g h l)) w := by
 unfold weqI
 by_cases h1 : a = e
 case neg => simp [go_sem, h1]
 case pos =>
 by_cases h2 : b = f
 case neg => simp [go_sem, h1, h2]
 case pos =>
 by_cases h3 : c = g
 case neg => simp [go_sem, h1, h2, h3]
 case pos =>
 by_cases h4 : d = h
 case neg => simp [go_sem, h1, h2, h3, h4]
 case pos => by_cases h5 : k = l <;> simp [go_sem, h1, h2, h3, h4, h5]
theorem zBq (p q : Pt) : peqI p.x p.y q.x q.y = decide (p = q) := by rw [Bool.eq_iff_iff, zBp, ← Pt.eq_iff]; simp
theorem RowAt.wal {w : World} {a : Option Addr} {L : List Wl} (h : RowAt cW 5 w a L) {j : Nat} (hj : j < L.length) :
    ∃ ad A, a = some ad ∧ ad.add (j * 5) = A ∧ (A.block = w.heap.size) = False ∧ A.block < w.heap.size ∧ (w.cell? A = some (.int .i64 L[j].A.x) ∧ w.cell? ⟨A.block, A.off + 1, none⟩ = some (.int .i64 L[j].A.y) ∧ w.cell? ⟨A.block, A.off + 2, none⟩ = some (.int .i64 L[j].B.x) ∧
     w.cell? ⟨A.block, A.off + 3, none⟩ = some (.int .i64 L[j].B.y) ∧ w.cell? ⟨A.block, A.off + 4, none⟩ = some (.int .i64 L[j].K)) := by
 obtain ⟨ad, h1, h2, h3⟩ := h j L[j] (List.getElem?_eq_getElem hj)
 have hb : (ad.add (j * 5)).block = ad.block := zAl _ _
 refine ⟨ad, _, h1, rfl, by rw [hb]; simp; omega, by rw [hb]; exact h2, ?_⟩
 have e0 := h3 0 _ rfl
 have e1 := h3 1 _ rfl
 have e2 := h3 2 _ rfl
 have e3 := h3 3 _ rfl
 have e4 := h3 4 _ rfl
 simp only [Addr.add_zero', Addr.add_succ'] at e0 e1 e2 e3 e4
 exact ⟨e0, e1, e2, e3, e4⟩
def mkK (k : Int) : Bool := decide (k = 1) || decide (k = 2)
def mkOk (a b : Pt) (k : Int) : Bool := mkK k && (!decide (a = b) && (vld a && vld b))
def mkW (a b : Pt) (k : Int) : Wl := if mkOk a b k then ⟨lo2 a b, hi2 a b, k⟩ else ⟨⟨0, 0⟩, ⟨0, 0⟩, 0⟩
end Go.Proofs.YtmobnmjjmafibaaGreat
namespace Go.Proofs.YtmobnmjjmafibaaGreat
open Go.RowKit Go.Sort
attribute [local go_sem] Dr.rOper Dr.rAt Dr.rUpon cell_set sg_i64 sg_u64 alloc_cell alloc_frozen
attribute [local go_sem 10000] pt_eql pt_neq wal_eql wal_neq
attribute [local irreducible] Dr.rWalk
def cmpW (S T : Wl) : Int := if cmpP S.A T.A ≠ 0 then cmpP S.A T.A else if cmpP S.B T.B ≠ 0 then cmpP S.B T.B else cmpN S.K T.K
end Go.Proofs.YtmobnmjjmafibaaGreat
namespace Go.Proofs.YtmobnmjjmafibaaGreat
open Go.Shelf Go.Proofs
def sortTri_ren : Go.Shelf.Ren := ⟨fun | 6 => 92 | 15 => 123 | 14 => 126 | 28 => 153 | 29 => 154 | 20 => 156 | 21 => 157 | 22 => 158 | 23 => 159 | 24 => 160 | 25 => 161 | 26 => 162 | 27 => 163 | 46 => 186 | 47 => 182 | 48 => 183 | 49 => 187 | 50 => 188 | 57 => 206 | n => n, fun | 22 => 32 | 24 => 38 | 25 => 81 | 3 => 3 | 39 => 143 | 0 => 0 | 53 => 171 | 55 => 130 | 4 => 4 | 46 => 165 | 45 => 164 | 50 => 152 | 5 => 5 | 9 => 9 | 66 => 194 | 70 => 198 | 76 => 211 | 77 => 212 | n => n, fun | n => n⟩
theorem sortTri : Go.Proofs.SlLaysF0.n6 Tryz.prog sortTri_ren := {
 mixed := by kernel_rfl
 f6 := ⟨Tryz.f92.name, by decide, Tryz.func92.trans (congrArg some (by kernel_rfl))⟩
 f14 := ⟨Tryz.f126.name, by decide, Tryz.func126.trans (congrArg some (by kernel_rfl))⟩
 f15 := Tryz.func123.trans (congrArg some (by kernel_rfl))
 f20 := ⟨Tryz.f156.name, by decide, Tryz.func156.trans (congrArg some (by kernel_rfl))⟩
 f21 := ⟨Tryz.f157.name, by decide, Tryz.func157.trans (congrArg some (by kernel_rfl))⟩
 f22 := ⟨Tryz.f158.name, by decide, Tryz.func158.trans (congrArg some (by kernel_rfl))⟩
 f23 := ⟨Tryz.f159.name, by decide, Tryz.func159.trans (congrArg some (by kernel_rfl))⟩
 f24 := ⟨Tryz.f160.name, by decide, Tryz.func160.trans (congrArg some (by kernel_rfl))⟩
 f25 := ⟨Tryz.f161.name, by decide, Tryz.func161.trans (congrArg some (by kernel_rfl))⟩
 f26 := ⟨Tryz.f162.name, by decide, Tryz.func162.trans (congrArg some (by kernel_rfl))⟩
 f27 := ⟨Tryz.f163.name, by decide, Tryz.func163.trans (congrArg some (by kernel_rfl))⟩
 f28 := Tryz.func153.trans (congrArg some (by kernel_rfl))
 f29 := Tryz.func154.trans (congrArg some (by kernel_rfl))
 f46 := ⟨Tryz.f186.name, by decide, Tryz.func186.trans (congrArg some (by kernel_rfl))⟩
 f47 := Tryz.func182.trans (congrArg some (by kernel_rfl))
 f48 := Tryz.func183.trans (congrArg some (by kernel_rfl))
 f49 := ⟨Tryz.f187.name, by decide, Tryz.func187.trans (congrArg some (by kernel_rfl))⟩
 f50 := ⟨Tryz.f188.name, by decide, Tryz.func188.trans (congrArg some (by kernel_rfl))⟩
 f57 := ⟨Tryz.f206.name, by decide, Tryz.func206.trans (congrArg some (by kernel_rfl))⟩
 t0 := Tryz.underlying0
 a0 := Tryz.isAgg0
 z0 := Tryz.sizeOf0
 v0 := Tryz.zeroValue0
 t3 := Tryz.underlying3
 a3 := Tryz.isAgg3
 z3 := Tryz.sizeOf3
 v3 := Tryz.zeroValue3
 t4 := Tryz.underlying4
 a4 := Tryz.isAgg4
 z4 := Tryz.sizeOf4
 v4 := Tryz.zeroValue4
 t5 := Tryz.underlying5
 a5 := Tryz.isAgg5
 z5 := Tryz.sizeOf5
 v5 := Tryz.zeroValue5
 t9 := Tryz.underlying9
 a9 := Tryz.isAgg9
 z9 := Tryz.sizeOf9
 v9 := Tryz.zeroValue9
 t22 := Tryz.underlying32
 a22 := Tryz.isAgg32
 z22 := Tryz.sizeOf32
 v22 := Tryz.zeroValue32
 t25 := Tryz.underlying81
 a25 := Tryz.isAgg81
 z25 := Tryz.sizeOf81
 v25 := Tryz.zeroValue81
 t39 := Tryz.underlying143
 a39 := Tryz.isAgg143
 z39 := Tryz.sizeOf143
 v39 := Tryz.zeroValue143
 t45 := Tryz.underlying164
 a45 := Tryz.isAgg164
 z45 := Tryz.sizeOf164
 v45 := Tryz.zeroValue164
 t46 := Tryz.underlying165
 a46 := Tryz.isAgg165
 z46 := Tryz.sizeOf165
 v46 := Tryz.zeroValue165
 t50 := Tryz.underlying152
 a50 := Tryz.isAgg152
 z50 := Tryz.sizeOf152
 v50 := Tryz.zeroValue152
 t53 := Tryz.underlying171
 a53 := Tryz.isAgg171
 z53 := Tryz.sizeOf171
 v53 := Tryz.zeroValue171
 t55 := Tryz.underlying130
 a55 := Tryz.isAgg130
 z55 := Tryz.sizeOf130
 v55 := Tryz.zeroValue130
 t66 := Tryz.underlying194
 a66 := Tryz.isAgg194
 z66 := Tryz.sizeOf194
 v66 := Tryz.zeroValue194
 t70 := Tryz.underlying198
 a70 := Tryz.isAgg198
 z70 := Tryz.sizeOf198
 v70 := Tryz.zeroValue198
 t76 := Tryz.underlying211
 a76 := Tryz.isAgg211
 z76 := Tryz.sizeOf211
 v76 := Tryz.zeroValue211
 t77 := Tryz.underlying212
 a77 := Tryz.isAgg212
 z77 := Tryz.sizeOf212
 v77 := Tryz.zeroValue212 }
def sortPt_ren : Go.Shelf.Ren := ⟨fun | 6 => 80 | 15 => 123 | 14 => 122 | 28 => 153 | 29 => 154 | 20 => 145 | 21 => 146 | 22 => 147 | 23 => 148 | 24 => 149 | 25 => 150 | 26 => 151 | 27 => 152 | 46 => 181 | 47 => 182 | 48 => 183 | 49 => 184 | 50 => 185 | 57 => 205 | n => n, fun | 22 => 52 | 24 => 30 | 25 => 76 | 3 => 3 | 39 => 143 | 0 => 0 | 53 => 171 | 55 => 130 | 4 => 4 | 46 => 165 | 45 => 164 | 50 => 152 | 5 => 5 | 9 => 9 | 66 => 194 | 70 => 198 | 76 => 211 | 77 => 212 | n => n, fun | n => n⟩
theorem sortPt : Go.Proofs.SlLaysF0.n6 Tryz.prog sortPt_ren := {
 mixed := by kernel_rfl
 f6 := ⟨Tryz.f80.name, by decide, Tryz.func80.trans (congrArg some (by kernel_rfl))⟩
 f14 := ⟨Tryz.f122.name, by decide, Tryz.func122.trans (congrArg some (by kernel_rfl))⟩
 f15 := Tryz.func123.trans (congrArg some (by kernel_rfl))
 f20 := ⟨Tryz.f145.name, by decide, Tryz.func145.trans (congrArg some (by kernel_rfl))⟩
 f21 := ⟨Tryz.f146.name, by decide, Tryz.func146.trans (congrArg some (by kernel_rfl))⟩
 f22 := ⟨Tryz.f147.name, by decide, Tryz.func147.trans (congrArg some (by kernel_rfl))⟩
 f23 := ⟨Tryz.f148.name, by decide, Tryz.func148.trans (congrArg some (by kernel_rfl))⟩
 f24 := ⟨Tryz.f149.name, by decide, Tryz.func149.trans (congrArg some (by kernel_rfl))⟩
 f25 := ⟨Tryz.f150.name, by decide, Tryz.func150.trans (congrArg some (by kernel_rfl))⟩
 f26 := ⟨Tryz.f151.name, by decide, Tryz.func151.trans (congrArg some (by kernel_rfl))⟩
 f27 := ⟨Tryz.f152.name, by decide, Tryz.func152.trans (congrArg some (by kernel_rfl))⟩
 f28 := Tryz.func153.trans (congrArg some (by kernel_rfl))
 f29 := Tryz.func154.trans (congrArg some (by kernel_rfl))
 f46 := ⟨Tryz.f181.name, by decide, Tryz.func181.trans (congrArg some (by kernel_rfl))⟩
 f47 := Tryz.func182.trans (congrArg some (by kernel_rfl))
 f48 := Tryz.func183.trans (congrArg some (by kernel_rfl))
 f49 := ⟨Tryz.f184.name, by decide, Tryz.func184.trans (congrArg some (by kernel_rfl))⟩
 f50 := ⟨Tryz.f185.name, by decide, Tryz.func185.trans (congrArg some (by kernel_rfl))⟩
 f57 := ⟨Tryz.f205.name, by decide, Tryz.func205.trans (congrArg some (by kernel_rfl))⟩
 t0 := Tryz.underlying0
 a0 := Tryz.isAgg0
 z0 := Tryz.sizeOf0
 v0 := Tryz.zeroValue0
 t3 := Tryz.underlying3
 a3 := Tryz.isAgg3
 z3 := Tryz.sizeOf3
 v3 := Tryz.zeroValue3
 t4 := Tryz.underlying4
 a4 := Tryz.isAgg4
 z4 := Tryz.sizeOf4
 v4 := Tryz.zeroValue4
 t5 := Tryz.underlying5
 a5 := Tryz.isAgg5
 z5 := Tryz.sizeOf5
 v5 := Tryz.zeroValue5
 t9 := Tryz.underlying9
 a9 := Tryz.isAgg9
 z9 := Tryz.sizeOf9
 v9 := Tryz.zeroValue9
 t22 := Tryz.underlying52
 a22 := Tryz.isAgg52
 z22 := Tryz.sizeOf52
 v22 := Tryz.zeroValue52
 t25 := Tryz.underlying76
 a25 := Tryz.isAgg76
 z25 := Tryz.sizeOf76
 v25 := Tryz.zeroValue76
 t39 := Tryz.underlying143
 a39 := Tryz.isAgg143
 z39 := Tryz.sizeOf143
 v39 := Tryz.zeroValue143
 t45 := Tryz.underlying164
 a45 := Tryz.isAgg164
 z45 := Tryz.sizeOf164
 v45 := Tryz.zeroValue164
 t46 := Tryz.underlying165
 a46 := Tryz.isAgg165
 z46 := Tryz.sizeOf165
 v46 := Tryz.zeroValue165
 t50 := Tryz.underlying152
 a50 := Tryz.isAgg152
 z50 := Tryz.sizeOf152
 v50 := Tryz.zeroValue152
 t53 := Tryz.underlying171
 a53 := Tryz.isAgg171
 z53 := Tryz.sizeOf171
 v53 := Tryz.zeroValue171
 t55 := Tryz.underlying130
 a55 := Tryz.isAgg130
 z55 := Tryz.sizeOf130
 v55 := Tryz.zeroValue130
 t66 := Tryz.underlying194
 a66 := Tryz.isAgg194
 z66 := Tryz.sizeOf194
 v66 := Tryz.zeroValue194
 t70 := Tryz.underlying198
 a70 := Tryz.isAgg198
 z70 := Tryz.sizeOf198
 v70 := Tryz.zeroValue198
 t76 := Tryz.underlying211
 a76 := Tryz.isAgg211
 z76 := Tryz.sizeOf211
 v76 := Tryz.zeroValue211
 t77 := Tryz.underlying212
 a77 := Tryz.isAgg212
 z77 := Tryz.sizeOf212
 v77 := Tryz.zeroValue212 }
end Go.Proofs.YtmobnmjjmafibaaGreat
