/- Put together: ExL, ExU. -/
import Derived.Test.YtmobnmjjmafibaaGreatRows
import Derived.Test.YtmobnmjjmafibaaGreatPut3
import Derived.Test.YtmobnmjjmafibaaGreatPut0
import Derived.WalkKit
import Derived.WalkSpells
import Derived.WalkLawsBesides
import Derived.Laws.Externs
import Derived.Deep.QuietTactic
import Derived.BigQuiet
import Derived.Lib.Hide
import Derived.Handy
import Derived.LoopN
import Derived.RegionTactic
set_option maxRecDepth 100000
set_option maxHeartbeats 8000000
namespace Go.Proofs.YtmobnmjjmafibaaGreat
open Go.RowKit Go.Sort
attribute [local go_sem] rOper rAt rUpon cell_set sg_i64 sg_u64 alloc_cell alloc_frozen
attribute [local go_sem 10000] pt_eql pt_neq
attribute [local irreducible] rWalk
theorem zEv (a b c d : Pt) (h : ori a b c = 1) (w : World) :
    Calls Tryz.prog 141 #[.agg #[.int .i64 a.x, .int .i64 a.y], .agg #[.int .i64 b.x, .int .i64 b.y], .agg #[.int .i64 c.x, .int .i64 c.y], .agg #[.int .i64 d.x, .int .i64 d.y]] w fun e w' => e = .returned (.int .i64 (circ a b c d)) ∧ Below w.heap.size w w' := by
 have h0 : ¬ ori a b c = 0 := by omega
 cases hv : vld d with
 | false => rw [zAa (.inr (.inl hv))]; exact zHd a b c d h0 hv w
 | true => cases e1 : peqI d.x d.y a.x a.y with
  | true => rw [zAa (.inr (.inr (.inl (zCh.1 e1))))]; exact zHc a b c d h0 hv e1 w
  | false => cases e2 : peqI d.x d.y b.x b.y with
   | true => rw [zAa (.inr (.inr (.inr (.inl (zCh.1 e2)))))]; exact zHb a b c d h0 hv e1 e2 w
   | false => cases e3 : peqI d.x d.y c.x c.y with
    | true => rw [zAa (.inr (.inr (.inr (.inr (zCh.1 e3)))))]; exact zHa a b c d h0 hv e1 e2 e3 w
    | false =>
     rw [zBg h0 hv (zBa.1 e1) (zBa.1 e2) (zBa.1 e3)]
     by_cases hl : sgn (lft a b c d) = 0
     ·rw [if_neg (fun k => k hl), h]
      obtain ⟨va, vb, vc⟩ := zCa h0
      rw [← min4_r va vb vc hv]
      exact rcircle_6 a b c d h hv e1 e2 e3 hl w
     ·rw [if_pos hl]; exact rcircle_5 a b c d h hv e1 e2 e3 hl w
theorem rcircle_neg (a b c d : Pt) (h : ori a b c = -1) (hv : vld d = true) (e1 : peqI d.x d.y a.x a.y = false) (e2 : peqI d.x d.y b.x b.y = false) (e3 : peqI d.x d.y c.x c.y = false) (w : World) :
    Calls Tryz.prog 141 #[.agg #[.int .i64 a.x, .int .i64 a.y], .agg #[.int .i64 b.x, .int .i64 b.y], .agg #[.int .i64 c.x, .int .i64 c.y], .agg #[.int .i64 d.x, .int .i64 d.y]] w fun e w' => e = .returned (.int .i64 (-circ a c b d)) ∧ Below w.heap.size w w' := by
 have co := zA6 a b c
 have cv := zA5 d
 rw [hv] at cv
 have hn : ori a c b = 1 := by rw [zFo, h]; rfl
 have cc := zEv a c b d hn
 rw [h] at co
 have bc : -1 ≤ circ a c b d ∧ circ a c b d ≤ 1 := by
  have := circ_sign (a := a) (b := c) (c := b) (d := d) (by omega) hv (zBa.1 e1) (zBa.1 e3) (zBa.1 e2); omega
 generalize circ a c b d = K at *
 clear hv h hn
 go_enter Tryz.func141, Tryz.ntmps141
 go_wp2_with fail
 refine zA1 fun W1 hW => ?_
 have Ba : Box W1 (w.heap.size) [.int .i64 a.x, .int .i64 a.y] 30 := by rw [hW]; exact (((Box.new rfl).old _).old _).old _
 have Bb : Box W1 (w.heap.size + 1) [.int .i64 b.x, .int .i64 b.y] 30 := by rw [hW]; exact ((Box.new (by simp)).old _).old _
 have Bc : Box W1 (w.heap.size + 1 + 1) [.int .i64 c.x, .int .i64 c.y] 30 := by rw [hW]; exact (Box.new (by simp)).old _
 have Bd : Box W1 (w.heap.size + 1 + 1 + 1) [.int .i64 d.x, .int .i64 d.y] 30 := by rw [hW]; exact Box.new (by simp)
 have hw : Below w.heap.size w W1 := by rw [hW]; go_grown
 clear hW
 refine (co _).mono ?_
 rintro e w2 ⟨rfl, hb⟩
 replace Ba := Ba.ee hb
 replace Bb := Bb.ee hb
 replace Bc := Bc.ee hb
 replace Bd := Bd.ee hb
 replace hw := upB hw hb
 clear hb
 have Fa := Ba.facts
 have Fb := Bb.facts
 have Fc := Bc.facts
 have Fd := Bd.facts
 go_wp2_with fail
 refine (cv _).mono ?_
 rintro e w3 ⟨rfl, hb⟩
 clear Fa Fb Fc Fd
 replace Ba := Ba.ee hb
 replace Bb := Bb.ee hb
 replace Bc := Bc.ee hb
 replace Bd := Bd.ee hb
 replace hw := upB hw hb
 clear hb
 have Fa := Ba.facts
 have Fb := Bb.facts
 have Fc := Bc.facts
 have Fd := Bd.facts
 go_wp2_with fail
 refine (cc _).mono ?_
 rintro e w4 ⟨rfl, hb⟩
 clear Fa Fb Fc Fd
 replace Ba := Ba.ee hb
 replace Bb := Bb.ee hb
 replace Bc := Bc.ee hb
 replace Bd := Bd.ee hb
 replace hw := upB hw hb
 clear hb
 go_wp2
 go_ret
 exact ⟨rfl, hw⟩
theorem zCr (a b c d : Pt) (w : World) :
    Calls Tryz.prog 141 #[.agg #[.int .i64 a.x, .int .i64 a.y], .agg #[.int .i64 b.x, .int .i64 b.y], .agg #[.int .i64 c.x, .int .i64 c.y], .agg #[.int .i64 d.x, .int .i64 d.y]] w fun e w' => e = .returned (.int .i64 (circ a b c d)) ∧ Below w.heap.size w w' := by
 have hb := zC3 a b c
 have h3 : ori a b c = 0 ∨ ori a b c = 1 ∨ ori a b c = -1 := by omega
 rcases h3 with h | h | h
 ·rw [zAa (.inl h)]; exact rcircle_0 a b c d h w
 ·exact zEv a b c d h w
 ·have h0 : ¬ ori a b c = 0 := by omega
  cases hv : vld d with
  | false => rw [zAa (.inr (.inl hv))]; exact zHd a b c d h0 hv w
  | true => cases e1 : peqI d.x d.y a.x a.y with
   | true => rw [zAa (.inr (.inr (.inl (zCh.1 e1))))]; exact zHc a b c d h0 hv e1 w
   | false => cases e2 : peqI d.x d.y b.x b.y with
    | true => rw [zAa (.inr (.inr (.inr (.inl (zCh.1 e2)))))]; exact zHb a b c d h0 hv e1 e2 w
    | false => cases e3 : peqI d.x d.y c.x c.y with
     | true => rw [zAa (.inr (.inr (.inr (.inr (zCh.1 e3)))))]; exact zHa a b c d h0 hv e1 e2 e3 w
     | false =>
      rw [show circ a b c d = -circ a c b d by rw [← zG2 a c b d, zHz b c a d, zG2 a b c d]; omega]
      exact rcircle_neg a b c d h hv e1 e2 e3 w
theorem Box.drew {w : World} {b : Nat} {cs : List Value} {T : TypeId} (h : Box w b cs T) : Box w.drew b cs T := h
theorem rmake_0 (a b c : Pt) (h0 : ori a b c = 0) (w : World) :
    Calls Tryz.prog 47 #[.agg #[.int .i64 a.x, .int .i64 a.y], .agg #[.int .i64 b.x, .int .i64 b.y], .agg #[.int .i64 c.x, .int .i64 c.y]] w fun e w' => e = .returned (.tuple #[.agg #[.int .i64 0, .int .i64 0, .int .i64 0, .int .i64 0, .int .i64 0, .int .i64 0], .bool false]) ∧ Below w.heap.size w w' := by
 have co := zA6 a b c
 rw [h0] at co
 clear h0
 go_enter Tryz.func47, Tryz.ntmps47
 go_wp2_with fail
 refine zA1 fun W1 hW => ?_
 have Ba : Box W1 (w.heap.size) [.int .i64 a.x, .int .i64 a.y] 30 := by rw [hW]; exact (((Box.new rfl).old _).old _).old _
 have Bb : Box W1 (w.heap.size + 1) [.int .i64 b.x, .int .i64 b.y] 30 := by rw [hW]; exact ((Box.new (by simp)).old _).old _
 have Bc : Box W1 (w.heap.size + 1 + 1) [.int .i64 c.x, .int .i64 c.y] 30 := by rw [hW]; exact (Box.new (by simp)).old _
 have Br : Box W1 (w.heap.size + 1 + 1 + 1) [.int .i64 0, .int .i64 0, .int .i64 0, .int .i64 0, .int .i64 0, .int .i64 0] 38 := by rw [hW]; exact Box.new (by simp)
 have hw : Below w.heap.size w W1 := by rw [hW]; go_grown
 clear hW
 refine (co _).mono ?_
 rintro e w2 ⟨rfl, hb⟩
 replace Ba := Ba.ee hb
 replace Bb := Bb.ee hb
 replace Bc := Bc.ee hb
 replace Br := Br.ee hb
 replace hw := upB hw hb
 clear hb
 have Fa := Ba.facts
 have Fb := Bb.facts
 have Fc := Bc.facts
 have Fr := Br.facts
 go_wp2_with fail
 refine bodyPost_ret (v := .tuple #[.agg #[.int .i64 0, .int .i64 0, .int .i64 0, .int .i64 0, .int .i64 0, .int .i64 0], .bool false]) (by simp [results, Tryz.results47, go_sem, Fr]) rfl ⟨rfl, by have hl := hw.size; go_grown⟩
theorem rmake_p0 (a b c : Pt) (h0 : ori a b c = 1) (tba : decide (cmpP b a < 0) = false) (tca : decide (cmpP c a < 0) = false) (w : World) :
    Calls Tryz.prog 47 #[.agg #[.int .i64 a.x, .int .i64 a.y], .agg #[.int .i64 b.x, .int .i64 b.y], .agg #[.int .i64 c.x, .int .i64 c.y]] w fun e w' => e = .returned (.tuple #[.agg #[.int .i64 a.x, .int .i64 a.y, .int .i64 b.x, .int .i64 b.y, .int .i64 c.x, .int .i64 c.y], .bool true]) ∧ Below w.heap.size w w' := by
 have co := zA6 a b c
 rw [h0] at co
 clear h0
 have kba := zA9 b a
 generalize cmpP b a = nba at *
 have kca := zA9 c a
 generalize cmpP c a = nca at *
 go_enter Tryz.func47, Tryz.ntmps47
 go_wp2_with fail
 refine zA1 fun W1 hW => ?_
 have Ba : Box W1 (w.heap.size) [.int .i64 a.x, .int .i64 a.y] 30 := by rw [hW]; exact (((Box.new rfl).old _).old _).old _
 have Bb : Box W1 (w.heap.size + 1) [.int .i64 b.x, .int .i64 b.y] 30 := by rw [hW]; exact ((Box.new (by simp)).old _).old _
 have Bc : Box W1 (w.heap.size + 1 + 1) [.int .i64 c.x, .int .i64 c.y] 30 := by rw [hW]; exact (Box.new (by simp)).old _
 have Br : Box W1 (w.heap.size + 1 + 1 + 1) [.int .i64 0, .int .i64 0, .int .i64 0, .int .i64 0, .int .i64 0, .int .i64 0] 38 := by rw [hW]; exact Box.new (by simp)
 have hw : Below w.heap.size w W1 := by rw [hW]; go_grown
 clear hW
 refine (co _).mono ?_
 rintro e w2 ⟨rfl, hb⟩
 replace Ba := Ba.ee hb
 replace Bb := Bb.ee hb
 replace Bc := Bc.ee hb
 replace Br := Br.ee hb
 replace hw := upB hw hb
 clear hb
 have Fa := Ba.facts
 have Fb := Bb.facts
 have Fc := Bc.facts
 have Fr := Br.facts
 go_wp2_with fail
 refine zA2 fun W3 hW => ?_
 replace hw : Below w.heap.size w W3 := by rw [hW]; exact hw
 replace Ba : Box W3 (w.heap.size) [.int .i64 a.x, .int .i64 a.y] 30 := by rw [hW]; exact Ba
 replace Bb : Box W3 (w.heap.size + 1) [.int .i64 b.x, .int .i64 b.y] 30 := by rw [hW]; exact Bb
 replace Bc : Box W3 (w.heap.size + 1 + 1) [.int .i64 c.x, .int .i64 c.y] 30 := by rw [hW]; exact Bc
 replace Br : Box W3 (w.heap.size + 1 + 1 + 1) [.int .i64 0, .int .i64 0, .int .i64 0, .int .i64 0, .int .i64 0, .int .i64 0] 38 := by rw [hW]; exact Br
 clear hW
 clear Fa Fb Fc Fr
 refine wp_loop_rounds 4 ?_
 try rw [rounds_succ]
 have Fa := Ba.facts
 have Fb := Bb.facts
 have Fc := Bc.facts
 have Fr := Br.facts
 go_wp2_with fail
 refine (kba _).mono ?_
 rintro e w4 ⟨rfl, hb⟩
 clear Fa Fb Fc Fr
 replace Ba := Ba.ee hb
 replace Bb := Bb.ee hb
 replace Bc := Bc.ee hb
 replace Br := Br.ee hb
 replace hw := upB hw hb
 clear hb
 have Fa := Ba.facts
 have Fb := Bb.facts
 have Fc := Bc.facts
 have Fr := Br.facts
 go_wp2_with fail
 refine (kca _).mono ?_
 rintro e w5 ⟨rfl, hb⟩
 clear Fa Fb Fc Fr
 replace Ba := Ba.ee hb
 replace Bb := Bb.ee hb
 replace Bc := Bc.ee hb
 replace Br := Br.ee hb
 replace hw := upB hw hb
 clear hb
 have Fa := Ba.facts
 have Fb := Bb.facts
 have Fc := Bc.facts
 have Fr := Br.facts
 go_wp2_with fail
 refine bodyPost_ret (v := .tuple #[.agg #[.int .i64 a.x, .int .i64 a.y, .int .i64 b.x, .int .i64 b.y, .int .i64 c.x, .int .i64 c.y], .bool true]) (by simp [results, Tryz.results47, go_sem, Fr]) rfl ⟨rfl, by have hl := hw.size; go_grown⟩
theorem rmake_p1 (a b c : Pt) (h0 : ori a b c = 1) (tba : decide (cmpP b a < 0) = true) (tcb : decide (cmpP c b < 0) = false) (tab : decide (cmpP a b < 0) = false) (w : World) :
    Calls Tryz.prog 47 #[.agg #[.int .i64 a.x, .int .i64 a.y], .agg #[.int .i64 b.x, .int .i64 b.y], .agg #[.int .i64 c.x, .int .i64 c.y]] w fun e w' => e = .returned (.tuple #[.agg #[.int .i64 b.x, .int .i64 b.y, .int .i64 c.x, .int .i64 c.y, .int .i64 a.x, .int .i64 a.y], .bool true]) ∧ Below w.heap.size w w' := by
 have co := zA6 a b c
 rw [h0] at co
 clear h0
 have kba := zA9 b a
 generalize cmpP b a = nba at *
 have kcb := zA9 c b
 generalize cmpP c b = ncb at *
 have kab := zA9 a b
 generalize cmpP a b = nab at *
 go_enter Tryz.func47, Tryz.ntmps47
 go_wp2_with fail
 refine zA1 fun W1 hW => ?_
 have Ba : Box W1 (w.heap.size) [.int .i64 a.x, .int .i64 a.y] 30 := by rw [hW]; exact (((Box.new rfl).old _).old _).old _
 have Bb : Box W1 (w.heap.size + 1) [.int .i64 b.x, .int .i64 b.y] 30 := by rw [hW]; exact ((Box.new (by simp)).old _).old _
 have Bc : Box W1 (w.heap.size + 1 + 1) [.int .i64 c.x, .int .i64 c.y] 30 := by rw [hW]; exact (Box.new (by simp)).old _
 have Br : Box W1 (w.heap.size + 1 + 1 + 1) [.int .i64 0, .int .i64 0, .int .i64 0, .int .i64 0, .int .i64 0, .int .i64 0] 38 := by rw [hW]; exact Box.new (by simp)
 have hw : Below w.heap.size w W1 := by rw [hW]; go_grown
 clear hW
 refine (co _).mono ?_
 rintro e w2 ⟨rfl, hb⟩
 replace Ba := Ba.ee hb
 replace Bb := Bb.ee hb
 replace Bc := Bc.ee hb
 replace Br := Br.ee hb
 replace hw := upB hw hb
 clear hb
 have Fa := Ba.facts
 have Fb := Bb.facts
 have Fc := Bc.facts
 have Fr := Br.facts
 go_wp2_with fail
 refine zA2 fun W3 hW => ?_
 replace hw : Below w.heap.size w W3 := by rw [hW]; exact hw
 replace Ba : Box W3 (w.heap.size) [.int .i64 a.x, .int .i64 a.y] 30 := by rw [hW]; exact Ba
 replace Bb : Box W3 (w.heap.size + 1) [.int .i64 b.x, .int .i64 b.y] 30 := by rw [hW]; exact Bb
 replace Bc : Box W3 (w.heap.size + 1 + 1) [.int .i64 c.x, .int .i64 c.y] 30 := by rw [hW]; exact Bc
 replace Br : Box W3 (w.heap.size + 1 + 1 + 1) [.int .i64 0, .int .i64 0, .int .i64 0, .int .i64 0, .int .i64 0, .int .i64 0] 38 := by rw [hW]; exact Br
 clear hW
 clear Fa Fb Fc Fr
 refine wp_loop_rounds 4 ?_
 try rw [rounds_succ]
 have Fa := Ba.facts
 have Fb := Bb.facts
 have Fc := Bc.facts
 have Fr := Br.facts
 go_wp2_with fail
 refine (kba _).mono ?_
 rintro e w4 ⟨rfl, hb⟩
 clear Fa Fb Fc Fr
 replace Ba := Ba.ee hb
 replace Bb := Bb.ee hb
 replace Bc := Bc.ee hb
 replace Br := Br.ee hb
 replace hw := upB hw hb
 clear hb
 have Fa := Ba.facts
 have Fb := Bb.facts
 have Fc := Bc.facts
 have Fr := Br.facts
 go_wp2_with fail
 go_region
 go_wp2_with fail
 refine zA2 fun W5 hW => ?_
 have Ca : Box W5 (w.heap.size) [.int .i64 b.x, .int .i64 b.y] 30 := by rw [hW]; exact (((((((Ba.set 0 (.int .i64 b.x)).set 1 (.int .i64 b.y)).set_ne ⟨w.heap.size + 1, 0, none⟩ (.int .i64 c.x) (by show (w.heap.size + 1 : Nat) ≠ _; omega)).set_ne ⟨w.heap.size + 1, 1, none⟩ (.int .i64 c.y) (by show (w.heap.size + 1 : Nat) ≠ _; omega)).set_ne ⟨w.heap.size + 1 + 1, 0, none⟩ (.int .i64 a.x) (by show (w.heap.size + 1 + 1 : Nat) ≠ _; omega)).set_ne ⟨w.heap.size + 1 + 1, 1, none⟩ (.int .i64 a.y) (by show (w.heap.size + 1 + 1 : Nat) ≠ _; omega))).drew
 have Cb : Box W5 (w.heap.size + 1) [.int .i64 c.x, .int .i64 c.y] 30 := by rw [hW]; exact (((((((Bb.set_ne ⟨w.heap.size, 0, none⟩ (.int .i64 b.x) (by show (w.heap.size : Nat) ≠ _; omega)).set_ne ⟨w.heap.size, 1, none⟩ (.int .i64 b.y) (by show (w.heap.size : Nat) ≠ _; omega)).set 0 (.int .i64 c.x)).set 1 (.int .i64 c.y)).set_ne ⟨w.heap.size + 1 + 1, 0, none⟩ (.int .i64 a.x) (by show (w.heap.size + 1 + 1 : Nat) ≠ _; omega)).set_ne ⟨w.heap.size + 1 + 1, 1, none⟩ (.int .i64 a.y) (by show (w.heap.size + 1 + 1 : Nat) ≠ _; omega))).drew
 have Cc : Box W5 (w.heap.size + 1 + 1) [.int .i64 a.x, .int .i64 a.y] 30 := by rw [hW]; exact (((((((Bc.set_ne ⟨w.heap.size, 0, none⟩ (.int .i64 b.x) (by show (w.heap.size : Nat) ≠ _; omega)).set_ne ⟨w.heap.size, 1, none⟩ (.int .i64 b.y) (by show (w.heap.size : Nat) ≠ _; omega)).set_ne ⟨w.heap.size + 1, 0, none⟩ (.int .i64 c.x) (by show (w.heap.size + 1 : Nat) ≠ _; omega)).set_ne ⟨w.heap.size + 1, 1, none⟩ (.int .i64 c.y) (by show (w.heap.size + 1 : Nat) ≠ _; omega)).set 0 (.int .i64 a.x)).set 1 (.int .i64 a.y))).drew
 have Cr : Box W5 (w.heap.size + 1 + 1 + 1) [.int .i64 0, .int .i64 0, .int .i64 0, .int .i64 0, .int .i64 0, .int .i64 0] 38 := by rw [hW]; exact (((((((Br.set_ne ⟨w.heap.size, 0, none⟩ (.int .i64 b.x) (by show (w.heap.size : Nat) ≠ _; omega)).set_ne ⟨w.heap.size, 1, none⟩ (.int .i64 b.y) (by show (w.heap.size : Nat) ≠ _; omega)).set_ne ⟨w.heap.size + 1, 0, none⟩ (.int .i64 c.x) (by show (w.heap.size + 1 : Nat) ≠ _; omega)).set_ne ⟨w.heap.size + 1, 1, none⟩ (.int .i64 c.y) (by show (w.heap.size + 1 : Nat) ≠ _; omega)).set_ne ⟨w.heap.size + 1 + 1, 0, none⟩ (.int .i64 a.x) (by show (w.heap.size + 1 + 1 : Nat) ≠ _; omega)).set_ne ⟨w.heap.size + 1 + 1, 1, none⟩ (.int .i64 a.y) (by show (w.heap.size + 1 + 1 : Nat) ≠ _; omega))).drew
 replace hw : Below w.heap.size w W5 := by have hl := hw.size; rw [hW]; go_grown
 clear Fa Fb Fc Fr
 clear hW Ba Bb Bc Br
 have Ba := Ca
 have Bb := Cb
 have Bc := Cc
 have Br := Cr
 clear Ca Cb Cc Cr
 try rw [rounds_succ]
 have Fa := Ba.facts
 have Fb := Bb.facts
 have Fc := Bc.facts
 have Fr := Br.facts
 go_wp2_with fail
 refine (kcb _).mono ?_
 rintro e w6 ⟨rfl, hb⟩
 clear Fa Fb Fc Fr
 replace Ba := Ba.ee hb
 replace Bb := Bb.ee hb
 replace Bc := Bc.ee hb
 replace Br := Br.ee hb
 replace hw := upB hw hb
 clear hb
 have Fa := Ba.facts
 have Fb := Bb.facts
 have Fc := Bc.facts
 have Fr := Br.facts
 go_wp2_with fail
 refine (kab _).mono ?_
 rintro e w7 ⟨rfl, hb⟩
 clear Fa Fb Fc Fr
 replace Ba := Ba.ee hb
 replace Bb := Bb.ee hb
 replace Bc := Bc.ee hb
 replace Br := Br.ee hb
 replace hw := upB hw hb
 clear hb
 have Fa := Ba.facts
 have Fb := Bb.facts
 have Fc := Bc.facts
 have Fr := Br.facts
 go_wp2_with fail
 refine bodyPost_ret (v := .tuple #[.agg #[.int .i64 b.x, .int .i64 b.y, .int .i64 c.x, .int .i64 c.y, .int .i64 a.x, .int .i64 a.y], .bool true]) (by simp [results, Tryz.results47, go_sem, Fr]) rfl ⟨rfl, by have hl := hw.size; go_grown⟩
theorem rmake_p2 (a b c : Pt) (h0 : ori a b c = 1) (tba : decide (cmpP b a < 0) = true) (tcb : decide (cmpP c b < 0) = true) (tac : decide (cmpP a c < 0) = false) (tbc : decide (cmpP b c < 0) = false) (w : World) :
    Calls Tryz.prog 47 #[.agg #[.int .i64 a.x, .int .i64 a.y], .agg #[.int .i64 b.x, .int .i64 b.y], .agg #[.int .i64 c.x, .int .i64 c.y]] w fun e w' => e = .returned (.tuple #[.agg #[.int .i64 c.x, .int .i64 c.y, .int .i64 a.x, .int .i64 a.y, .int .i64 b.x, .int .i64 b.y], .bool true]) ∧ Below w.heap.size w w' := by
 have co := zA6 a b c
 rw [h0] at co
 clear h0
 have kba := zA9 b a
 generalize cmpP b a = nba at *
 have kcb := zA9 c b
 generalize cmpP c b = ncb at *
 have kac := zA9 a c
 generalize cmpP a c = nac at *
 have kbc := zA9 b c
 generalize cmpP b c = nbc at *
 go_enter Tryz.func47, Tryz.ntmps47
 go_wp2_with fail
 refine zA1 fun W1 hW => ?_
 have Ba : Box W1 (w.heap.size) [.int .i64 a.x, .int .i64 a.y] 30 := by rw [hW]; exact (((Box.new rfl).old _).old _).old _
 have Bb : Box W1 (w.heap.size + 1) [.int .i64 b.x, .int .i64 b.y] 30 := by rw [hW]; exact ((Box.new (by simp)).old _).old _
 have Bc : Box W1 (w.heap.size + 1 + 1) [.int .i64 c.x, .int .i64 c.y] 30 := by rw [hW]; exact (Box.new (by simp)).old _
 have Br : Box W1 (w.heap.size + 1 + 1 + 1) [.int .i64 0, .int .i64 0, .int .i64 0, .int .i64 0, .int .i64 0, .int .i64 0] 38 := by rw [hW]; exact Box.new (by simp)
 have hw : Below w.heap.size w W1 := by rw [hW]; go_grown
 clear hW
 refine (co _).mono ?_
 rintro e w2 ⟨rfl, hb⟩
 replace Ba := Ba.ee hb
 replace Bb := Bb.ee hb
 replace Bc := Bc.ee hb
 replace Br := Br.ee hb
 replace hw := upB hw hb
 clear hb
 have Fa := Ba.facts
 have Fb := Bb.facts
 have Fc := Bc.facts
 have Fr := Br.facts
 go_wp2_with fail
 refine zA2 fun W3 hW => ?_
 replace hw : Below w.heap.size w W3 := by rw [hW]; exact hw
 replace Ba : Box W3 (w.heap.size) [.int .i64 a.x, .int .i64 a.y] 30 := by rw [hW]; exact Ba
 replace Bb : Box W3 (w.heap.size + 1) [.int .i64 b.x, .int .i64 b.y] 30 := by rw [hW]; exact Bb
 replace Bc : Box W3 (w.heap.size + 1 + 1) [.int .i64 c.x, .int .i64 c.y] 30 := by rw [hW]; exact Bc
 replace Br : Box W3 (w.heap.size + 1 + 1 + 1) [.int .i64 0, .int .i64 0, .int .i64 0, .int .i64 0, .int .i64 0, .int .i64 0] 38 := by rw [hW]; exact Br
 clear hW
 clear Fa Fb Fc Fr
 refine wp_loop_rounds 4 ?_
 try rw [rounds_succ]
 have Fa := Ba.facts
 have Fb := Bb.facts
 have Fc := Bc.facts
 have Fr := Br.facts
 go_wp2_with fail
 refine (kba _).mono ?_
 rintro e w4 ⟨rfl, hb⟩
 clear Fa Fb Fc Fr
 replace Ba := Ba.ee hb
 replace Bb := Bb.ee hb
 replace Bc := Bc.ee hb
 replace Br := Br.ee hb
 replace hw := upB hw hb
 clear hb
 have Fa := Ba.facts
 have Fb := Bb.facts
 have Fc := Bc.facts
 have Fr := Br.facts
 go_wp2_with fail
 go_region
 go_wp2_with fail
 refine zA2 fun W5 hW => ?_
 have Ca : Box W5 (w.heap.size) [.int .i64 b.x, .int .i64 b.y] 30 := by rw [hW]; exact (((((((Ba.set 0 (.int .i64 b.x)).set 1 (.int .i64 b.y)).set_ne ⟨w.heap.size + 1, 0, none⟩ (.int .i64 c.x) (by show (w.heap.size + 1 : Nat) ≠ _; omega)).set_ne ⟨w.heap.size + 1, 1, none⟩ (.int .i64 c.y) (by show (w.heap.size + 1 : Nat) ≠ _; omega)).set_ne ⟨w.heap.size + 1 + 1, 0, none⟩ (.int .i64 a.x) (by show (w.heap.size + 1 + 1 : Nat) ≠ _; omega)).set_ne ⟨w.heap.size + 1 + 1, 1, none⟩ (.int .i64 a.y) (by show (w.heap.size + 1 + 1 : Nat) ≠ _; omega))).drew
 have Cb : Box W5 (w.heap.size + 1) [.int .i64 c.x, .int .i64 c.y] 30 := by rw [hW]; exact (((((((Bb.set_ne ⟨w.heap.size, 0, none⟩ (.int .i64 b.x) (by show (w.heap.size : Nat) ≠ _; omega)).set_ne ⟨w.heap.size, 1, none⟩ (.int .i64 b.y) (by show (w.heap.size : Nat) ≠ _; omega)).set 0 (.int .i64 c.x)).set 1 (.int .i64 c.y)).set_ne ⟨w.heap.size + 1 + 1, 0, none⟩ (.int .i64 a.x) (by show (w.heap.size + 1 + 1 : Nat) ≠ _; omega)).set_ne ⟨w.heap.size + 1 + 1, 1, none⟩ (.int .i64 a.y) (by show (w.heap.size + 1 + 1 : Nat) ≠ _; omega))).drew
 have Cc : Box W5 (w.heap.size + 1 + 1) [.int .i64 a.x, .int .i64 a.y] 30 := by rw [hW]; exact (((((((Bc.set_ne ⟨w.heap.size, 0, none⟩ (.int .i64 b.x) (by show (w.heap.size : Nat) ≠ _; omega)).set_ne ⟨w.heap.size, 1, none⟩ (.int .i64 b.y) (by show (w.heap.size : Nat) ≠ _; omega)).set_ne ⟨w.heap.size + 1, 0, none⟩ (.int .i64 c.x) (by show (w.heap.size + 1 : Nat) ≠ _; omega)).set_ne ⟨w.heap.size + 1, 1, none⟩ (.int .i64 c.y) (by show (w.heap.size + 1 : Nat) ≠ _; omega)).set 0 (.int .i64 a.x)).set 1 (.int .i64 a.y))).drew
 have Cr : Box W5 (w.heap.size + 1 + 1 + 1) [.int .i64 0, .int .i64 0, .int .i64 0, .int .i64 0, .int .i64 0, .int .i64 0] 38 := by rw [hW]; exact (((((((Br.set_ne ⟨w.heap.size, 0, none⟩ (.int .i64 b.x) (by show (w.heap.size : Nat) ≠ _; omega)).set_ne ⟨w.heap.size, 1, none⟩ (.int .i64 b.y) (by show (w.heap.size : Nat) ≠ _; omega)).set_ne ⟨w.heap.size + 1, 0, none⟩ (.int .i64 c.x) (by show (w.heap.size + 1 : Nat) ≠ _; omega)).set_ne ⟨w.heap.size + 1, 1, none⟩ (.int .i64 c.y) (by show (w.heap.size + 1 : Nat) ≠ _; omega)).set_ne ⟨w.heap.size + 1 + 1, 0, none⟩ (.int .i64 a.x) (by show (w.heap.size + 1 + 1 : Nat) ≠ _; omega)).set_ne ⟨w.heap.size + 1 + 1, 1, none⟩ (.int .i64 a.y) (by show (w.heap.size + 1 + 1 : Nat) ≠ _; omega))).drew
 replace hw : Below w.heap.size w W5 := by have hl := hw.size; rw [hW]; go_grown
 clear Fa Fb Fc Fr
 clear hW Ba Bb Bc Br
 have Ba := Ca
 have Bb := Cb
 have Bc := Cc
 have Br := Cr
 clear Ca Cb Cc Cr
 try rw [rounds_succ]
 have Fa := Ba.facts
 have Fb := Bb.facts
 have Fc := Bc.facts
 have Fr := Br.facts
 go_wp2_with fail
 refine (kcb _).mono ?_
 rintro e w6 ⟨rfl, hb⟩
 clear Fa Fb Fc Fr
 replace Ba := Ba.ee hb
 replace Bb := Bb.ee hb
 replace Bc := Bc.ee hb
 replace Br := Br.ee hb
 replace hw := upB hw hb
 clear hb
 have Fa := Ba.facts
 have Fb := Bb.facts
 have Fc := Bc.facts
 have Fr := Br.facts
 go_wp2_with fail
 go_region
 go_wp2_with fail
 refine zA2 fun W7 hW => ?_
 have Ca : Box W7 (w.heap.size) [.int .i64 c.x, .int .i64 c.y] 30 := by rw [hW]; exact (((((((Ba.set 0 (.int .i64 c.x)).set 1 (.int .i64 c.y)).set_ne ⟨w.heap.size + 1, 0, none⟩ (.int .i64 a.x) (by show (w.heap.size + 1 : Nat) ≠ _; omega)).set_ne ⟨w.heap.size + 1, 1, none⟩ (.int .i64 a.y) (by show (w.heap.size + 1 : Nat) ≠ _; omega)).set_ne ⟨w.heap.size + 1 + 1, 0, none⟩ (.int .i64 b.x) (by show (w.heap.size + 1 + 1 : Nat) ≠ _; omega)).set_ne ⟨w.heap.size + 1 + 1, 1, none⟩ (.int .i64 b.y) (by show (w.heap.size + 1 + 1 : Nat) ≠ _; omega))).drew
 have Cb : Box W7 (w.heap.size + 1) [.int .i64 a.x, .int .i64 a.y] 30 := by rw [hW]; exact (((((((Bb.set_ne ⟨w.heap.size, 0, none⟩ (.int .i64 c.x) (by show (w.heap.size : Nat) ≠ _; omega)).set_ne ⟨w.heap.size, 1, none⟩ (.int .i64 c.y) (by show (w.heap.size : Nat) ≠ _; omega)).set 0 (.int .i64 a.x)).set 1 (.int .i64 a.y)).set_ne ⟨w.heap.size + 1 + 1, 0, none⟩ (.int .i64 b.x) (by show (w.heap.size + 1 + 1 : Nat) ≠ _; omega)).set_ne ⟨w.heap.size + 1 + 1, 1, none⟩ (.int .i64 b.y) (by show (w.heap.size + 1 + 1 : Nat) ≠ _; omega))).drew
 have Cc : Box W7 (w.heap.size + 1 + 1) [.int .i64 b.x, .int .i64 b.y] 30 := by rw [hW]; exact (((((((Bc.set_ne ⟨w.heap.size, 0, none⟩ (.int .i64 c.x) (by show (w.heap.size : Nat) ≠ _; omega)).set_ne ⟨w.heap.size, 1, none⟩ (.int .i64 c.y) (by show (w.heap.size : Nat) ≠ _; omega)).set_ne ⟨w.heap.size + 1, 0, none⟩ (.int .i64 a.x) (by show (w.heap.size + 1 : Nat) ≠ _; omega)).set_ne ⟨w.heap.size + 1, 1, none⟩ (.int .i64 a.y) (by show (w.heap.size + 1 : Nat) ≠ _; omega)).set 0 (.int .i64 b.x)).set 1 (.int .i64 b.y))).drew
 have Cr : Box W7 (w.heap.size + 1 + 1 + 1) [.int .i64 0, .int .i64 0, .int .i64 0, .int .i64 0, .int .i64 0, .int .i64 0] 38 := by rw [hW]; exact (((((((Br.set_ne ⟨w.heap.size, 0, none⟩ (.int .i64 c.x) (by show (w.heap.size : Nat) ≠ _; omega)).set_ne ⟨w.heap.size, 1, none⟩ (.int .i64 c.y) (by show (w.heap.size : Nat) ≠ _; omega)).set_ne ⟨w.heap.size + 1, 0, none⟩ (.int .i64 a.x) (by show (w.heap.size + 1 : Nat) ≠ _; omega)).set_ne ⟨w.heap.size + 1, 1, none⟩ (.int .i64 a.y) (by show (w.heap.size + 1 : Nat) ≠ _; omega)).set_ne ⟨w.heap.size + 1 + 1, 0, none⟩ (.int .i64 b.x) (by show (w.heap.size + 1 + 1 : Nat) ≠ _; omega)).set_ne ⟨w.heap.size + 1 + 1, 1, none⟩ (.int .i64 b.y) (by show (w.heap.size + 1 + 1 : Nat) ≠ _; omega))).drew
 replace hw : Below w.heap.size w W7 := by have hl := hw.size; rw [hW]; go_grown
 clear Fa Fb Fc Fr
 clear hW Ba Bb Bc Br
 have Ba := Ca
 have Bb := Cb
 have Bc := Cc
 have Br := Cr
 clear Ca Cb Cc Cr
 try rw [rounds_succ]
 have Fa := Ba.facts
 have Fb := Bb.facts
 have Fc := Bc.facts
 have Fr := Br.facts
 go_wp2_with fail
 refine (kac _).mono ?_
 rintro e w8 ⟨rfl, hb⟩
 clear Fa Fb Fc Fr
 replace Ba := Ba.ee hb
 replace Bb := Bb.ee hb
 replace Bc := Bc.ee hb
 replace Br := Br.ee hb
 replace hw := upB hw hb
 clear hb
 have Fa := Ba.facts
 have Fb := Bb.facts
 have Fc := Bc.facts
 have Fr := Br.facts
 go_wp2_with fail
 refine (kbc _).mono ?_
 rintro e w9 ⟨rfl, hb⟩
 clear Fa Fb Fc Fr
 replace Ba := Ba.ee hb
 replace Bb := Bb.ee hb
 replace Bc := Bc.ee hb
 replace Br := Br.ee hb
 replace hw := upB hw hb
 clear hb
 have Fa := Ba.facts
 have Fb := Bb.facts
 have Fc := Bc.facts
 have Fr := Br.facts
 go_wp2_with fail
 refine bodyPost_ret (v := .tuple #[.agg #[.int .i64 c.x, .int .i64 c.y, .int .i64 a.x, .int .i64 a.y, .int .i64 b.x, .int .i64 b.y], .bool true]) (by simp [results, Tryz.results47, go_sem, Fr]) rfl ⟨rfl, by have hl := hw.size; go_grown⟩
theorem rmake_p3 (a b c : Pt) (h0 : ori a b c = 1) (tba : decide (cmpP b a < 0) = false) (tca : decide (cmpP c a < 0) = true) (tcb : decide (cmpP c b < 0) = true) (tac : decide (cmpP a c < 0) = false) (tbc : decide (cmpP b c < 0) = false) (w : World) :
    Calls Tryz.prog 47 #[.agg #[.int .i64 a.x, .int .i64 a.y], .agg #[.int .i64 b.x, .int .i64 b.y], .agg #[.int .i64 c.x, .int .i64 c.y]] w fun e w' => e = .returned (.tuple #[.agg #[.int .i64 c.x, .int .i64 c.y, .int .i64 a.x, .int .i64 a.y, .int .i64 b.x, .int .i64 b.y], .bool true]) ∧ Below w.heap.size w w' := by
 have co := zA6 a b c
 rw [h0] at co
 clear h0
 have kba := zA9 b a
 generalize cmpP b a = nba at *
 have kca := zA9 c a
 generalize cmpP c a = nca at *
 have kcb := zA9 c b
 generalize cmpP c b = ncb at *
 have kac := zA9 a c
 generalize cmpP a c = nac at *
 have kbc := zA9 b c
 generalize cmpP b c = nbc at *
 go_enter Tryz.func47, Tryz.ntmps47
 go_wp2_with fail
 refine zA1 fun W1 hW => ?_
 have Ba : Box W1 (w.heap.size) [.int .i64 a.x, .int .i64 a.y] 30 := by rw [hW]; exact (((Box.new rfl).old _).old _).old _
 have Bb : Box W1 (w.heap.size + 1) [.int .i64 b.x, .int .i64 b.y] 30 := by rw [hW]; exact ((Box.new (by simp)).old _).old _
 have Bc : Box W1 (w.heap.size + 1 + 1) [.int .i64 c.x, .int .i64 c.y] 30 := by rw [hW]; exact (Box.new (by simp)).old _
 have Br : Box W1 (w.heap.size + 1 + 1 + 1) [.int .i64 0, .int .i64 0, .int .i64 0, .int .i64 0, .int .i64 0, .int .i64 0] 38 := by rw [hW]; exact Box.new (by simp)
 have hw : Below w.heap.size w W1 := by rw [hW]; go_grown
 clear hW
 refine (co _).mono ?_
 rintro e w2 ⟨rfl, hb⟩
 replace Ba := Ba.ee hb
 replace Bb := Bb.ee hb
 replace Bc := Bc.ee hb
 replace Br := Br.ee hb
 replace hw := upB hw hb
 clear hb
 have Fa := Ba.facts
 have Fb := Bb.facts
 have Fc := Bc.facts
 have Fr := Br.facts
 go_wp2_with fail
 refine zA2 fun W3 hW => ?_
 replace hw : Below w.heap.size w W3 := by rw [hW]; exact hw
 replace Ba : Box W3 (w.heap.size) [.int .i64 a.x, .int .i64 a.y] 30 := by rw [hW]; exact Ba
 replace Bb : Box W3 (w.heap.size + 1) [.int .i64 b.x, .int .i64 b.y] 30 := by rw [hW]; exact Bb
 replace Bc : Box W3 (w.heap.size + 1 + 1) [.int .i64 c.x, .int .i64 c.y] 30 := by rw [hW]; exact Bc
 replace Br : Box W3 (w.heap.size + 1 + 1 + 1) [.int .i64 0, .int .i64 0, .int .i64 0, .int .i64 0, .int .i64 0, .int .i64 0] 38 := by rw [hW]; exact Br
 clear hW
 clear Fa Fb Fc Fr
 refine wp_loop_rounds 4 ?_
 try rw [rounds_succ]
 have Fa := Ba.facts
 have Fb := Bb.facts
 have Fc := Bc.facts
 have Fr := Br.facts
 go_wp2_with fail
 refine (kba _).mono ?_
 rintro e w4 ⟨rfl, hb⟩
 clear Fa Fb Fc Fr
 replace Ba := Ba.ee hb
 replace Bb := Bb.ee hb
 replace Bc := Bc.ee hb
 replace Br := Br.ee hb
 replace hw := upB hw hb
 clear hb
 have Fa := Ba.facts
 have Fb := Bb.facts
 have Fc := Bc.facts
 have Fr := Br.facts
 go_wp2_with fail
 refine (kca _).mono ?_
 rintro e w5 ⟨rfl, hb⟩
 clear Fa Fb Fc Fr
 replace Ba := Ba.ee hb
 replace Bb := Bb.ee hb
 replace Bc := Bc.ee hb
 replace Br := Br.ee hb
 replace hw := upB hw hb
 clear hb
 have Fa := Ba.facts
 have Fb := Bb.facts
 have Fc := Bc.facts
 have Fr := Br.facts
 go_wp2_with fail
 go_region
 go_wp2_with fail
 refine zA2 fun W6 hW => ?_
 have Ca : Box W6 (w.heap.size) [.int .i64 b.x, .int .i64 b.y] 30 := by rw [hW]; exact (((((((Ba.set 0 (.int .i64 b.x)).set 1 (.int .i64 b.y)).set_ne ⟨w.heap.size + 1, 0, none⟩ (.int .i64 c.x) (by show (w.heap.size + 1 : Nat) ≠ _; omega)).set_ne ⟨w.heap.size + 1, 1, none⟩ (.int .i64 c.y) (by show (w.heap.size + 1 : Nat) ≠ _; omega)).set_ne ⟨w.heap.size + 1 + 1, 0, none⟩ (.int .i64 a.x) (by show (w.heap.size + 1 + 1 : Nat) ≠ _; omega)).set_ne ⟨w.heap.size + 1 + 1, 1, none⟩ (.int .i64 a.y) (by show (w.heap.size + 1 + 1 : Nat) ≠ _; omega))).drew
 have Cb : Box W6 (w.heap.size + 1) [.int .i64 c.x, .int .i64 c.y] 30 := by rw [hW]; exact (((((((Bb.set_ne ⟨w.heap.size, 0, none⟩ (.int .i64 b.x) (by show (w.heap.size : Nat) ≠ _; omega)).set_ne ⟨w.heap.size, 1, none⟩ (.int .i64 b.y) (by show (w.heap.size : Nat) ≠ _; omega)).set 0 (.int .i64 c.x)).set 1 (.int .i64 c.y)).set_ne ⟨w.heap.size + 1 + 1, 0, none⟩ (.int .i64 a.x) (by show (w.heap.size + 1 + 1 : Nat) ≠ _; omega)).set_ne ⟨w.heap.size + 1 + 1, 1, none⟩ (.int .i64 a.y) (by show (w.heap.size + 1 + 1 : Nat) ≠ _; omega))).drew
 have Cc : Box W6 (w.heap.size + 1 + 1) [.int .i64 a.x, .int .i64 a.y] 30 := by rw [hW]; exact (((((((Bc.set_ne ⟨w.heap.size, 0, none⟩ (.int .i64 b.x) (by show (w.heap.size : Nat) ≠ _; omega)).set_ne ⟨w.heap.size, 1, none⟩ (.int .i64 b.y) (by show (w.heap.size : Nat) ≠ _; omega)).set_ne ⟨w.heap.size + 1, 0, none⟩ (.int .i64 c.x) (by show (w.heap.size + 1 : Nat) ≠ _; omega)).set_ne ⟨w.heap.size + 1, 1, none⟩ (.int .i64 c.y) (by show (w.heap.size + 1 : Nat) ≠ _; omega)).set 0 (.int .i64 a.x)).set 1 (.int .i64 a.y))).drew
 have Cr : Box W6 (w.heap.size + 1 + 1 + 1) [.int .i64 0, .int .i64 0, .int .i64 0, .int .i64 0, .int .i64 0, .int .i64 0] 38 := by rw [hW]; exact (((((((Br.set_ne ⟨w.heap.size, 0, none⟩ (.int .i64 b.x) (by show (w.heap.size : Nat) ≠ _; omega)).set_ne ⟨w.heap.size, 1, none⟩ (.int .i64 b.y) (by show (w.heap.size : Nat) ≠ _; omega)).set_ne ⟨w.heap.size + 1, 0, none⟩ (.int .i64 c.x) (by show (w.heap.size + 1 : Nat) ≠ _; omega)).set_ne ⟨w.heap.size + 1, 1, none⟩ (.int .i64 c.y) (by show (w.heap.size + 1 : Nat) ≠ _; omega)).set_ne ⟨w.heap.size + 1 + 1, 0, none⟩ (.int .i64 a.x) (by show (w.heap.size + 1 + 1 : Nat) ≠ _; omega)).set_ne ⟨w.heap.size + 1 + 1, 1, none⟩ (.int .i64 a.y) (by show (w.heap.size + 1 + 1 : Nat) ≠ _; omega))).drew
 replace hw : Below w.heap.size w W6 := by have hl := hw.size; rw [hW]; go_grown
 clear Fa Fb Fc Fr
 clear hW Ba Bb Bc Br
 have Ba := Ca
 have Bb := Cb
 have Bc := Cc
 have Br := Cr
 clear Ca Cb Cc Cr
 try rw [rounds_succ]
 have Fa := Ba.facts
 have Fb := Bb.facts
 have Fc := Bc.facts
 have Fr := Br.facts
 go_wp2_with fail
 refine (kcb _).mono ?_
 rintro e w7 ⟨rfl, hb⟩
 clear Fa Fb Fc Fr
 replace Ba := Ba.ee hb
 replace Bb := Bb.ee hb
 replace Bc := Bc.ee hb
 replace Br := Br.ee hb
 replace hw := upB hw hb
 clear hb
 have Fa := Ba.facts
 have Fb := Bb.facts
 have Fc := Bc.facts
 have Fr := Br.facts
 go_wp2_with fail
 go_region
 go_wp2_with fail
 refine zA2 fun W8 hW => ?_
 have Ca : Box W8 (w.heap.size) [.int .i64 c.x, .int .i64 c.y] 30 := by rw [hW]; exact (((((((Ba.set 0 (.int .i64 c.x)).set 1 (.int .i64 c.y)).set_ne ⟨w.heap.size + 1, 0, none⟩ (.int .i64 a.x) (by show (w.heap.size + 1 : Nat) ≠ _; omega)).set_ne ⟨w.heap.size + 1, 1, none⟩ (.int .i64 a.y) (by show (w.heap.size + 1 : Nat) ≠ _; omega)).set_ne ⟨w.heap.size + 1 + 1, 0, none⟩ (.int .i64 b.x) (by show (w.heap.size + 1 + 1 : Nat) ≠ _; omega)).set_ne ⟨w.heap.size + 1 + 1, 1, none⟩ (.int .i64 b.y) (by show (w.heap.size + 1 + 1 : Nat) ≠ _; omega))).drew
 have Cb : Box W8 (w.heap.size + 1) [.int .i64 a.x, .int .i64 a.y] 30 := by rw [hW]; exact (((((((Bb.set_ne ⟨w.heap.size, 0, none⟩ (.int .i64 c.x) (by show (w.heap.size : Nat) ≠ _; omega)).set_ne ⟨w.heap.size, 1, none⟩ (.int .i64 c.y) (by show (w.heap.size : Nat) ≠ _; omega)).set 0 (.int .i64 a.x)).set 1 (.int .i64 a.y)).set_ne ⟨w.heap.size + 1 + 1, 0, none⟩ (.int .i64 b.x) (by show (w.heap.size + 1 + 1 : Nat) ≠ _; omega)).set_ne ⟨w.heap.size + 1 + 1, 1, none⟩ (.int .i64 b.y) (by show (w.heap.size + 1 + 1 : Nat) ≠ _; omega))).drew
 have Cc : Box W8 (w.heap.size + 1 + 1) [.int .i64 b.x, .int .i64 b.y] 30 := by rw [hW]; exact (((((((Bc.set_ne ⟨w.heap.size, 0, none⟩ (.int .i64 c.x) (by show (w.heap.size : Nat) ≠ _; omega)).set_ne ⟨w.heap.size, 1, none⟩ (.int .i64 c.y) (by show (w.heap.size : Nat) ≠ _; omega)).set_ne ⟨w.heap.size + 1, 0, none⟩ (.int .i64 a.x) (by show (w.heap.size + 1 : Nat) ≠ _; omega)).set_ne ⟨w.heap.size + 1, 1, none⟩ (.int .i64 a.y) (by show (w.heap.size + 1 : Nat) ≠ _; omega)).set 0 (.int .i64 b.x)).set 1 (.int .i64 b.y))).drew
 have Cr : Box W8 (w.heap.size + 1 + 1 + 1) [.int .i64 0, .int .i64 0, .int .i64 0, .int .i64 0, .int .i64 0, .int .i64 0] 38 := by rw [hW]; exact (((((((Br.set_ne ⟨w.heap.size, 0, none⟩ (.int .i64 c.x) (by show (w.heap.size : Nat) ≠ _; omega)).set_ne ⟨w.heap.size, 1, none⟩ (.int .i64 c.y) (by show (w.heap.size : Nat) ≠ _; omega)).set_ne ⟨w.heap.size + 1, 0, none⟩ (.int .i64 a.x) (by show (w.heap.size + 1 : Nat) ≠ _; omega)).set_ne ⟨w.heap.size + 1, 1, none⟩ (.int .i64 a.y) (by show (w.heap.size + 1 : Nat) ≠ _; omega)).set_ne ⟨w.heap.size + 1 + 1, 0, none⟩ (.int .i64 b.x) (by show (w.heap.size + 1 + 1 : Nat) ≠ _; omega)).set_ne ⟨w.heap.size + 1 + 1, 1, none⟩ (.int .i64 b.y) (by show (w.heap.size + 1 + 1 : Nat) ≠ _; omega))).drew
 replace hw : Below w.heap.size w W8 := by have hl := hw.size; rw [hW]; go_grown
 clear Fa Fb Fc Fr
 clear hW Ba Bb Bc Br
 have Ba := Ca
 have Bb := Cb
 have Bc := Cc
 have Br := Cr
 clear Ca Cb Cc Cr
 try rw [rounds_succ]
 have Fa := Ba.facts
 have Fb := Bb.facts
 have Fc := Bc.facts
 have Fr := Br.facts
 go_wp2_with fail
 refine (kac _).mono ?_
 rintro e w9 ⟨rfl, hb⟩
 clear Fa Fb Fc Fr
 replace Ba := Ba.ee hb
 replace Bb := Bb.ee hb
 replace Bc := Bc.ee hb
 replace Br := Br.ee hb
 replace hw := upB hw hb
 clear hb
 have Fa := Ba.facts
 have Fb := Bb.facts
 have Fc := Bc.facts
 have Fr := Br.facts
 go_wp2_with fail
 refine (kbc _).mono ?_
 rintro e w10 ⟨rfl, hb⟩
 clear Fa Fb Fc Fr
 replace Ba := Ba.ee hb
 replace Bb := Bb.ee hb
 replace Bc := Bc.ee hb
 replace Br := Br.ee hb
 replace hw := upB hw hb
 clear hb
 have Fa := Ba.facts
 have Fb := Bb.facts
 have Fc := Bc.facts
 have Fr := Br.facts
 go_wp2_with fail
 refine bodyPost_ret (v := .tuple #[.agg #[.int .i64 c.x, .int .i64 c.y, .int .i64 a.x, .int .i64 a.y, .int .i64 b.x, .int .i64 b.y], .bool true]) (by simp [results, Tryz.results47, go_sem, Fr]) rfl ⟨rfl, by have hl := hw.size; go_grown⟩
theorem rmake_n0 (a b c : Pt) (h0 : ori a b c = -1) (tca : decide (cmpP c a < 0) = false) (tba : decide (cmpP b a < 0) = false) (w : World) :
    Calls Tryz.prog 47 #[.agg #[.int .i64 a.x, .int .i64 a.y], .agg #[.int .i64 b.x, .int .i64 b.y], .agg #[.int .i64 c.x, .int .i64 c.y]] w fun e w' => e = .returned (.tuple #[.agg #[.int .i64 a.x, .int .i64 a.y, .int .i64 c.x, .int .i64 c.y, .int .i64 b.x, .int .i64 b.y], .bool true]) ∧ Below w.heap.size w w' := by
 have co := zA6 a b c
 rw [h0] at co
 clear h0
 have kca := zA9 c a
 generalize cmpP c a = nca at *
 have kba := zA9 b a
 generalize cmpP b a = nba at *
 go_enter Tryz.func47, Tryz.ntmps47
 go_wp2_with fail
 refine zA1 fun W1 hW => ?_
 have Ba : Box W1 (w.heap.size) [.int .i64 a.x, .int .i64 a.y] 30 := by rw [hW]; exact (((Box.new rfl).old _).old _).old _
 have Bb : Box W1 (w.heap.size + 1) [.int .i64 b.x, .int .i64 b.y] 30 := by rw [hW]; exact ((Box.new (by simp)).old _).old _
 have Bc : Box W1 (w.heap.size + 1 + 1) [.int .i64 c.x, .int .i64 c.y] 30 := by rw [hW]; exact (Box.new (by simp)).old _
 have Br : Box W1 (w.heap.size + 1 + 1 + 1) [.int .i64 0, .int .i64 0, .int .i64 0, .int .i64 0, .int .i64 0, .int .i64 0] 38 := by rw [hW]; exact Box.new (by simp)
 have hw : Below w.heap.size w W1 := by rw [hW]; go_grown
 clear hW
 refine (co _).mono ?_
 rintro e w2 ⟨rfl, hb⟩
 replace Ba := Ba.ee hb
 replace Bb := Bb.ee hb
 replace Bc := Bc.ee hb
 replace Br := Br.ee hb
 replace hw := upB hw hb
 clear hb
 have Fa := Ba.facts
 have Fb := Bb.facts
 have Fc := Bc.facts
 have Fr := Br.facts
 go_wp2_with fail
 refine zA2 fun W3 hW => ?_
 have Ca : Box W3 (w.heap.size) [.int .i64 a.x, .int .i64 a.y] 30 := by rw [hW]; exact ((((Ba.set_ne ⟨w.heap.size + 1, 0, none⟩ (.int .i64 c.x) (by show (w.heap.size + 1 : Nat) ≠ _; omega)).set_ne ⟨w.heap.size + 1, 1, none⟩ (.int .i64 c.y) (by show (w.heap.size + 1 : Nat) ≠ _; omega)).set_ne ⟨w.heap.size + 1 + 1, 0, none⟩ (.int .i64 b.x) (by show (w.heap.size + 1 + 1 : Nat) ≠ _; omega)).set_ne ⟨w.heap.size + 1 + 1, 1, none⟩ (.int .i64 b.y) (by show (w.heap.size + 1 + 1 : Nat) ≠ _; omega))
 have Cb : Box W3 (w.heap.size + 1) [.int .i64 c.x, .int .i64 c.y] 30 := by rw [hW]; exact ((((Bb.set 0 (.int .i64 c.x)).set 1 (.int .i64 c.y)).set_ne ⟨w.heap.size + 1 + 1, 0, none⟩ (.int .i64 b.x) (by show (w.heap.size + 1 + 1 : Nat) ≠ _; omega)).set_ne ⟨w.heap.size + 1 + 1, 1, none⟩ (.int .i64 b.y) (by show (w.heap.size + 1 + 1 : Nat) ≠ _; omega))
 have Cc : Box W3 (w.heap.size + 1 + 1) [.int .i64 b.x, .int .i64 b.y] 30 := by rw [hW]; exact ((((Bc.set_ne ⟨w.heap.size + 1, 0, none⟩ (.int .i64 c.x) (by show (w.heap.size + 1 : Nat) ≠ _; omega)).set_ne ⟨w.heap.size + 1, 1, none⟩ (.int .i64 c.y) (by show (w.heap.size + 1 : Nat) ≠ _; omega)).set 0 (.int .i64 b.x)).set 1 (.int .i64 b.y))
 have Cr : Box W3 (w.heap.size + 1 + 1 + 1) [.int .i64 0, .int .i64 0, .int .i64 0, .int .i64 0, .int .i64 0, .int .i64 0] 38 := by rw [hW]; exact ((((Br.set_ne ⟨w.heap.size + 1, 0, none⟩ (.int .i64 c.x) (by show (w.heap.size + 1 : Nat) ≠ _; omega)).set_ne ⟨w.heap.size + 1, 1, none⟩ (.int .i64 c.y) (by show (w.heap.size + 1 : Nat) ≠ _; omega)).set_ne ⟨w.heap.size + 1 + 1, 0, none⟩ (.int .i64 b.x) (by show (w.heap.size + 1 + 1 : Nat) ≠ _; omega)).set_ne ⟨w.heap.size + 1 + 1, 1, none⟩ (.int .i64 b.y) (by show (w.heap.size + 1 + 1 : Nat) ≠ _; omega))
 replace hw : Below w.heap.size w W3 := by have hl := hw.size; rw [hW]; go_grown
 clear Fa Fb Fc Fr
 clear hW Ba Bb Bc Br
 have Ba := Ca
 have Bb := Cb
 have Bc := Cc
 have Br := Cr
 clear Ca Cb Cc Cr
 refine wp_loop_rounds 4 ?_
 try rw [rounds_succ]
 have Fa := Ba.facts
 have Fb := Bb.facts
 have Fc := Bc.facts
 have Fr := Br.facts
 go_wp2_with fail
 refine (kca _).mono ?_
 rintro e w4 ⟨rfl, hb⟩
 clear Fa Fb Fc Fr
 replace Ba := Ba.ee hb
 replace Bb := Bb.ee hb
 replace Bc := Bc.ee hb
 replace Br := Br.ee hb
 replace hw := upB hw hb
 clear hb
 have Fa := Ba.facts
 have Fb := Bb.facts
 have Fc := Bc.facts
 have Fr := Br.facts
 go_wp2_with fail
 refine (kba _).mono ?_
 rintro e w5 ⟨rfl, hb⟩
 clear Fa Fb Fc Fr
 replace Ba := Ba.ee hb
 replace Bb := Bb.ee hb
 replace Bc := Bc.ee hb
 replace Br := Br.ee hb
 replace hw := upB hw hb
 clear hb
 have Fa := Ba.facts
 have Fb := Bb.facts
 have Fc := Bc.facts
 have Fr := Br.facts
 go_wp2_with fail
 refine bodyPost_ret (v := .tuple #[.agg #[.int .i64 a.x, .int .i64 a.y, .int .i64 c.x, .int .i64 c.y, .int .i64 b.x, .int .i64 b.y], .bool true]) (by simp [results, Tryz.results47, go_sem, Fr]) rfl ⟨rfl, by have hl := hw.size; go_grown⟩
theorem rmake_n1 (a b c : Pt) (h0 : ori a b c = -1) (tca : decide (cmpP c a < 0) = true) (tbc : decide (cmpP b c < 0) = false) (tac : decide (cmpP a c < 0) = false) (w : World) :
    Calls Tryz.prog 47 #[.agg #[.int .i64 a.x, .int .i64 a.y], .agg #[.int .i64 b.x, .int .i64 b.y], .agg #[.int .i64 c.x, .int .i64 c.y]] w fun e w' => e = .returned (.tuple #[.agg #[.int .i64 c.x, .int .i64 c.y, .int .i64 b.x, .int .i64 b.y, .int .i64 a.x, .int .i64 a.y], .bool true]) ∧ Below w.heap.size w w' := by
 have co := zA6 a b c
 rw [h0] at co
 clear h0
 have kca := zA9 c a
 generalize cmpP c a = nca at *
 have kbc := zA9 b c
 generalize cmpP b c = nbc at *
 have kac := zA9 a c
 generalize cmpP a c = nac at *
 go_enter Tryz.func47, Tryz.ntmps47
 go_wp2_with fail
 refine zA1 fun W1 hW => ?_
 have Ba : Box W1 (w.heap.size) [.int .i64 a.x, .int .i64 a.y] 30 := by rw [hW]; exact (((Box.new rfl).old _).old _).old _
 have Bb : Box W1 (w.heap.size + 1) [.int .i64 b.x, .int .i64 b.y] 30 := by rw [hW]; exact ((Box.new (by simp)).old _).old _
 have Bc : Box W1 (w.heap.size + 1 + 1) [.int .i64 c.x, .int .i64 c.y] 30 := by rw [hW]; exact (Box.new (by simp)).old _
 have Br : Box W1 (w.heap.size + 1 + 1 + 1) [.int .i64 0, .int .i64 0, .int .i64 0, .int .i64 0, .int .i64 0, .int .i64 0] 38 := by rw [hW]; exact Box.new (by simp)
 have hw : Below w.heap.size w W1 := by rw [hW]; go_grown
 clear hW
 refine (co _).mono ?_
 rintro e w2 ⟨rfl, hb⟩
 replace Ba := Ba.ee hb
 replace Bb := Bb.ee hb
 replace Bc := Bc.ee hb
 replace Br := Br.ee hb
 replace hw := upB hw hb
 clear hb
 have Fa := Ba.facts
 have Fb := Bb.facts
 have Fc := Bc.facts
 have Fr := Br.facts
 go_wp2_with fail
 refine zA2 fun W3 hW => ?_
 have Ca : Box W3 (w.heap.size) [.int .i64 a.x, .int .i64 a.y] 30 := by rw [hW]; exact ((((Ba.set_ne ⟨w.heap.size + 1, 0, none⟩ (.int .i64 c.x) (by show (w.heap.size + 1 : Nat) ≠ _; omega)).set_ne ⟨w.heap.size + 1, 1, none⟩ (.int .i64 c.y) (by show (w.heap.size + 1 : Nat) ≠ _; omega)).set_ne ⟨w.heap.size + 1 + 1, 0, none⟩ (.int .i64 b.x) (by show (w.heap.size + 1 + 1 : Nat) ≠ _; omega)).set_ne ⟨w.heap.size + 1 + 1, 1, none⟩ (.int .i64 b.y) (by show (w.heap.size + 1 + 1 : Nat) ≠ _; omega))
 have Cb : Box W3 (w.heap.size + 1) [.int .i64 c.x, .int .i64 c.y] 30 := by rw [hW]; exact ((((Bb.set 0 (.int .i64 c.x)).set 1 (.int .i64 c.y)).set_ne ⟨w.heap.size + 1 + 1, 0, none⟩ (.int .i64 b.x) (by show (w.heap.size + 1 + 1 : Nat) ≠ _; omega)).set_ne ⟨w.heap.size + 1 + 1, 1, none⟩ (.int .i64 b.y) (by show (w.heap.size + 1 + 1 : Nat) ≠ _; omega))
 have Cc : Box W3 (w.heap.size + 1 + 1) [.int .i64 b.x, .int .i64 b.y] 30 := by rw [hW]; exact ((((Bc.set_ne ⟨w.heap.size + 1, 0, none⟩ (.int .i64 c.x) (by show (w.heap.size + 1 : Nat) ≠ _; omega)).set_ne ⟨w.heap.size + 1, 1, none⟩ (.int .i64 c.y) (by show (w.heap.size + 1 : Nat) ≠ _; omega)).set 0 (.int .i64 b.x)).set 1 (.int .i64 b.y))
 have Cr : Box W3 (w.heap.size + 1 + 1 + 1) [.int .i64 0, .int .i64 0, .int .i64 0, .int .i64 0, .int .i64 0, .int .i64 0] 38 := by rw [hW]; exact ((((Br.set_ne ⟨w.heap.size + 1, 0, none⟩ (.int .i64 c.x) (by show (w.heap.size + 1 : Nat) ≠ _; omega)).set_ne ⟨w.heap.size + 1, 1, none⟩ (.int .i64 c.y) (by show (w.heap.size + 1 : Nat) ≠ _; omega)).set_ne ⟨w.heap.size + 1 + 1, 0, none⟩ (.int .i64 b.x) (by show (w.heap.size + 1 + 1 : Nat) ≠ _; omega)).set_ne ⟨w.heap.size + 1 + 1, 1, none⟩ (.int .i64 b.y) (by show (w.heap.size + 1 + 1 : Nat) ≠ _; omega))
 replace hw : Below w.heap.size w W3 := by have hl := hw.size; rw [hW]; go_grown
 clear Fa Fb Fc Fr
 clear hW Ba Bb Bc Br
 have Ba := Ca
 have Bb := Cb
 have Bc := Cc
 have Br := Cr
 clear Ca Cb Cc Cr
 refine wp_loop_rounds 4 ?_
 try rw [rounds_succ]
 have Fa := Ba.facts
 have Fb := Bb.facts
 have Fc := Bc.facts
 have Fr := Br.facts
 go_wp2_with fail
 refine (kca _).mono ?_
 rintro e w4 ⟨rfl, hb⟩
 clear Fa Fb Fc Fr
 replace Ba := Ba.ee hb
 replace Bb := Bb.ee hb
 replace Bc := Bc.ee hb
 replace Br := Br.ee hb
 replace hw := upB hw hb
 clear hb
 have Fa := Ba.facts
 have Fb := Bb.facts
 have Fc := Bc.facts
 have Fr := Br.facts
 go_wp2_with fail
 go_region
 go_wp2_with fail
 refine zA2 fun W5 hW => ?_
 have Ca : Box W5 (w.heap.size) [.int .i64 c.x, .int .i64 c.y] 30 := by rw [hW]; exact (((((((Ba.set 0 (.int .i64 c.x)).set 1 (.int .i64 c.y)).set_ne ⟨w.heap.size + 1, 0, none⟩ (.int .i64 b.x) (by show (w.heap.size + 1 : Nat) ≠ _; omega)).set_ne ⟨w.heap.size + 1, 1, none⟩ (.int .i64 b.y) (by show (w.heap.size + 1 : Nat) ≠ _; omega)).set_ne ⟨w.heap.size + 1 + 1, 0, none⟩ (.int .i64 a.x) (by show (w.heap.size + 1 + 1 : Nat) ≠ _; omega)).set_ne ⟨w.heap.size + 1 + 1, 1, none⟩ (.int .i64 a.y) (by show (w.heap.size + 1 + 1 : Nat) ≠ _; omega))).drew
 have Cb : Box W5 (w.heap.size + 1) [.int .i64 b.x, .int .i64 b.y] 30 := by rw [hW]; exact (((((((Bb.set_ne ⟨w.heap.size, 0, none⟩ (.int .i64 c.x) (by show (w.heap.size : Nat) ≠ _; omega)).set_ne ⟨w.heap.size, 1, none⟩ (.int .i64 c.y) (by show (w.heap.size : Nat) ≠ _; omega)).set 0 (.int .i64 b.x)).set 1 (.int .i64 b.y)).set_ne ⟨w.heap.size + 1 + 1, 0, none⟩ (.int .i64 a.x) (by show (w.heap.size + 1 + 1 : Nat) ≠ _; omega)).set_ne ⟨w.heap.size + 1 + 1, 1, none⟩ (.int .i64 a.y) (by show (w.heap.size + 1 + 1 : Nat) ≠ _; omega))).drew
 have Cc : Box W5 (w.heap.size + 1 + 1) [.int .i64 a.x, .int .i64 a.y] 30 := by rw [hW]; exact (((((((Bc.set_ne ⟨w.heap.size, 0, none⟩ (.int .i64 c.x) (by show (w.heap.size : Nat) ≠ _; omega)).set_ne ⟨w.heap.size, 1, none⟩ (.int .i64 c.y) (by show (w.heap.size : Nat) ≠ _; omega)).set_ne ⟨w.heap.size + 1, 0, none⟩ (.int .i64 b.x) (by show (w.heap.size + 1 : Nat) ≠ _; omega)).set_ne ⟨w.heap.size + 1, 1, none⟩ (.int .i64 b.y) (by show (w.heap.size + 1 : Nat) ≠ _; omega)).set 0 (.int .i64 a.x)).set 1 (.int .i64 a.y))).drew
 have Cr : Box W5 (w.heap.size + 1 + 1 + 1) [.int .i64 0, .int .i64 0, .int .i64 0, .int .i64 0, .int .i64 0, .int .i64 0] 38 := by rw [hW]; exact (((((((Br.set_ne ⟨w.heap.size, 0, none⟩ (.int .i64 c.x) (by show (w.heap.size : Nat) ≠ _; omega)).set_ne ⟨w.heap.size, 1, none⟩ (.int .i64 c.y) (by show (w.heap.size : Nat) ≠ _; omega)).set_ne ⟨w.heap.size + 1, 0, none⟩ (.int .i64 b.x) (by show (w.heap.size + 1 : Nat) ≠ _; omega)).set_ne ⟨w.heap.size + 1, 1, none⟩ (.int .i64 b.y) (by show (w.heap.size + 1 : Nat) ≠ _; omega)).set_ne ⟨w.heap.size + 1 + 1, 0, none⟩ (.int .i64 a.x) (by show (w.heap.size + 1 + 1 : Nat) ≠ _; omega)).set_ne ⟨w.heap.size + 1 + 1, 1, none⟩ (.int .i64 a.y) (by show (w.heap.size + 1 + 1 : Nat) ≠ _; omega))).drew
 replace hw : Below w.heap.size w W5 := by have hl := hw.size; rw [hW]; go_grown
 clear Fa Fb Fc Fr
 clear hW Ba Bb Bc Br
 have Ba := Ca
 have Bb := Cb
 have Bc := Cc
 have Br := Cr
 clear Ca Cb Cc Cr
 try rw [rounds_succ]
 have Fa := Ba.facts
 have Fb := Bb.facts
 have Fc := Bc.facts
 have Fr := Br.facts
 go_wp2_with fail
 refine (kbc _).mono ?_
 rintro e w6 ⟨rfl, hb⟩
 clear Fa Fb Fc Fr
 replace Ba := Ba.ee hb
 replace Bb := Bb.ee hb
 replace Bc := Bc.ee hb
 replace Br := Br.ee hb
 replace hw := upB hw hb
 clear hb
 have Fa := Ba.facts
 have Fb := Bb.facts
 have Fc := Bc.facts
 have Fr := Br.facts
 go_wp2_with fail
 refine (kac _).mono ?_
 rintro e w7 ⟨rfl, hb⟩
 clear Fa Fb Fc Fr
 replace Ba := Ba.ee hb
 replace Bb := Bb.ee hb
 replace Bc := Bc.ee hb
 replace Br := Br.ee hb
 replace hw := upB hw hb
 clear hb
 have Fa := Ba.facts
 have Fb := Bb.facts
 have Fc := Bc.facts
 have Fr := Br.facts
 go_wp2_with fail
 refine bodyPost_ret (v := .tuple #[.agg #[.int .i64 c.x, .int .i64 c.y, .int .i64 b.x, .int .i64 b.y, .int .i64 a.x, .int .i64 a.y], .bool true]) (by simp [results, Tryz.results47, go_sem, Fr]) rfl ⟨rfl, by have hl := hw.size; go_grown⟩
theorem rmake_n2 (a b c : Pt) (h0 : ori a b c = -1) (tca : decide (cmpP c a < 0) = true) (tbc : decide (cmpP b c < 0) = true) (tab : decide (cmpP a b < 0) = false) (tcb : decide (cmpP c b < 0) = false) (w : World) :
    Calls Tryz.prog 47 #[.agg #[.int .i64 a.x, .int .i64 a.y], .agg #[.int .i64 b.x, .int .i64 b.y], .agg #[.int .i64 c.x, .int .i64 c.y]] w fun e w' => e = .returned (.tuple #[.agg #[.int .i64 b.x, .int .i64 b.y, .int .i64 a.x, .int .i64 a.y, .int .i64 c.x, .int .i64 c.y], .bool true]) ∧ Below w.heap.size w w' := by
 have co := zA6 a b c
 rw [h0] at co
 clear h0
 have kca := zA9 c a
 generalize cmpP c a = nca at *
 have kbc := zA9 b c
 generalize cmpP b c = nbc at *
 have kab := zA9 a b
 generalize cmpP a b = nab at *
 have kcb := zA9 c b
 generalize cmpP c b = ncb at *
 go_enter Tryz.func47, Tryz.ntmps47
 go_wp2_with fail
 refine zA1 fun W1 hW => ?_
 have Ba : Box W1 (w.heap.size) [.int .i64 a.x, .int .i64 a.y] 30 := by rw [hW]; exact (((Box.new rfl).old _).old _).old _
 have Bb : Box W1 (w.heap.size + 1) [.int .i64 b.x, .int .i64 b.y] 30 := by rw [hW]; exact ((Box.new (by simp)).old _).old _
 have Bc : Box W1 (w.heap.size + 1 + 1) [.int .i64 c.x, .int .i64 c.y] 30 := by rw [hW]; exact (Box.new (by simp)).old _
 have Br : Box W1 (w.heap.size + 1 + 1 + 1) [.int .i64 0, .int .i64 0, .int .i64 0, .int .i64 0, .int .i64 0, .int .i64 0] 38 := by rw [hW]; exact Box.new (by simp)
 have hw : Below w.heap.size w W1 := by rw [hW]; go_grown
 clear hW
 refine (co _).mono ?_
 rintro e w2 ⟨rfl, hb⟩
 replace Ba := Ba.ee hb
 replace Bb := Bb.ee hb
 replace Bc := Bc.ee hb
 replace Br := Br.ee hb
 replace hw := upB hw hb
 clear hb
 have Fa := Ba.facts
 have Fb := Bb.facts
 have Fc := Bc.facts
 have Fr := Br.facts
 go_wp2_with fail
 refine zA2 fun W3 hW => ?_
 have Ca : Box W3 (w.heap.size) [.int .i64 a.x, .int .i64 a.y] 30 := by rw [hW]; exact ((((Ba.set_ne ⟨w.heap.size + 1, 0, none⟩ (.int .i64 c.x) (by show (w.heap.size + 1 : Nat) ≠ _; omega)).set_ne ⟨w.heap.size + 1, 1, none⟩ (.int .i64 c.y) (by show (w.heap.size + 1 : Nat) ≠ _; omega)).set_ne ⟨w.heap.size + 1 + 1, 0, none⟩ (.int .i64 b.x) (by show (w.heap.size + 1 + 1 : Nat) ≠ _; omega)).set_ne ⟨w.heap.size + 1 + 1, 1, none⟩ (.int .i64 b.y) (by show (w.heap.size + 1 + 1 : Nat) ≠ _; omega))
 have Cb : Box W3 (w.heap.size + 1) [.int .i64 c.x, .int .i64 c.y] 30 := by rw [hW]; exact ((((Bb.set 0 (.int .i64 c.x)).set 1 (.int .i64 c.y)).set_ne ⟨w.heap.size + 1 + 1, 0, none⟩ (.int .i64 b.x) (by show (w.heap.size + 1 + 1 : Nat) ≠ _; omega)).set_ne ⟨w.heap.size + 1 + 1, 1, none⟩ (.int .i64 b.y) (by show (w.heap.size + 1 + 1 : Nat) ≠ _; omega))
 have Cc : Box W3 (w.heap.size + 1 + 1) [.int .i64 b.x, .int .i64 b.y] 30 := by rw [hW]; exact ((((Bc.set_ne ⟨w.heap.size + 1, 0, none⟩ (.int .i64 c.x) (by show (w.heap.size + 1 : Nat) ≠ _; omega)).set_ne ⟨w.heap.size + 1, 1, none⟩ (.int .i64 c.y) (by show (w.heap.size + 1 : Nat) ≠ _; omega)).set 0 (.int .i64 b.x)).set 1 (.int .i64 b.y))
 have Cr : Box W3 (w.heap.size + 1 + 1 + 1) [.int .i64 0, .int .i64 0, .int .i64 0, .int .i64 0, .int .i64 0, .int .i64 0] 38 := by rw [hW]; exact ((((Br.set_ne ⟨w.heap.size + 1, 0, none⟩ (.int .i64 c.x) (by show (w.heap.size + 1 : Nat) ≠ _; omega)).set_ne ⟨w.heap.size + 1, 1, none⟩ (.int .i64 c.y) (by show (w.heap.size + 1 : Nat) ≠ _; omega)).set_ne ⟨w.heap.size + 1 + 1, 0, none⟩ (.int .i64 b.x) (by show (w.heap.size + 1 + 1 : Nat) ≠ _; omega)).set_ne ⟨w.heap.size + 1 + 1, 1, none⟩ (.int .i64 b.y) (by show (w.heap.size + 1 + 1 : Nat) ≠ _; omega))
 replace hw : Below w.heap.size w W3 := by have hl := hw.size; rw [hW]; go_grown
 clear Fa Fb Fc Fr
 clear hW Ba Bb Bc Br
 have Ba := Ca
 have Bb := Cb
 have Bc := Cc
 have Br := Cr
 clear Ca Cb Cc Cr
 refine wp_loop_rounds 4 ?_
 try rw [rounds_succ]
 have Fa := Ba.facts
 have Fb := Bb.facts
 have Fc := Bc.facts
 have Fr := Br.facts
 go_wp2_with fail
 refine (kca _).mono ?_
 rintro e w4 ⟨rfl, hb⟩
 clear Fa Fb Fc Fr
 replace Ba := Ba.ee hb
 replace Bb := Bb.ee hb
 replace Bc := Bc.ee hb
 replace Br := Br.ee hb
 replace hw := upB hw hb
 clear hb
 have Fa := Ba.facts
 have Fb := Bb.facts
 have Fc := Bc.facts
 have Fr := Br.facts
 go_wp2_with fail
 go_region
 go_wp2_with fail
 refine zA2 fun W5 hW => ?_
 have Ca : Box W5 (w.heap.size) [.int .i64 c.x, .int .i64 c.y] 30 := by rw [hW]; exact (((((((Ba.set 0 (.int .i64 c.x)).set 1 (.int .i64 c.y)).set_ne ⟨w.heap.size + 1, 0, none⟩ (.int .i64 b.x) (by show (w.heap.size + 1 : Nat) ≠ _; omega)).set_ne ⟨w.heap.size + 1, 1, none⟩ (.int .i64 b.y) (by show (w.heap.size + 1 : Nat) ≠ _; omega)).set_ne ⟨w.heap.size + 1 + 1, 0, none⟩ (.int .i64 a.x) (by show (w.heap.size + 1 + 1 : Nat) ≠ _; omega)).set_ne ⟨w.heap.size + 1 + 1, 1, none⟩ (.int .i64 a.y) (by show (w.heap.size + 1 + 1 : Nat) ≠ _; omega))).drew
 have Cb : Box W5 (w.heap.size + 1) [.int .i64 b.x, .int .i64 b.y] 30 := by rw [hW]; exact (((((((Bb.set_ne ⟨w.heap.size, 0, none⟩ (.int .i64 c.x) (by show (w.heap.size : Nat) ≠ _; omega)).set_ne ⟨w.heap.size, 1, none⟩ (.int .i64 c.y) (by show (w.heap.size : Nat) ≠ _; omega)).set 0 (.int .i64 b.x)).set 1 (.int .i64 b.y)).set_ne ⟨w.heap.size + 1 + 1, 0, none⟩ (.int .i64 a.x) (by show (w.heap.size + 1 + 1 : Nat) ≠ _; omega)).set_ne ⟨w.heap.size + 1 + 1, 1, none⟩ (.int .i64 a.y) (by show (w.heap.size + 1 + 1 : Nat) ≠ _; omega))).drew
 have Cc : Box W5 (w.heap.size + 1 + 1) [.int .i64 a.x, .int .i64 a.y] 30 := by rw [hW]; exact (((((((Bc.set_ne ⟨w.heap.size, 0, none⟩ (.int .i64 c.x) (by show (w.heap.size : Nat) ≠ _; omega)).set_ne ⟨w.heap.size, 1, none⟩ (.int .i64 c.y) (by show (w.heap.size : Nat) ≠ _; omega)).set_ne ⟨w.heap.size + 1, 0, none⟩ (.int .i64 b.x) (by show (w.heap.size + 1 : Nat) ≠ _; omega)).set_ne ⟨w.heap.size + 1, 1, none⟩ (.int .i64 b.y) (by show (w.heap.size + 1 : Nat) ≠ _; omega)).set 0 (.int .i64 a.x)).set 1 (.int .i64 a.y))).drew
 have Cr : Box W5 (w.heap.size + 1 + 1 + 1) [.int .i64 0, .int .i64 0, .int .i64 0, .int .i64 0, .int .i64 0, .int .i64 0] 38 := by rw [hW]; exact (((((((Br.set_ne ⟨w.heap.size, 0, none⟩ (.int .i64 c.x) (by show (w.heap.size : Nat) ≠ _; omega)).set_ne ⟨w.heap.size, 1, none⟩ (.int .i64 c.y) (by show (w.heap.size : Nat) ≠ _; omega)).set_ne ⟨w.heap.size + 1, 0, none⟩ (.int .i64 b.x) (by show (w.heap.size + 1 : Nat) ≠ _; omega)).set_ne ⟨w.heap.size + 1, 1, none⟩ (.int .i64 b.y) (by show (w.heap.size + 1 : Nat) ≠ _; omega)).set_ne ⟨w.heap.size + 1 + 1, 0, none⟩ (.int .i64 a.x) (by show (w.heap.size + 1 + 1 : Nat) ≠ _; omega)).set_ne ⟨w.heap.size + 1 + 1, 1, none⟩ (.int .i64 a.y) (by show (w.heap.size + 1 + 1 : Nat) ≠ _; omega))).drew
 replace hw : Below w.heap.size w W5 := by have hl := hw.size; rw [hW]; go_grown
 clear Fa Fb Fc Fr
 clear hW Ba Bb Bc Br
 have Ba := Ca
 have Bb := Cb
 have Bc := Cc
 have Br := Cr
 clear Ca Cb Cc Cr
 try rw [rounds_succ]
 have Fa := Ba.facts
 have Fb := Bb.facts
 have Fc := Bc.facts
 have Fr := Br.facts
 go_wp2_with fail
 refine (kbc _).mono ?_
 rintro e w6 ⟨rfl, hb⟩
 clear Fa Fb Fc Fr
 replace Ba := Ba.ee hb
 replace Bb := Bb.ee hb
 replace Bc := Bc.ee hb
 replace Br := Br.ee hb
 replace hw := upB hw hb
 clear hb
 have Fa := Ba.facts
 have Fb := Bb.facts
 have Fc := Bc.facts
 have Fr := Br.facts
 go_wp2_with fail
 go_region
 go_wp2_with fail
 refine zA2 fun W7 hW => ?_
 have Ca : Box W7 (w.heap.size) [.int .i64 b.x, .int .i64 b.y] 30 := by rw [hW]; exact (((((((Ba.set 0 (.int .i64 b.x)).set 1 (.int .i64 b.y)).set_ne ⟨w.heap.size + 1, 0, none⟩ (.int .i64 a.x) (by show (w.heap.size + 1 : Nat) ≠ _; omega)).set_ne ⟨w.heap.size + 1, 1, none⟩ (.int .i64 a.y) (by show (w.heap.size + 1 : Nat) ≠ _; omega)).set_ne ⟨w.heap.size + 1 + 1, 0, none⟩ (.int .i64 c.x) (by show (w.heap.size + 1 + 1 : Nat) ≠ _; omega)).set_ne ⟨w.heap.size + 1 + 1, 1, none⟩ (.int .i64 c.y) (by show (w.heap.size + 1 + 1 : Nat) ≠ _; omega))).drew
 have Cb : Box W7 (w.heap.size + 1) [.int .i64 a.x, .int .i64 a.y] 30 := by rw [hW]; exact (((((((Bb.set_ne ⟨w.heap.size, 0, none⟩ (.int .i64 b.x) (by show (w.heap.size : Nat) ≠ _; omega)).set_ne ⟨w.heap.size, 1, none⟩ (.int .i64 b.y) (by show (w.heap.size : Nat) ≠ _; omega)).set 0 (.int .i64 a.x)).set 1 (.int .i64 a.y)).set_ne ⟨w.heap.size + 1 + 1, 0, none⟩ (.int .i64 c.x) (by show (w.heap.size + 1 + 1 : Nat) ≠ _; omega)).set_ne ⟨w.heap.size + 1 + 1, 1, none⟩ (.int .i64 c.y) (by show (w.heap.size + 1 + 1 : Nat) ≠ _; omega))).drew
 have Cc : Box W7 (w.heap.size + 1 + 1) [.int .i64 c.x, .int .i64 c.y] 30 := by rw [hW]; exact (((((((Bc.set_ne ⟨w.heap.size, 0, none⟩ (.int .i64 b.x) (by show (w.heap.size : Nat) ≠ _; omega)).set_ne ⟨w.heap.size, 1, none⟩ (.int .i64 b.y) (by show (w.heap.size : Nat) ≠ _; omega)).set_ne ⟨w.heap.size + 1, 0, none⟩ (.int .i64 a.x) (by show (w.heap.size + 1 : Nat) ≠ _; omega)).set_ne ⟨w.heap.size + 1, 1, none⟩ (.int .i64 a.y) (by show (w.heap.size + 1 : Nat) ≠ _; omega)).set 0 (.int .i64 c.x)).set 1 (.int .i64 c.y))).drew
 have Cr : Box W7 (w.heap.size + 1 + 1 + 1) [.int .i64 0, .int .i64 0, .int .i64 0, .int .i64 0, .int .i64 0, .int .i64 0] 38 := by rw [hW]; exact (((((((Br.set_ne ⟨w.heap.size, 0, none⟩ (.int .i64 b.x) (by show (w.heap.size : Nat) ≠ _; omega)).set_ne ⟨w.heap.size, 1, none⟩ (.int .i64 b.y) (by show (w.heap.size : Nat) ≠ _; omega)).set_ne ⟨w.heap.size + 1, 0, none⟩ (.int .i64 a.x) (by show (w.heap.size + 1 : Nat) ≠ _; omega)).set_ne ⟨w.heap.size + 1, 1, none⟩ (.int .i64 a.y) (by show (w.heap.size + 1 : Nat) ≠ _; omega)).set_ne ⟨w.heap.size + 1 + 1, 0, none⟩ (.int .i64 c.x) (by show (w.heap.size + 1 + 1 : Nat) ≠ _; omega)).set_ne ⟨w.heap.size + 1 + 1, 1, none⟩ (.int .i64 c.y) (by show (w.heap.size + 1 + 1 : Nat) ≠ _; omega))).drew
 replace hw : Below w.heap.size w W7 := by have hl := hw.size; rw [hW]; go_grown
 clear Fa Fb Fc Fr
 clear hW Ba Bb Bc Br
 have Ba := Ca
 have Bb := Cb
 have Bc := Cc
 have Br := Cr
 clear Ca Cb Cc Cr
 try rw [rounds_succ]
 have Fa := Ba.facts
 have Fb := Bb.facts
 have Fc := Bc.facts
 have Fr := Br.facts
 go_wp2_with fail
 refine (kab _).mono ?_
 rintro e w8 ⟨rfl, hb⟩
 clear Fa Fb Fc Fr
 replace Ba := Ba.ee hb
 replace Bb := Bb.ee hb
 replace Bc := Bc.ee hb
 replace Br := Br.ee hb
 replace hw := upB hw hb
 clear hb
 have Fa := Ba.facts
 have Fb := Bb.facts
 have Fc := Bc.facts
 have Fr := Br.facts
 go_wp2_with fail
 refine (kcb _).mono ?_
 rintro e w9 ⟨rfl, hb⟩
 clear Fa Fb Fc Fr
 replace Ba := Ba.ee hb
 replace Bb := Bb.ee hb
 replace Bc := Bc.ee hb
 replace Br := Br.ee hb
 replace hw := upB hw hb
 clear hb
 have Fa := Ba.facts
 have Fb := Bb.facts
 have Fc := Bc.facts
 have Fr := Br.facts
 go_wp2_with fail
 refine bodyPost_ret (v := .tuple #[.agg #[.int .i64 b.x, .int .i64 b.y, .int .i64 a.x, .int .i64 a.y, .int .i64 c.x, .int .i64 c.y], .bool true]) (by simp [results, Tryz.results47, go_sem, Fr]) rfl ⟨rfl, by have hl := hw.size; go_grown⟩
theorem rmake_n3 (a b c : Pt) (h0 : ori a b c = -1) (tca : decide (cmpP c a < 0) = false) (tba : decide (cmpP b a < 0) = true) (tbc : decide (cmpP b c < 0) = true) (tab : decide (cmpP a b < 0) = false) (tcb : decide (cmpP c b < 0) = false) (w : World) :
    Calls Tryz.prog 47 #[.agg #[.int .i64 a.x, .int .i64 a.y], .agg #[.int .i64 b.x, .int .i64 b.y], .agg #[.int .i64 c.x, .int .i64 c.y]] w fun e w' => e = .returned (.tuple #[.agg #[.int .i64 b.x, .int .i64 b.y, .int .i64 a.x, .int .i64 a.y, .int .i64 c.x, .int .i64 c.y], .bool true]) ∧ Below w.heap.size w w' := by
 have co := zA6 a b c
 rw [h0] at co
 clear h0
 have kca := zA9 c a
 generalize cmpP c a = nca at *
 have kba := zA9 b a
 generalize cmpP b a = nba at *
 have kbc := zA9 b c
 generalize cmpP b c = nbc at *
 have kab := zA9 a b
 generalize cmpP a b = nab at *
 have kcb := zA9 c b
 generalize cmpP c b = ncb at *
 go_enter Tryz.func47, Tryz.ntmps47
 go_wp2_with fail
 refine zA1 fun W1 hW => ?_
 have Ba : Box W1 (w.heap.size) [.int .i64 a.x, .int .i64 a.y] 30 := by rw [hW]; exact (((Box.new rfl).old _).old _).old _
 have Bb : Box W1 (w.heap.size + 1) [.int .i64 b.x, .int .i64 b.y] 30 := by rw [hW]; exact ((Box.new (by simp)).old _).old _
 have Bc : Box W1 (w.heap.size + 1 + 1) [.int .i64 c.x, .int .i64 c.y] 30 := by rw [hW]; exact (Box.new (by simp)).old _
 have Br : Box W1 (w.heap.size + 1 + 1 + 1) [.int .i64 0, .int .i64 0, .int .i64 0, .int .i64 0, .int .i64 0, .int .i64 0] 38 := by rw [hW]; exact Box.new (by simp)
 have hw : Below w.heap.size w W1 := by rw [hW]; go_grown
 clear hW
 refine (co _).mono ?_
 rintro e w2 ⟨rfl, hb⟩
 replace Ba := Ba.ee hb
 replace Bb := Bb.ee hb
 replace Bc := Bc.ee hb
 replace Br := Br.ee hb
 replace hw := upB hw hb
 clear hb
 have Fa := Ba.facts
 have Fb := Bb.facts
 have Fc := Bc.facts
 have Fr := Br.facts
 go_wp2_with fail
 refine zA2 fun W3 hW => ?_
 have Ca : Box W3 (w.heap.size) [.int .i64 a.x, .int .i64 a.y] 30 := by rw [hW]; exact ((((Ba.set_ne ⟨w.heap.size + 1, 0, none⟩ (.int .i64 c.x) (by show (w.heap.size + 1 : Nat) ≠ _; omega)).set_ne ⟨w.heap.size + 1, 1, none⟩ (.int .i64 c.y) (by show (w.heap.size + 1 : Nat) ≠ _; omega)).set_ne ⟨w.heap.size + 1 + 1, 0, none⟩ (.int .i64 b.x) (by show (w.heap.size + 1 + 1 : Nat) ≠ _; omega)).set_ne ⟨w.heap.size + 1 + 1, 1, none⟩ (.int .i64 b.y) (by show (w.heap.size + 1 + 1 : Nat) ≠ _; omega))
 have Cb : Box W3 (w.heap.size + 1) [.int .i64 c.x, .int .i64 c.y] 30 := by rw [hW]; exact ((((Bb.set 0 (.int .i64 c.x)).set 1 (.int .i64 c.y)).set_ne ⟨w.heap.size + 1 + 1, 0, none⟩ (.int .i64 b.x) (by show (w.heap.size + 1 + 1 : Nat) ≠ _; omega)).set_ne ⟨w.heap.size + 1 + 1, 1, none⟩ (.int .i64 b.y) (by show (w.heap.size + 1 + 1 : Nat) ≠ _; omega))
 have Cc : Box W3 (w.heap.size + 1 + 1) [.int .i64 b.x, .int .i64 b.y] 30 := by rw [hW]; exact ((((Bc.set_ne ⟨w.heap.size + 1, 0, none⟩ (.int .i64 c.x) (by show (w.heap.size + 1 : Nat) ≠ _; omega)).set_ne ⟨w.heap.size + 1, 1, none⟩ (.int .i64 c.y) (by show (w.heap.size + 1 : Nat) ≠ _; omega)).set 0 (.int .i64 b.x)).set 1 (.int .i64 b.y))
 have Cr : Box W3 (w.heap.size + 1 + 1 + 1) [.int .i64 0, .int .i64 0, .int .i64 0, .int .i64 0, .int .i64 0, .int .i64 0] 38 := by rw [hW]; exact ((((Br.set_ne ⟨w.heap.size + 1, 0, none⟩ (.int .i64 c.x) (by show (w.heap.size + 1 : Nat) ≠ _; omega)).set_ne ⟨w.heap.size + 1, 1, none⟩ (.int .i64 c.y) (by show (w.heap.size + 1 : Nat) ≠ _; omega)).set_ne ⟨w.heap.size + 1 + 1, 0, none⟩ (.int .i64 b.x) (by show (w.heap.size + 1 + 1 : Nat) ≠ _; omega)).set_ne ⟨w.heap.size + 1 + 1, 1, none⟩ (.int .i64 b.y) (by show (w.heap.size + 1 + 1 : Nat) ≠ _; omega))
 replace hw : Below w.heap.size w W3 := by have hl := hw.size; rw [hW]; go_grown
 clear Fa Fb Fc Fr
 clear hW Ba Bb Bc Br
 have Ba := Ca
 have Bb := Cb
 have Bc := Cc
 have Br := Cr
 clear Ca Cb Cc Cr
 refine wp_loop_rounds 4 ?_
 try rw [rounds_succ]
 have Fa := Ba.facts
 have Fb := Bb.facts
 have Fc := Bc.facts
 have Fr := Br.facts
 go_wp2_with fail
 refine (kca _).mono ?_
 rintro e w4 ⟨rfl, hb⟩
 clear Fa Fb Fc Fr
 replace Ba := Ba.ee hb
 replace Bb := Bb.ee hb
 replace Bc := Bc.ee hb
 replace Br := Br.ee hb
 replace hw := upB hw hb
 clear hb
 have Fa := Ba.facts
 have Fb := Bb.facts
 have Fc := Bc.facts
 have Fr := Br.facts
 go_wp2_with fail
 refine (kba _).mono ?_
 rintro e w5 ⟨rfl, hb⟩
 clear Fa Fb Fc Fr
 replace Ba := Ba.ee hb
 replace Bb := Bb.ee hb
 replace Bc := Bc.ee hb
 replace Br := Br.ee hb
 replace hw := upB hw hb
 clear hb
 have Fa := Ba.facts
 have Fb := Bb.facts
 have Fc := Bc.facts
 have Fr := Br.facts
 go_wp2_with fail
 go_region
 go_wp2_with fail
 refine zA2 fun W6 hW => ?_
 have Ca : Box W6 (w.heap.size) [.int .i64 c.x, .int .i64 c.y] 30 := by rw [hW]; exact (((((((Ba.set 0 (.int .i64 c.x)).set 1 (.int .i64 c.y)).set_ne ⟨w.heap.size + 1, 0, none⟩ (.int .i64 b.x) (by show (w.heap.size + 1 : Nat) ≠ _; omega)).set_ne ⟨w.heap.size + 1, 1, none⟩ (.int .i64 b.y) (by show (w.heap.size + 1 : Nat) ≠ _; omega)).set_ne ⟨w.heap.size + 1 + 1, 0, none⟩ (.int .i64 a.x) (by show (w.heap.size + 1 + 1 : Nat) ≠ _; omega)).set_ne ⟨w.heap.size + 1 + 1, 1, none⟩ (.int .i64 a.y) (by show (w.heap.size + 1 + 1 : Nat) ≠ _; omega))).drew
 have Cb : Box W6 (w.heap.size + 1) [.int .i64 b.x, .int .i64 b.y] 30 := by rw [hW]; exact (((((((Bb.set_ne ⟨w.heap.size, 0, none⟩ (.int .i64 c.x) (by show (w.heap.size : Nat) ≠ _; omega)).set_ne ⟨w.heap.size, 1, none⟩ (.int .i64 c.y) (by show (w.heap.size : Nat) ≠ _; omega)).set 0 (.int .i64 b.x)).set 1 (.int .i64 b.y)).set_ne ⟨w.heap.size + 1 + 1, 0, none⟩ (.int .i64 a.x) (by show (w.heap.size + 1 + 1 : Nat) ≠ _; omega)).set_ne ⟨w.heap.size + 1 + 1, 1, none⟩ (.int .i64 a.y) (by show (w.heap.size + 1 + 1 : Nat) ≠ _; omega))).drew
 have Cc : Box W6 (w.heap.size + 1 + 1) [.int .i64 a.x, .int .i64 a.y] 30 := by rw [hW]; exact (((((((Bc.set_ne ⟨w.heap.size, 0, none⟩ (.int .i64 c.x) (by show (w.heap.size : Nat) ≠ _; omega)).set_ne ⟨w.heap.size, 1, none⟩ (.int .i64 c.y) (by show (w.heap.size : Nat) ≠ _; omega)).set_ne ⟨w.heap.size + 1, 0, none⟩ (.int .i64 b.x) (by show (w.heap.size + 1 : Nat) ≠ _; omega)).set_ne ⟨w.heap.size + 1, 1, none⟩ (.int .i64 b.y) (by show (w.heap.size + 1 : Nat) ≠ _; omega)).set 0 (.int .i64 a.x)).set 1 (.int .i64 a.y))).drew
 have Cr : Box W6 (w.heap.size + 1 + 1 + 1) [.int .i64 0, .int .i64 0, .int .i64 0, .int .i64 0, .int .i64 0, .int .i64 0] 38 := by rw [hW]; exact (((((((Br.set_ne ⟨w.heap.size, 0, none⟩ (.int .i64 c.x) (by show (w.heap.size : Nat) ≠ _; omega)).set_ne ⟨w.heap.size, 1, none⟩ (.int .i64 c.y) (by show (w.heap.size : Nat) ≠ _; omega)).set_ne ⟨w.heap.size + 1, 0, none⟩ (.int .i64 b.x) (by show (w.heap.size + 1 : Nat) ≠ _; omega)).set_ne ⟨w.heap.size + 1, 1, none⟩ (.int .i64 b.y) (by show (w.heap.size + 1 : Nat) ≠ _; omega)).set_ne ⟨w.heap.size + 1 + 1, 0, none⟩ (.int .i64 a.x) (by show (w.heap.size + 1 + 1 : Nat) ≠ _; omega)).set_ne ⟨w.heap.size + 1 + 1, 1, none⟩ (.int .i64 a.y) (by show (w.heap.size + 1 + 1 : Nat) ≠ _; omega))).drew
 replace hw : Below w.heap.size w W6 := by have hl := hw.size; rw [hW]; go_grown
 clear Fa Fb Fc Fr
 clear hW Ba Bb Bc Br
 have Ba := Ca
 have Bb := Cb
 have Bc := Cc
 have Br := Cr
 clear Ca Cb Cc Cr
 try rw [rounds_succ]
 have Fa := Ba.facts
 have Fb := Bb.facts
 have Fc := Bc.facts
 have Fr := Br.facts
 go_wp2_with fail
 refine (kbc _).mono ?_
 rintro e w7 ⟨rfl, hb⟩
 clear Fa Fb Fc Fr
 replace Ba := Ba.ee hb
 replace Bb := Bb.ee hb
 replace Bc := Bc.ee hb
 replace Br := Br.ee hb
 replace hw := upB hw hb
 clear hb
 have Fa := Ba.facts
 have Fb := Bb.facts
 have Fc := Bc.facts
 have Fr := Br.facts
 go_wp2_with fail
 go_region
 go_wp2_with fail
 refine zA2 fun W8 hW => ?_
 have Ca : Box W8 (w.heap.size) [.int .i64 b.x, .int .i64 b.y] 30 := by rw [hW]; exact (((((((Ba.set 0 (.int .i64 b.x)).set 1 (.int .i64 b.y)).set_ne ⟨w.heap.size + 1, 0, none⟩ (.int .i64 a.x) (by show (w.heap.size + 1 : Nat) ≠ _; omega)).set_ne ⟨w.heap.size + 1, 1, none⟩ (.int .i64 a.y) (by show (w.heap.size + 1 : Nat) ≠ _; omega)).set_ne ⟨w.heap.size + 1 + 1, 0, none⟩ (.int .i64 c.x) (by show (w.heap.size + 1 + 1 : Nat) ≠ _; omega)).set_ne ⟨w.heap.size + 1 + 1, 1, none⟩ (.int .i64 c.y) (by show (w.heap.size + 1 + 1 : Nat) ≠ _; omega))).drew
 have Cb : Box W8 (w.heap.size + 1) [.int .i64 a.x, .int .i64 a.y] 30 := by rw [hW]; exact (((((((Bb.set_ne ⟨w.heap.size, 0, none⟩ (.int .i64 b.x) (by show (w.heap.size : Nat) ≠ _; omega)).set_ne ⟨w.heap.size, 1, none⟩ (.int .i64 b.y) (by show (w.heap.size : Nat) ≠ _; omega)).set 0 (.int .i64 a.x)).set 1 (.int .i64 a.y)).set_ne ⟨w.heap.size + 1 + 1, 0, none⟩ (.int .i64 c.x) (by show (w.heap.size + 1 + 1 : Nat) ≠ _; omega)).set_ne ⟨w.heap.size + 1 + 1, 1, none⟩ (.int .i64 c.y) (by show (w.heap.size + 1 + 1 : Nat) ≠ _; omega))).drew
 have Cc : Box W8 (w.heap.size + 1 + 1) [.int .i64 c.x, .int .i64 c.y] 30 := by rw [hW]; exact (((((((Bc.set_ne ⟨w.heap.size, 0, none⟩ (.int .i64 b.x) (by show (w.heap.size : Nat) ≠ _; omega)).set_ne ⟨w.heap.size, 1, none⟩ (.int .i64 b.y) (by show (w.heap.size : Nat) ≠ _; omega)).set_ne ⟨w.heap.size + 1, 0, none⟩ (.int .i64 a.x) (by show (w.heap.size + 1 : Nat) ≠ _; omega)).set_ne ⟨w.heap.size + 1, 1, none⟩ (.int .i64 a.y) (by show (w.heap.size + 1 : Nat) ≠ _; omega)).set 0 (.int .i64 c.x)).set 1 (.int .i64 c.y))).drew
 have Cr : Box W8 (w.heap.size + 1 + 1 + 1) [.int .i64 0, .int .i64 0, .int .i64 0, .int .i64 0, .int .i64 0, .int .i64 0] 38 := by rw [hW]; exact (((((((Br.set_ne ⟨w.heap.size, 0, none⟩ (.int .i64 b.x) (by show (w.heap.size : Nat) ≠ _; omega)).set_ne ⟨w.heap.size, 1, none⟩ (.int .i64 b.y) (by show (w.heap.size : Nat) ≠ _; omega)).set_ne ⟨w.heap.size + 1, 0, none⟩ (.int .i64 a.x) (by show (w.heap.size + 1 : Nat) ≠ _; omega)).set_ne ⟨w.heap.size + 1, 1, none⟩ (.int .i64 a.y) (by show (w.heap.size + 1 : Nat) ≠ _; omega)).set_ne ⟨w.heap.size + 1 + 1, 0, none⟩ (.int .i64 c.x) (by show (w.heap.size + 1 + 1 : Nat) ≠ _; omega)).set_ne ⟨w.heap.size + 1 + 1, 1, none⟩ (.int .i64 c.y) (by show (w.heap.size + 1 + 1 : Nat) ≠ _; omega))).drew
 replace hw : Below w.heap.size w W8 := by have hl := hw.size; rw [hW]; go_grown
 clear Fa Fb Fc Fr
 clear hW Ba Bb Bc Br
 have Ba := Ca
 have Bb := Cb
 have Bc := Cc
 have Br := Cr
 clear Ca Cb Cc Cr
 try rw [rounds_succ]
 have Fa := Ba.facts
 have Fb := Bb.facts
 have Fc := Bc.facts
 have Fr := Br.facts
 go_wp2_with fail
 refine (kab _).mono ?_
 rintro e w9 ⟨rfl, hb⟩
 clear Fa Fb Fc Fr
 replace Ba := Ba.ee hb
 replace Bb := Bb.ee hb
 replace Bc := Bc.ee hb
 replace Br := Br.ee hb
 replace hw := upB hw hb
 clear hb
 have Fa := Ba.facts
 have Fb := Bb.facts
 have Fc := Bc.facts
 have Fr := Br.facts
 go_wp2_with fail
 refine (kcb _).mono ?_
 rintro e w10 ⟨rfl, hb⟩
 clear Fa Fb Fc Fr
 replace Ba := Ba.ee hb
 replace Bb := Bb.ee hb
 replace Bc := Bc.ee hb
 replace Br := Br.ee hb
 replace hw := upB hw hb
 clear hb
 have Fa := Ba.facts
 have Fb := Bb.facts
 have Fc := Bc.facts
 have Fr := Br.facts
 go_wp2_with fail
 refine bodyPost_ret (v := .tuple #[.agg #[.int .i64 b.x, .int .i64 b.y, .int .i64 a.x, .int .i64 a.y, .int .i64 c.x, .int .i64 c.y], .bool true]) (by simp [results, Tryz.results47, go_sem, Fr]) rfl ⟨rfl, by have hl := hw.size; go_grown⟩
end Go.Proofs.YtmobnmjjmafibaaGreat
