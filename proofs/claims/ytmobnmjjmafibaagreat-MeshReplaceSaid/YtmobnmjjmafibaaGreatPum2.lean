/- Put together: ExH. -/
import Derived.Test.YtmobnmjjmafibaaGreatRows
import Derived.Test.YtmobnmjjmafibaaGreatPum1
import Derived.Test.YtmobnmjjmafibaaGreatPum0
import Derived.WalkKit
import Derived.WalkSpells
import Derived.WalkLawsBesides
import Derived.Laws.Externs
import Derived.Deep.QuietTactic
import Derived.BigQuiet
import Derived.Lib.Hide
import Derived.Handy
set_option maxRecDepth 100000
set_option maxHeartbeats 8000000
namespace Go.Proofs.YtmobnmjjmafibaaGreat
open Go.RowKit Go.Sort
attribute [local go_sem] rOper rAt rUpon cell_set sg_i64 sg_u64 alloc_cell alloc_frozen
attribute [local go_sem 10000] pt_eql pt_neq
attribute [local irreducible] rWalk
def fin (sA sB sC sD : Int) : Int := if sA = sB then 0 else if sC = sD then 0 else if sA = 0 then 2 else if sB = 0 then 2 else if sC = 0 then 2 else if sD = 0 then 2 else 1
def meetS (a b c d : Pt) : Int :=
 if vld a = false then 0 else if vld b = false then 0 else if vld c = false then 0 else if vld d = false then 0 else if peqI a.x a.y b.x b.y = true then 0 else if peqI c.x c.y d.x d.y = true then 0
 else if ori a b c = 0 ∧ ori a b d = 0 then mil a b c d
 else if peqI a.x a.y c.x c.y = true then 0 else if peqI a.x a.y d.x d.y = true then 0 else if peqI b.x b.y c.x c.y = true then 0 else if peqI b.x b.y d.x d.y = true then 0
 else fin (ori c d a) (ori c d b) (ori a b c) (ori a b d)
theorem meet_v0 (a b c d : Pt) (ha : vld a = false) (w : World) :
    Calls Tryz.prog 77 #[.agg #[.int .i64 a.x, .int .i64 a.y], .agg #[.int .i64 b.x, .int .i64 b.y], .agg #[.int .i64 c.x, .int .i64 c.y], .agg #[.int .i64 d.x, .int .i64 d.y]] w fun e w' => e = .returned (.int .i64 0) ∧ Below w.heap.size w w' := by
 have ca := zA4 a
 rw [ha] at ca
 clear ha
 go_enter Tryz.func77, Tryz.ntmps77
 go_wp2_with fail
 refine zA1 fun W1 hW => ?_
 have Ba : Box W1 (w.heap.size) [.int .i64 a.x, .int .i64 a.y] 30 := by rw [hW]; exact (((Box.new rfl).old _).old _).old _
 have Bb : Box W1 (w.heap.size + 1) [.int .i64 b.x, .int .i64 b.y] 30 := by rw [hW]; exact ((Box.new (by simp)).old _).old _
 have Bc : Box W1 (w.heap.size + 1 + 1) [.int .i64 c.x, .int .i64 c.y] 30 := by rw [hW]; exact (Box.new (by simp)).old _
 have Bd : Box W1 (w.heap.size + 1 + 1 + 1) [.int .i64 d.x, .int .i64 d.y] 30 := by rw [hW]; exact Box.new (by simp)
 have hw : Below w.heap.size w W1 := by rw [hW]; go_grown
 clear hW
 refine (ca _).mono ?_
 rintro e w2 ⟨rfl, hb⟩
 replace Ba := Ba.ee hb
 replace Bb := Bb.ee hb
 replace Bc := Bc.ee hb
 replace Bd := Bd.ee hb
 replace hw := upB hw hb
 clear hb
 have Fa := Ba.facts
 have Fb := Bb.facts
 have Fc := Bc.facts
 have Fd := Bd.facts
 go_wp2
 go_ret
 exact ⟨rfl, hw⟩
theorem meet_v1 (a b c d : Pt) (ha : vld a = true) (hb : vld b = false) (w : World) :
    Calls Tryz.prog 77 #[.agg #[.int .i64 a.x, .int .i64 a.y], .agg #[.int .i64 b.x, .int .i64 b.y], .agg #[.int .i64 c.x, .int .i64 c.y], .agg #[.int .i64 d.x, .int .i64 d.y]] w fun e w' => e = .returned (.int .i64 0) ∧ Below w.heap.size w w' := by
 have ca := zA4 a
 rw [ha] at ca
 clear ha
 have cb := zA4 b
 rw [hb] at cb
 clear hb
 go_enter Tryz.func77, Tryz.ntmps77
 go_wp2_with fail
 refine zA1 fun W1 hW => ?_
 have Ba : Box W1 (w.heap.size) [.int .i64 a.x, .int .i64 a.y] 30 := by rw [hW]; exact (((Box.new rfl).old _).old _).old _
 have Bb : Box W1 (w.heap.size + 1) [.int .i64 b.x, .int .i64 b.y] 30 := by rw [hW]; exact ((Box.new (by simp)).old _).old _
 have Bc : Box W1 (w.heap.size + 1 + 1) [.int .i64 c.x, .int .i64 c.y] 30 := by rw [hW]; exact (Box.new (by simp)).old _
 have Bd : Box W1 (w.heap.size + 1 + 1 + 1) [.int .i64 d.x, .int .i64 d.y] 30 := by rw [hW]; exact Box.new (by simp)
 have hw : Below w.heap.size w W1 := by rw [hW]; go_grown
 clear hW
 refine (ca _).mono ?_
 rintro e w2 ⟨rfl, hb⟩
 replace Ba := Ba.ee hb
 replace Bb := Bb.ee hb
 replace Bc := Bc.ee hb
 replace Bd := Bd.ee hb
 replace hw := upB hw hb
 clear hb
 have Fa := Ba.facts
 have Fb := Bb.facts
 have Fc := Bc.facts
 have Fd := Bd.facts
 go_wp2_with fail
 refine (cb _).mono ?_
 rintro e w3 ⟨rfl, hb⟩
 clear Fa Fb Fc Fd
 replace Ba := Ba.ee hb
 replace Bb := Bb.ee hb
 replace Bc := Bc.ee hb
 replace Bd := Bd.ee hb
 replace hw := upB hw hb
 clear hb
 have Fa := Ba.facts
 have Fb := Bb.facts
 have Fc := Bc.facts
 have Fd := Bd.facts
 go_wp2
 go_ret
 exact ⟨rfl, hw⟩
theorem meet_v2 (a b c d : Pt) (ha : vld a = true) (hb : vld b = true) (hc : vld c = false) (w : World) :
    Calls Tryz.prog 77 #[.agg #[.int .i64 a.x, .int .i64 a.y], .agg #[.int .i64 b.x, .int .i64 b.y], .agg #[.int .i64 c.x, .int .i64 c.y], .agg #[.int .i64 d.x, .int .i64 d.y]] w fun e w' => e = .returned (.int .i64 0) ∧ Below w.heap.size w w' := by
 have ca := zA4 a
 rw [ha] at ca
 clear ha
 have cb := zA4 b
 rw [hb] at cb
 clear hb
 have cc := zA4 c
 rw [hc] at cc
 clear hc
 go_enter Tryz.func77, Tryz.ntmps77
 go_wp2_with fail
 refine zA1 fun W1 hW => ?_
 have Ba : Box W1 (w.heap.size) [.int .i64 a.x, .int .i64 a.y] 30 := by rw [hW]; exact (((Box.new rfl).old _).old _).old _
 have Bb : Box W1 (w.heap.size + 1) [.int .i64 b.x, .int .i64 b.y] 30 := by rw [hW]; exact ((Box.new (by simp)).old _).old _
 have Bc : Box W1 (w.heap.size + 1 + 1) [.int .i64 c.x, .int .i64 c.y] 30 := by rw [hW]; exact (Box.new (by simp)).old _
 have Bd : Box W1 (w.heap.size + 1 + 1 + 1) [.int .i64 d.x, .int .i64 d.y] 30 := by rw [hW]; exact Box.new (by simp)
 have hw : Below w.heap.size w W1 := by rw [hW]; go_grown
 clear hW
 refine (ca _).mono ?_
 rintro e w2 ⟨rfl, hb⟩
 replace Ba := Ba.ee hb
 replace Bb := Bb.ee hb
 replace Bc := Bc.ee hb
 replace Bd := Bd.ee hb
 replace hw := upB hw hb
 clear hb
 have Fa := Ba.facts
 have Fb := Bb.facts
 have Fc := Bc.facts
 have Fd := Bd.facts
 go_wp2_with fail
 refine (cb _).mono ?_
 rintro e w3 ⟨rfl, hb⟩
 clear Fa Fb Fc Fd
 replace Ba := Ba.ee hb
 replace Bb := Bb.ee hb
 replace Bc := Bc.ee hb
 replace Bd := Bd.ee hb
 replace hw := upB hw hb
 clear hb
 have Fa := Ba.facts
 have Fb := Bb.facts
 have Fc := Bc.facts
 have Fd := Bd.facts
 go_wp2_with fail
 refine (cc _).mono ?_
 rintro e w4 ⟨rfl, hb⟩
 clear Fa Fb Fc Fd
 replace Ba := Ba.ee hb
 replace Bb := Bb.ee hb
 replace Bc := Bc.ee hb
 replace Bd := Bd.ee hb
 replace hw := upB hw hb
 clear hb
 have Fa := Ba.facts
 have Fb := Bb.facts
 have Fc := Bc.facts
 have Fd := Bd.facts
 go_wp2
 go_ret
 exact ⟨rfl, hw⟩
theorem meet_v3 (a b c d : Pt) (ha : vld a = true) (hb : vld b = true) (hc : vld c = true) (hd : vld d = false) (w : World) :
    Calls Tryz.prog 77 #[.agg #[.int .i64 a.x, .int .i64 a.y], .agg #[.int .i64 b.x, .int .i64 b.y], .agg #[.int .i64 c.x, .int .i64 c.y], .agg #[.int .i64 d.x, .int .i64 d.y]] w fun e w' => e = .returned (.int .i64 0) ∧ Below w.heap.size w w' := by
 have ca := zA4 a
 rw [ha] at ca
 clear ha
 have cb := zA4 b
 rw [hb] at cb
 clear hb
 have cc := zA4 c
 rw [hc] at cc
 clear hc
 have cd := zA4 d
 rw [hd] at cd
 clear hd
 go_enter Tryz.func77, Tryz.ntmps77
 go_wp2_with fail
 refine zA1 fun W1 hW => ?_
 have Ba : Box W1 (w.heap.size) [.int .i64 a.x, .int .i64 a.y] 30 := by rw [hW]; exact (((Box.new rfl).old _).old _).old _
 have Bb : Box W1 (w.heap.size + 1) [.int .i64 b.x, .int .i64 b.y] 30 := by rw [hW]; exact ((Box.new (by simp)).old _).old _
 have Bc : Box W1 (w.heap.size + 1 + 1) [.int .i64 c.x, .int .i64 c.y] 30 := by rw [hW]; exact (Box.new (by simp)).old _
 have Bd : Box W1 (w.heap.size + 1 + 1 + 1) [.int .i64 d.x, .int .i64 d.y] 30 := by rw [hW]; exact Box.new (by simp)
 have hw : Below w.heap.size w W1 := by rw [hW]; go_grown
 clear hW
 refine (ca _).mono ?_
 rintro e w2 ⟨rfl, hb⟩
 replace Ba := Ba.ee hb
 replace Bb := Bb.ee hb
 replace Bc := Bc.ee hb
 replace Bd := Bd.ee hb
 replace hw := upB hw hb
 clear hb
 have Fa := Ba.facts
 have Fb := Bb.facts
 have Fc := Bc.facts
 have Fd := Bd.facts
 go_wp2_with fail
 refine (cb _).mono ?_
 rintro e w3 ⟨rfl, hb⟩
 clear Fa Fb Fc Fd
 replace Ba := Ba.ee hb
 replace Bb := Bb.ee hb
 replace Bc := Bc.ee hb
 replace Bd := Bd.ee hb
 replace hw := upB hw hb
 clear hb
 have Fa := Ba.facts
 have Fb := Bb.facts
 have Fc := Bc.facts
 have Fd := Bd.facts
 go_wp2_with fail
 refine (cc _).mono ?_
 rintro e w4 ⟨rfl, hb⟩
 clear Fa Fb Fc Fd
 replace Ba := Ba.ee hb
 replace Bb := Bb.ee hb
 replace Bc := Bc.ee hb
 replace Bd := Bd.ee hb
 replace hw := upB hw hb
 clear hb
 have Fa := Ba.facts
 have Fb := Bb.facts
 have Fc := Bc.facts
 have Fd := Bd.facts
 go_wp2_with fail
 refine (cd _).mono ?_
 rintro e w5 ⟨rfl, hb⟩
 clear Fa Fb Fc Fd
 replace Ba := Ba.ee hb
 replace Bb := Bb.ee hb
 replace Bc := Bc.ee hb
 replace Bd := Bd.ee hb
 replace hw := upB hw hb
 clear hb
 have Fa := Ba.facts
 have Fb := Bb.facts
 have Fc := Bc.facts
 have Fd := Bd.facts
 go_wp2
 go_ret
 exact ⟨rfl, hw⟩
theorem meet_e1 (a b c d : Pt) (ha : vld a = true) (hb : vld b = true) (hc : vld c = true) (hd : vld d = true) (e1 : peqI a.x a.y b.x b.y = true) (w : World) :
    Calls Tryz.prog 77 #[.agg #[.int .i64 a.x, .int .i64 a.y], .agg #[.int .i64 b.x, .int .i64 b.y], .agg #[.int .i64 c.x, .int .i64 c.y], .agg #[.int .i64 d.x, .int .i64 d.y]] w fun e w' => e = .returned (.int .i64 0) ∧ Below w.heap.size w w' := by
 have ca := zA4 a
 rw [ha] at ca
 clear ha
 have cb := zA4 b
 rw [hb] at cb
 clear hb
 have cc := zA4 c
 rw [hc] at cc
 clear hc
 have cd := zA4 d
 rw [hd] at cd
 clear hd
 go_enter Tryz.func77, Tryz.ntmps77
 go_wp2_with fail
 refine zA1 fun W1 hW => ?_
 have Ba : Box W1 (w.heap.size) [.int .i64 a.x, .int .i64 a.y] 30 := by rw [hW]; exact (((Box.new rfl).old _).old _).old _
 have Bb : Box W1 (w.heap.size + 1) [.int .i64 b.x, .int .i64 b.y] 30 := by rw [hW]; exact ((Box.new (by simp)).old _).old _
 have Bc : Box W1 (w.heap.size + 1 + 1) [.int .i64 c.x, .int .i64 c.y] 30 := by rw [hW]; exact (Box.new (by simp)).old _
 have Bd : Box W1 (w.heap.size + 1 + 1 + 1) [.int .i64 d.x, .int .i64 d.y] 30 := by rw [hW]; exact Box.new (by simp)
 have hw : Below w.heap.size w W1 := by rw [hW]; go_grown
 clear hW
 refine (ca _).mono ?_
 rintro e w2 ⟨rfl, hb⟩
 replace Ba := Ba.ee hb
 replace Bb := Bb.ee hb
 replace Bc := Bc.ee hb
 replace Bd := Bd.ee hb
 replace hw := upB hw hb
 clear hb
 have Fa := Ba.facts
 have Fb := Bb.facts
 have Fc := Bc.facts
 have Fd := Bd.facts
 go_wp2_with fail
 refine (cb _).mono ?_
 rintro e w3 ⟨rfl, hb⟩
 clear Fa Fb Fc Fd
 replace Ba := Ba.ee hb
 replace Bb := Bb.ee hb
 replace Bc := Bc.ee hb
 replace Bd := Bd.ee hb
 replace hw := upB hw hb
 clear hb
 have Fa := Ba.facts
 have Fb := Bb.facts
 have Fc := Bc.facts
 have Fd := Bd.facts
 go_wp2_with fail
 refine (cc _).mono ?_
 rintro e w4 ⟨rfl, hb⟩
 clear Fa Fb Fc Fd
 replace Ba := Ba.ee hb
 replace Bb := Bb.ee hb
 replace Bc := Bc.ee hb
 replace Bd := Bd.ee hb
 replace hw := upB hw hb
 clear hb
 have Fa := Ba.facts
 have Fb := Bb.facts
 have Fc := Bc.facts
 have Fd := Bd.facts
 go_wp2_with fail
 refine (cd _).mono ?_
 rintro e w5 ⟨rfl, hb⟩
 clear Fa Fb Fc Fd
 replace Ba := Ba.ee hb
 replace Bb := Bb.ee hb
 replace Bc := Bc.ee hb
 replace Bd := Bd.ee hb
 replace hw := upB hw hb
 clear hb
 have Fa := Ba.facts
 have Fb := Bb.facts
 have Fc := Bc.facts
 have Fd := Bd.facts
 go_wp2
 go_ret
 exact ⟨rfl, hw⟩
theorem meet_e2 (a b c d : Pt) (ha : vld a = true) (hb : vld b = true) (hc : vld c = true) (hd : vld d = true) (e1 : peqI a.x a.y b.x b.y = false) (e2 : peqI c.x c.y d.x d.y = true) (w : World) :
    Calls Tryz.prog 77 #[.agg #[.int .i64 a.x, .int .i64 a.y], .agg #[.int .i64 b.x, .int .i64 b.y], .agg #[.int .i64 c.x, .int .i64 c.y], .agg #[.int .i64 d.x, .int .i64 d.y]] w fun e w' => e = .returned (.int .i64 0) ∧ Below w.heap.size w w' := by
 have ca := zA4 a
 rw [ha] at ca
 clear ha
 have cb := zA4 b
 rw [hb] at cb
 clear hb
 have cc := zA4 c
 rw [hc] at cc
 clear hc
 have cd := zA4 d
 rw [hd] at cd
 clear hd
 go_enter Tryz.func77, Tryz.ntmps77
 go_wp2_with fail
 refine zA1 fun W1 hW => ?_
 have Ba : Box W1 (w.heap.size) [.int .i64 a.x, .int .i64 a.y] 30 := by rw [hW]; exact (((Box.new rfl).old _).old _).old _
 have Bb : Box W1 (w.heap.size + 1) [.int .i64 b.x, .int .i64 b.y] 30 := by rw [hW]; exact ((Box.new (by simp)).old _).old _
 have Bc : Box W1 (w.heap.size + 1 + 1) [.int .i64 c.x, .int .i64 c.y] 30 := by rw [hW]; exact (Box.new (by simp)).old _
 have Bd : Box W1 (w.heap.size + 1 + 1 + 1) [.int .i64 d.x, .int .i64 d.y] 30 := by rw [hW]; exact Box.new (by simp)
 have hw : Below w.heap.size w W1 := by rw [hW]; go_grown
 clear hW
 refine (ca _).mono ?_
 rintro e w2 ⟨rfl, hb⟩
 replace Ba := Ba.ee hb
 replace Bb := Bb.ee hb
 replace Bc := Bc.ee hb
 replace Bd := Bd.ee hb
 replace hw := upB hw hb
 clear hb
 have Fa := Ba.facts
 have Fb := Bb.facts
 have Fc := Bc.facts
 have Fd := Bd.facts
 go_wp2_with fail
 refine (cb _).mono ?_
 rintro e w3 ⟨rfl, hb⟩
 clear Fa Fb Fc Fd
 replace Ba := Ba.ee hb
 replace Bb := Bb.ee hb
 replace Bc := Bc.ee hb
 replace Bd := Bd.ee hb
 replace hw := upB hw hb
 clear hb
 have Fa := Ba.facts
 have Fb := Bb.facts
 have Fc := Bc.facts
 have Fd := Bd.facts
 go_wp2_with fail
 refine (cc _).mono ?_
 rintro e w4 ⟨rfl, hb⟩
 clear Fa Fb Fc Fd
 replace Ba := Ba.ee hb
 replace Bb := Bb.ee hb
 replace Bc := Bc.ee hb
 replace Bd := Bd.ee hb
 replace hw := upB hw hb
 clear hb
 have Fa := Ba.facts
 have Fb := Bb.facts
 have Fc := Bc.facts
 have Fd := Bd.facts
 go_wp2_with fail
 refine (cd _).mono ?_
 rintro e w5 ⟨rfl, hb⟩
 clear Fa Fb Fc Fd
 replace Ba := Ba.ee hb
 replace Bb := Bb.ee hb
 replace Bc := Bc.ee hb
 replace Bd := Bd.ee hb
 replace hw := upB hw hb
 clear hb
 have Fa := Ba.facts
 have Fb := Bb.facts
 have Fc := Bc.facts
 have Fd := Bd.facts
 go_wp2
 go_ret
 exact ⟨rfl, hw⟩
theorem meet_l (a b c d : Pt) (ha : vld a = true) (hb : vld b = true) (hc : vld c = true) (hd : vld d = true) (e1 : peqI a.x a.y b.x b.y = false) (e2 : peqI c.x c.y d.x d.y = false) (z1 : ori a b c = 0) (z2 : ori a b d = 0) (w : World) :
    Calls Tryz.prog 77 #[.agg #[.int .i64 a.x, .int .i64 a.y], .agg #[.int .i64 b.x, .int .i64 b.y], .agg #[.int .i64 c.x, .int .i64 c.y], .agg #[.int .i64 d.x, .int .i64 d.y]] w fun e w' => e = .returned (.int .i64 (mil a b c d)) ∧ Below w.heap.size w w' := by
 have ca := zA4 a
 rw [ha] at ca
 clear ha
 have cb := zA4 b
 rw [hb] at cb
 clear hb
 have cc := zA4 c
 rw [hc] at cc
 clear hc
 have cd := zA4 d
 rw [hd] at cd
 clear hd
 have o1 := zA7 a b c
 have o2 := zA7 a b d
 rw [z1] at o1
 rw [z2] at o2
 clear z1 z2
 have cm := mil_any a b c d
 go_enter Tryz.func77, Tryz.ntmps77
 go_wp2_with fail
 refine zA1 fun W1 hW => ?_
 have Ba : Box W1 (w.heap.size) [.int .i64 a.x, .int .i64 a.y] 30 := by rw [hW]; exact (((Box.new rfl).old _).old _).old _
 have Bb : Box W1 (w.heap.size + 1) [.int .i64 b.x, .int .i64 b.y] 30 := by rw [hW]; exact ((Box.new (by simp)).old _).old _
 have Bc : Box W1 (w.heap.size + 1 + 1) [.int .i64 c.x, .int .i64 c.y] 30 := by rw [hW]; exact (Box.new (by simp)).old _
 have Bd : Box W1 (w.heap.size + 1 + 1 + 1) [.int .i64 d.x, .int .i64 d.y] 30 := by rw [hW]; exact Box.new (by simp)
 have hw : Below w.heap.size w W1 := by rw [hW]; go_grown
 clear hW
 refine (ca _).mono ?_
 rintro e w2 ⟨rfl, hb⟩
 replace Ba := Ba.ee hb
 replace Bb := Bb.ee hb
 replace Bc := Bc.ee hb
 replace Bd := Bd.ee hb
 replace hw := upB hw hb
 clear hb
 have Fa := Ba.facts
 have Fb := Bb.facts
 have Fc := Bc.facts
 have Fd := Bd.facts
 go_wp2_with fail
 refine (cb _).mono ?_
 rintro e w3 ⟨rfl, hb⟩
 clear Fa Fb Fc Fd
 replace Ba := Ba.ee hb
 replace Bb := Bb.ee hb
 replace Bc := Bc.ee hb
 replace Bd := Bd.ee hb
 replace hw := upB hw hb
 clear hb
 have Fa := Ba.facts
 have Fb := Bb.facts
 have Fc := Bc.facts
 have Fd := Bd.facts
 go_wp2_with fail
 refine (cc _).mono ?_
 rintro e w4 ⟨rfl, hb⟩
 clear Fa Fb Fc Fd
 replace Ba := Ba.ee hb
 replace Bb := Bb.ee hb
 replace Bc := Bc.ee hb
 replace Bd := Bd.ee hb
 replace hw := upB hw hb
 clear hb
 have Fa := Ba.facts
 have Fb := Bb.facts
 have Fc := Bc.facts
 have Fd := Bd.facts
 go_wp2_with fail
 refine (cd _).mono ?_
 rintro e w5 ⟨rfl, hb⟩
 clear Fa Fb Fc Fd
 replace Ba := Ba.ee hb
 replace Bb := Bb.ee hb
 replace Bc := Bc.ee hb
 replace Bd := Bd.ee hb
 replace hw := upB hw hb
 clear hb
 have Fa := Ba.facts
 have Fb := Bb.facts
 have Fc := Bc.facts
 have Fd := Bd.facts
 go_wp2
 refine zA2 fun W6 hW => ?_
 replace hw : Below w.heap.size w W6 := by rw [hW]; exact hw
 replace Ba : Box W6 (w.heap.size) [.int .i64 a.x, .int .i64 a.y] 30 := by rw [hW]; exact Ba
 replace Bb : Box W6 (w.heap.size + 1) [.int .i64 b.x, .int .i64 b.y] 30 := by rw [hW]; exact Bb
 replace Bc : Box W6 (w.heap.size + 1 + 1) [.int .i64 c.x, .int .i64 c.y] 30 := by rw [hW]; exact Bc
 replace Bd : Box W6 (w.heap.size + 1 + 1 + 1) [.int .i64 d.x, .int .i64 d.y] 30 := by rw [hW]; exact Bd
 clear hW
 clear Fa Fb Fc Fd
 have ga := Ba.cells
 have gb := Bb.cells
 have gc := Bc.cells
 have gd := Bd.cells
 refine wp_region_tail 8 (by kernel_rfl) (by kernel_rfl) (C := fun w' => ∃ p : Regrown, w' = grow (redrawn W6 p.d) p.os) rgB ?_
 simp only [tK1, tK0, dP1, dP0]
 repeat (first | (refine zA0 (Eq.refl false) ?_; simp only [Act.put, sT2, sT1, sT0]) | (refine rWalk_step (fun K hK => ?_); go_simp; first | (refine hK _ ?_; clear hK K) | (apply Exists.intro; refine ⟨fun _ => ?_, hK _ ?_⟩; (first | with_reducible exact toExt o1 _ | with_reducible exact toExt o2 _); clear hK K)))
 refine rWalk_nil ?_
 intro w7 hb
 clear ga gb gc gd
 replace Ba := Ba.ee hb
 replace Bb := Bb.ee hb
 replace Bc := Bc.ee hb
 replace Bd := Bd.ee hb
 replace hw := upB hw hb
 have Fa := Ba.facts
 have Fb := Bb.facts
 have Fc := Bc.facts
 have Fd := Bd.facts
 go_wp2_with fail
 refine (cm _).mono ?_
 rintro e w8 ⟨rfl, hb⟩
 clear Fa Fb Fc Fd
 replace Ba := Ba.ee hb
 replace Bb := Bb.ee hb
 replace Bc := Bc.ee hb
 replace Bd := Bd.ee hb
 replace hw := upB hw hb
 clear hb
 go_wp2
 go_ret
 exact ⟨rfl, hw⟩
theorem meet_n0 (a b c d : Pt) (ha : vld a = true) (hb : vld b = true) (hc : vld c = true) (hd : vld d = true) (e1 : peqI a.x a.y b.x b.y = false) (e2 : peqI c.x c.y d.x d.y = false) (z1 : ¬ ori a b c = 0) (q1 : peqI a.x a.y c.x c.y = true) (w : World) :
    Calls Tryz.prog 77 #[.agg #[.int .i64 a.x, .int .i64 a.y], .agg #[.int .i64 b.x, .int .i64 b.y], .agg #[.int .i64 c.x, .int .i64 c.y], .agg #[.int .i64 d.x, .int .i64 d.y]] w fun e w' => e = .returned (.int .i64 0) ∧ Below w.heap.size w w' := by
 have ca := zA4 a
 rw [ha] at ca
 clear ha
 have cb := zA4 b
 rw [hb] at cb
 clear hb
 have cc := zA4 c
 rw [hc] at cc
 clear hc
 have cd := zA4 d
 rw [hd] at cd
 clear hd
 have o1 := zA7 a b c
 have o2 := zA7 a b d
 have sC := zBv a b c
 generalize ori a b c = C at *
 generalize ori a b d = D at *
 have t1 : (C == 0) = false := by simpa using z1
 clear z1
 go_enter Tryz.func77, Tryz.ntmps77
 go_wp2_with fail
 refine zA1 fun W1 hW => ?_
 have Ba : Box W1 (w.heap.size) [.int .i64 a.x, .int .i64 a.y] 30 := by rw [hW]; exact (((Box.new rfl).old _).old _).old _
 have Bb : Box W1 (w.heap.size + 1) [.int .i64 b.x, .int .i64 b.y] 30 := by rw [hW]; exact ((Box.new (by simp)).old _).old _
 have Bc : Box W1 (w.heap.size + 1 + 1) [.int .i64 c.x, .int .i64 c.y] 30 := by rw [hW]; exact (Box.new (by simp)).old _
 have Bd : Box W1 (w.heap.size + 1 + 1 + 1) [.int .i64 d.x, .int .i64 d.y] 30 := by rw [hW]; exact Box.new (by simp)
 have hw : Below w.heap.size w W1 := by rw [hW]; go_grown
 clear hW
 refine (ca _).mono ?_
 rintro e w2 ⟨rfl, hb⟩
 replace Ba := Ba.ee hb
 replace Bb := Bb.ee hb
 replace Bc := Bc.ee hb
 replace Bd := Bd.ee hb
 replace hw := upB hw hb
 clear hb
 have Fa := Ba.facts
 have Fb := Bb.facts
 have Fc := Bc.facts
 have Fd := Bd.facts
 go_wp2_with fail
 refine (cb _).mono ?_
 rintro e w3 ⟨rfl, hb⟩
 clear Fa Fb Fc Fd
 replace Ba := Ba.ee hb
 replace Bb := Bb.ee hb
 replace Bc := Bc.ee hb
 replace Bd := Bd.ee hb
 replace hw := upB hw hb
 clear hb
 have Fa := Ba.facts
 have Fb := Bb.facts
 have Fc := Bc.facts
 have Fd := Bd.facts
 go_wp2_with fail
 refine (cc _).mono ?_
 rintro e w4 ⟨rfl, hb⟩
 clear Fa Fb Fc Fd
 replace Ba := Ba.ee hb
 replace Bb := Bb.ee hb
 replace Bc := Bc.ee hb
 replace Bd := Bd.ee hb
 replace hw := upB hw hb
 clear hb
 have Fa := Ba.facts
 have Fb := Bb.facts
 have Fc := Bc.facts
 have Fd := Bd.facts
 go_wp2_with fail
 refine (cd _).mono ?_
 rintro e w5 ⟨rfl, hb⟩
 clear Fa Fb Fc Fd
 replace Ba := Ba.ee hb
 replace Bb := Bb.ee hb
 replace Bc := Bc.ee hb
 replace Bd := Bd.ee hb
 replace hw := upB hw hb
 clear hb
 have Fa := Ba.facts
 have Fb := Bb.facts
 have Fc := Bc.facts
 have Fd := Bd.facts
 go_wp2
 refine zA2 fun W6 hW => ?_
 replace hw : Below w.heap.size w W6 := by rw [hW]; exact hw
 replace Ba : Box W6 (w.heap.size) [.int .i64 a.x, .int .i64 a.y] 30 := by rw [hW]; exact Ba
 replace Bb : Box W6 (w.heap.size + 1) [.int .i64 b.x, .int .i64 b.y] 30 := by rw [hW]; exact Bb
 replace Bc : Box W6 (w.heap.size + 1 + 1) [.int .i64 c.x, .int .i64 c.y] 30 := by rw [hW]; exact Bc
 replace Bd : Box W6 (w.heap.size + 1 + 1 + 1) [.int .i64 d.x, .int .i64 d.y] 30 := by rw [hW]; exact Bd
 clear hW
 clear Fa Fb Fc Fd
 have ga := Ba.cells
 have gb := Bb.cells
 have gc := Bc.cells
 have gd := Bd.cells
 refine wp_region_tail 8 (by kernel_rfl) (by kernel_rfl) (C := fun w' => ∃ p : Regrown, w' = grow (redrawn W6 p.d) p.os) rgB ?_
 simp only [tK1, tK0, dP1, dP0]
 repeat (first | (refine zA0 (Eq.refl false) ?_; simp only [Act.put, sT2, sT1, sT0]) | (refine rWalk_step (fun K hK => ?_); go_simp; first | (refine hK _ ?_; clear hK K) | (apply Exists.intro; refine ⟨fun _ => ?_, hK _ ?_⟩; (first | with_reducible exact toExt o1 _ | with_reducible exact toExt o2 _); clear hK K)))
 refine rWalk_nil ?_
 intro w7 hb
 clear ga gb gc gd
 replace Ba := Ba.ee hb
 replace Bb := Bb.ee hb
 replace Bc := Bc.ee hb
 replace Bd := Bd.ee hb
 replace hw := upB hw hb
 have Fa := Ba.facts
 have Fb := Bb.facts
 have Fc := Bc.facts
 have Fd := Bd.facts
 go_wp2
 go_ret
 exact ⟨rfl, hw⟩
theorem meet_n1 (a b c d : Pt) (ha : vld a = true) (hb : vld b = true) (hc : vld c = true) (hd : vld d = true) (e1 : peqI a.x a.y b.x b.y = false) (e2 : peqI c.x c.y d.x d.y = false) (z1 : ¬ ori a b c = 0) (q1 : peqI a.x a.y c.x c.y = false) (q2 : peqI a.x a.y d.x d.y = true) (w : World) :
    Calls Tryz.prog 77 #[.agg #[.int .i64 a.x, .int .i64 a.y], .agg #[.int .i64 b.x, .int .i64 b.y], .agg #[.int .i64 c.x, .int .i64 c.y], .agg #[.int .i64 d.x, .int .i64 d.y]] w fun e w' => e = .returned (.int .i64 0) ∧ Below w.heap.size w w' := by
 have ca := zA4 a
 rw [ha] at ca
 clear ha
 have cb := zA4 b
 rw [hb] at cb
 clear hb
 have cc := zA4 c
 rw [hc] at cc
 clear hc
 have cd := zA4 d
 rw [hd] at cd
 clear hd
 have o1 := zA7 a b c
 have o2 := zA7 a b d
 have sC := zBv a b c
 generalize ori a b c = C at *
 generalize ori a b d = D at *
 have t1 : (C == 0) = false := by simpa using z1
 clear z1
 go_enter Tryz.func77, Tryz.ntmps77
 go_wp2_with fail
 refine zA1 fun W1 hW => ?_
 have Ba : Box W1 (w.heap.size) [.int .i64 a.x, .int .i64 a.y] 30 := by rw [hW]; exact (((Box.new rfl).old _).old _).old _
 have Bb : Box W1 (w.heap.size + 1) [.int .i64 b.x, .int .i64 b.y] 30 := by rw [hW]; exact ((Box.new (by simp)).old _).old _
 have Bc : Box W1 (w.heap.size + 1 + 1) [.int .i64 c.x, .int .i64 c.y] 30 := by rw [hW]; exact (Box.new (by simp)).old _
 have Bd : Box W1 (w.heap.size + 1 + 1 + 1) [.int .i64 d.x, .int .i64 d.y] 30 := by rw [hW]; exact Box.new (by simp)
 have hw : Below w.heap.size w W1 := by rw [hW]; go_grown
 clear hW
 refine (ca _).mono ?_
 rintro e w2 ⟨rfl, hb⟩
 replace Ba := Ba.ee hb
 replace Bb := Bb.ee hb
 replace Bc := Bc.ee hb
 replace Bd := Bd.ee hb
 replace hw := upB hw hb
 clear hb
 have Fa := Ba.facts
 have Fb := Bb.facts
 have Fc := Bc.facts
 have Fd := Bd.facts
 go_wp2_with fail
 refine (cb _).mono ?_
 rintro e w3 ⟨rfl, hb⟩
 clear Fa Fb Fc Fd
 replace Ba := Ba.ee hb
 replace Bb := Bb.ee hb
 replace Bc := Bc.ee hb
 replace Bd := Bd.ee hb
 replace hw := upB hw hb
 clear hb
 have Fa := Ba.facts
 have Fb := Bb.facts
 have Fc := Bc.facts
 have Fd := Bd.facts
 go_wp2_with fail
 refine (cc _).mono ?_
 rintro e w4 ⟨rfl, hb⟩
 clear Fa Fb Fc Fd
 replace Ba := Ba.ee hb
 replace Bb := Bb.ee hb
 replace Bc := Bc.ee hb
 replace Bd := Bd.ee hb
 replace hw := upB hw hb
 clear hb
 have Fa := Ba.facts
 have Fb := Bb.facts
 have Fc := Bc.facts
 have Fd := Bd.facts
 go_wp2_with fail
 refine (cd _).mono ?_
 rintro e w5 ⟨rfl, hb⟩
 clear Fa Fb Fc Fd
 replace Ba := Ba.ee hb
 replace Bb := Bb.ee hb
 replace Bc := Bc.ee hb
 replace Bd := Bd.ee hb
 replace hw := upB hw hb
 clear hb
 have Fa := Ba.facts
 have Fb := Bb.facts
 have Fc := Bc.facts
 have Fd := Bd.facts
 go_wp2
 refine zA2 fun W6 hW => ?_
 replace hw : Below w.heap.size w W6 := by rw [hW]; exact hw
 replace Ba : Box W6 (w.heap.size) [.int .i64 a.x, .int .i64 a.y] 30 := by rw [hW]; exact Ba
 replace Bb : Box W6 (w.heap.size + 1) [.int .i64 b.x, .int .i64 b.y] 30 := by rw [hW]; exact Bb
 replace Bc : Box W6 (w.heap.size + 1 + 1) [.int .i64 c.x, .int .i64 c.y] 30 := by rw [hW]; exact Bc
 replace Bd : Box W6 (w.heap.size + 1 + 1 + 1) [.int .i64 d.x, .int .i64 d.y] 30 := by rw [hW]; exact Bd
 clear hW
 clear Fa Fb Fc Fd
 have ga := Ba.cells
 have gb := Bb.cells
 have gc := Bc.cells
 have gd := Bd.cells
 refine wp_region_tail 8 (by kernel_rfl) (by kernel_rfl) (C := fun w' => ∃ p : Regrown, w' = grow (redrawn W6 p.d) p.os) rgB ?_
 simp only [tK1, tK0, dP1, dP0]
 repeat (first | (refine zA0 (Eq.refl false) ?_; simp only [Act.put, sT2, sT1, sT0]) | (refine rWalk_step (fun K hK => ?_); go_simp; first | (refine hK _ ?_; clear hK K) | (apply Exists.intro; refine ⟨fun _ => ?_, hK _ ?_⟩; (first | with_reducible exact toExt o1 _ | with_reducible exact toExt o2 _); clear hK K)))
 refine rWalk_nil ?_
 intro w7 hb
 clear ga gb gc gd
 replace Ba := Ba.ee hb
 replace Bb := Bb.ee hb
 replace Bc := Bc.ee hb
 replace Bd := Bd.ee hb
 replace hw := upB hw hb
 have Fa := Ba.facts
 have Fb := Bb.facts
 have Fc := Bc.facts
 have Fd := Bd.facts
 go_wp2
 go_ret
 exact ⟨rfl, hw⟩
theorem meet_n2 (a b c d : Pt) (ha : vld a = true) (hb : vld b = true) (hc : vld c = true) (hd : vld d = true) (e1 : peqI a.x a.y b.x b.y = false) (e2 : peqI c.x c.y d.x d.y = false) (z1 : ¬ ori a b c = 0) (q1 : peqI a.x a.y c.x c.y = false) (q2 : peqI a.x a.y d.x d.y = false) (q3 : peqI b.x b.y c.x c.y = true) (w : World) :
    Calls Tryz.prog 77 #[.agg #[.int .i64 a.x, .int .i64 a.y], .agg #[.int .i64 b.x, .int .i64 b.y], .agg #[.int .i64 c.x, .int .i64 c.y], .agg #[.int .i64 d.x, .int .i64 d.y]] w fun e w' => e = .returned (.int .i64 0) ∧ Below w.heap.size w w' := by
 have ca := zA4 a
 rw [ha] at ca
 clear ha
 have cb := zA4 b
 rw [hb] at cb
 clear hb
 have cc := zA4 c
 rw [hc] at cc
 clear hc
 have cd := zA4 d
 rw [hd] at cd
 clear hd
 have o1 := zA7 a b c
 have o2 := zA7 a b d
 have sC := zBv a b c
 generalize ori a b c = C at *
 generalize ori a b d = D at *
 have t1 : (C == 0) = false := by simpa using z1
 clear z1
 go_enter Tryz.func77, Tryz.ntmps77
 go_wp2_with fail
 refine zA1 fun W1 hW => ?_
 have Ba : Box W1 (w.heap.size) [.int .i64 a.x, .int .i64 a.y] 30 := by rw [hW]; exact (((Box.new rfl).old _).old _).old _
 have Bb : Box W1 (w.heap.size + 1) [.int .i64 b.x, .int .i64 b.y] 30 := by rw [hW]; exact ((Box.new (by simp)).old _).old _
 have Bc : Box W1 (w.heap.size + 1 + 1) [.int .i64 c.x, .int .i64 c.y] 30 := by rw [hW]; exact (Box.new (by simp)).old _
 have Bd : Box W1 (w.heap.size + 1 + 1 + 1) [.int .i64 d.x, .int .i64 d.y] 30 := by rw [hW]; exact Box.new (by simp)
 have hw : Below w.heap.size w W1 := by rw [hW]; go_grown
 clear hW
 refine (ca _).mono ?_
 rintro e w2 ⟨rfl, hb⟩
 replace Ba := Ba.ee hb
 replace Bb := Bb.ee hb
 replace Bc := Bc.ee hb
 replace Bd := Bd.ee hb
 replace hw := upB hw hb
 clear hb
 have Fa := Ba.facts
 have Fb := Bb.facts
 have Fc := Bc.facts
 have Fd := Bd.facts
 go_wp2_with fail
 refine (cb _).mono ?_
 rintro e w3 ⟨rfl, hb⟩
 clear Fa Fb Fc Fd
 replace Ba := Ba.ee hb
 replace Bb := Bb.ee hb
 replace Bc := Bc.ee hb
 replace Bd := Bd.ee hb
 replace hw := upB hw hb
 clear hb
 have Fa := Ba.facts
 have Fb := Bb.facts
 have Fc := Bc.facts
 have Fd := Bd.facts
 go_wp2_with fail
 refine (cc _).mono ?_
 rintro e w4 ⟨rfl, hb⟩
 clear Fa Fb Fc Fd
 replace Ba := Ba.ee hb
 replace Bb := Bb.ee hb
 replace Bc := Bc.ee hb
 replace Bd := Bd.ee hb
 replace hw := upB hw hb
 clear hb
 have Fa := Ba.facts
 have Fb := Bb.facts
 have Fc := Bc.facts
 have Fd := Bd.facts
 go_wp2_with fail
 refine (cd _).mono ?_
 rintro e w5 ⟨rfl, hb⟩
 clear Fa Fb Fc Fd
 replace Ba := Ba.ee hb
 replace Bb := Bb.ee hb
 replace Bc := Bc.ee hb
 replace Bd := Bd.ee hb
 replace hw := upB hw hb
 clear hb
 have Fa := Ba.facts
 have Fb := Bb.facts
 have Fc := Bc.facts
 have Fd := Bd.facts
 go_wp2
 refine zA2 fun W6 hW => ?_
 replace hw : Below w.heap.size w W6 := by rw [hW]; exact hw
 replace Ba : Box W6 (w.heap.size) [.int .i64 a.x, .int .i64 a.y] 30 := by rw [hW]; exact Ba
 replace Bb : Box W6 (w.heap.size + 1) [.int .i64 b.x, .int .i64 b.y] 30 := by rw [hW]; exact Bb
 replace Bc : Box W6 (w.heap.size + 1 + 1) [.int .i64 c.x, .int .i64 c.y] 30 := by rw [hW]; exact Bc
 replace Bd : Box W6 (w.heap.size + 1 + 1 + 1) [.int .i64 d.x, .int .i64 d.y] 30 := by rw [hW]; exact Bd
 clear hW
 clear Fa Fb Fc Fd
 have ga := Ba.cells
 have gb := Bb.cells
 have gc := Bc.cells
 have gd := Bd.cells
 refine wp_region_tail 8 (by kernel_rfl) (by kernel_rfl) (C := fun w' => ∃ p : Regrown, w' = grow (redrawn W6 p.d) p.os) rgB ?_
 simp only [tK1, tK0, dP1, dP0]
 repeat (first | (refine zA0 (Eq.refl false) ?_; simp only [Act.put, sT2, sT1, sT0]) | (refine rWalk_step (fun K hK => ?_); go_simp; first | (refine hK _ ?_; clear hK K) | (apply Exists.intro; refine ⟨fun _ => ?_, hK _ ?_⟩; (first | with_reducible exact toExt o1 _ | with_reducible exact toExt o2 _); clear hK K)))
 refine rWalk_nil ?_
 intro w7 hb
 clear ga gb gc gd
 replace Ba := Ba.ee hb
 replace Bb := Bb.ee hb
 replace Bc := Bc.ee hb
 replace Bd := Bd.ee hb
 replace hw := upB hw hb
 have Fa := Ba.facts
 have Fb := Bb.facts
 have Fc := Bc.facts
 have Fd := Bd.facts
 go_wp2
 go_ret
 exact ⟨rfl, hw⟩
theorem meet_n3 (a b c d : Pt) (ha : vld a = true) (hb : vld b = true) (hc : vld c = true) (hd : vld d = true) (e1 : peqI a.x a.y b.x b.y = false) (e2 : peqI c.x c.y d.x d.y = false) (z1 : ¬ ori a b c = 0) (q1 : peqI a.x a.y c.x c.y = false) (q2 : peqI a.x a.y d.x d.y = false) (q3 : peqI b.x b.y c.x c.y = false) (q4 : peqI b.x b.y d.x d.y = true) (w : World) :
    Calls Tryz.prog 77 #[.agg #[.int .i64 a.x, .int .i64 a.y], .agg #[.int .i64 b.x, .int .i64 b.y], .agg #[.int .i64 c.x, .int .i64 c.y], .agg #[.int .i64 d.x, .int .i64 d.y]] w fun e w' => e = .returned (.int .i64 0) ∧ Below w.heap.size w w' := by
 have ca := zA4 a
 rw [ha] at ca
 clear ha
 have cb := zA4 b
 rw [hb] at cb
 clear hb
 have cc := zA4 c
 rw [hc] at cc
 clear hc
 have cd := zA4 d
 rw [hd] at cd
 clear hd
 have o1 := zA7 a b c
 have o2 := zA7 a b d
 have sC := zBv a b c
 generalize ori a b c = C at *
 generalize ori a b d = D at *
 have t1 : (C == 0) = false := by simpa using z1
 clear z1
 go_enter Tryz.func77, Tryz.ntmps77
 go_wp2_with fail
 refine zA1 fun W1 hW => ?_
 have Ba : Box W1 (w.heap.size) [.int .i64 a.x, .int .i64 a.y] 30 := by rw [hW]; exact (((Box.new rfl).old _).old _).old _
 have Bb : Box W1 (w.heap.size + 1) [.int .i64 b.x, .int .i64 b.y] 30 := by rw [hW]; exact ((Box.new (by simp)).old _).old _
 have Bc : Box W1 (w.heap.size + 1 + 1) [.int .i64 c.x, .int .i64 c.y] 30 := by rw [hW]; exact (Box.new (by simp)).old _
 have Bd : Box W1 (w.heap.size + 1 + 1 + 1) [.int .i64 d.x, .int .i64 d.y] 30 := by rw [hW]; exact Box.new (by simp)
 have hw : Below w.heap.size w W1 := by rw [hW]; go_grown
 clear hW
 refine (ca _).mono ?_
 rintro e w2 ⟨rfl, hb⟩
 replace Ba := Ba.ee hb
 replace Bb := Bb.ee hb
 replace Bc := Bc.ee hb
 replace Bd := Bd.ee hb
 replace hw := upB hw hb
 clear hb
 have Fa := Ba.facts
 have Fb := Bb.facts
 have Fc := Bc.facts
 have Fd := Bd.facts
 go_wp2_with fail
 refine (cb _).mono ?_
 rintro e w3 ⟨rfl, hb⟩
 clear Fa Fb Fc Fd
 replace Ba := Ba.ee hb
 replace Bb := Bb.ee hb
 replace Bc := Bc.ee hb
 replace Bd := Bd.ee hb
 replace hw := upB hw hb
 clear hb
 have Fa := Ba.facts
 have Fb := Bb.facts
 have Fc := Bc.facts
 have Fd := Bd.facts
 go_wp2_with fail
 refine (cc _).mono ?_
 rintro e w4 ⟨rfl, hb⟩
 clear Fa Fb Fc Fd
 replace Ba := Ba.ee hb
 replace Bb := Bb.ee hb
 replace Bc := Bc.ee hb
 replace Bd := Bd.ee hb
 replace hw := upB hw hb
 clear hb
 have Fa := Ba.facts
 have Fb := Bb.facts
 have Fc := Bc.facts
 have Fd := Bd.facts
 go_wp2_with fail
 refine (cd _).mono ?_
 rintro e w5 ⟨rfl, hb⟩
 clear Fa Fb Fc Fd
 replace Ba := Ba.ee hb
 replace Bb := Bb.ee hb
 replace Bc := Bc.ee hb
 replace Bd := Bd.ee hb
 replace hw := upB hw hb
 clear hb
 have Fa := Ba.facts
 have Fb := Bb.facts
 have Fc := Bc.facts
 have Fd := Bd.facts
 go_wp2
 refine zA2 fun W6 hW => ?_
 replace hw : Below w.heap.size w W6 := by rw [hW]; exact hw
 replace Ba : Box W6 (w.heap.size) [.int .i64 a.x, .int .i64 a.y] 30 := by rw [hW]; exact Ba
 replace Bb : Box W6 (w.heap.size + 1) [.int .i64 b.x, .int .i64 b.y] 30 := by rw [hW]; exact Bb
 replace Bc : Box W6 (w.heap.size + 1 + 1) [.int .i64 c.x, .int .i64 c.y] 30 := by rw [hW]; exact Bc
 replace Bd : Box W6 (w.heap.size + 1 + 1 + 1) [.int .i64 d.x, .int .i64 d.y] 30 := by rw [hW]; exact Bd
 clear hW
 clear Fa Fb Fc Fd
 have ga := Ba.cells
 have gb := Bb.cells
 have gc := Bc.cells
 have gd := Bd.cells
 refine wp_region_tail 8 (by kernel_rfl) (by kernel_rfl) (C := fun w' => ∃ p : Regrown, w' = grow (redrawn W6 p.d) p.os) rgB ?_
 simp only [tK1, tK0, dP1, dP0]
 repeat (first | (refine zA0 (Eq.refl false) ?_; simp only [Act.put, sT2, sT1, sT0]) | (refine rWalk_step (fun K hK => ?_); go_simp; first | (refine hK _ ?_; clear hK K) | (apply Exists.intro; refine ⟨fun _ => ?_, hK _ ?_⟩; (first | with_reducible exact toExt o1 _ | with_reducible exact toExt o2 _); clear hK K)))
 refine rWalk_nil ?_
 intro w7 hb
 clear ga gb gc gd
 replace Ba := Ba.ee hb
 replace Bb := Bb.ee hb
 replace Bc := Bc.ee hb
 replace Bd := Bd.ee hb
 replace hw := upB hw hb
 have Fa := Ba.facts
 have Fb := Bb.facts
 have Fc := Bc.facts
 have Fd := Bd.facts
 go_wp2
 go_ret
 exact ⟨rfl, hw⟩
theorem meet_n4 (a b c d : Pt) (ha : vld a = true) (hb : vld b = true) (hc : vld c = true) (hd : vld d = true) (e1 : peqI a.x a.y b.x b.y = false) (e2 : peqI c.x c.y d.x d.y = false) (z1 : ¬ ori a b c = 0) (q1 : peqI a.x a.y c.x c.y = false) (q2 : peqI a.x a.y d.x d.y = false) (q3 : peqI b.x b.y c.x c.y = false) (q4 : peqI b.x b.y d.x d.y = false) (w : World) :
    Calls Tryz.prog 77 #[.agg #[.int .i64 a.x, .int .i64 a.y], .agg #[.int .i64 b.x, .int .i64 b.y], .agg #[.int .i64 c.x, .int .i64 c.y], .agg #[.int .i64 d.x, .int .i64 d.y]] w fun e w' => e = .returned (.int .i64 (fin (ori c d a) (ori c d b) (ori a b c) (ori a b d))) ∧ Below w.heap.size w w' := by
 have ca := zA4 a
 rw [ha] at ca
 clear ha
 have cb := zA4 b
 rw [hb] at cb
 clear hb
 have cc := zA4 c
 rw [hc] at cc
 clear hc
 have cd := zA4 d
 rw [hd] at cd
 clear hd
 have o1 := zA7 a b c
 have o2 := zA7 a b d
 have o3 := zA7 c d a
 have o4 := zA7 c d b
 generalize ori c d a = A at *
 generalize ori c d b = B at *
 have sC := zBv a b c
 generalize ori a b c = C at *
 generalize ori a b d = D at *
 have t1 : (C == 0) = false := by simpa using z1
 clear z1
 go_enter Tryz.func77, Tryz.ntmps77
 go_wp2_with fail
 refine zA1 fun W1 hW => ?_
 have Ba : Box W1 (w.heap.size) [.int .i64 a.x, .int .i64 a.y] 30 := by rw [hW]; exact (((Box.new rfl).old _).old _).old _
 have Bb : Box W1 (w.heap.size + 1) [.int .i64 b.x, .int .i64 b.y] 30 := by rw [hW]; exact ((Box.new (by simp)).old _).old _
 have Bc : Box W1 (w.heap.size + 1 + 1) [.int .i64 c.x, .int .i64 c.y] 30 := by rw [hW]; exact (Box.new (by simp)).old _
 have Bd : Box W1 (w.heap.size + 1 + 1 + 1) [.int .i64 d.x, .int .i64 d.y] 30 := by rw [hW]; exact Box.new (by simp)
 have hw : Below w.heap.size w W1 := by rw [hW]; go_grown
 clear hW
 refine (ca _).mono ?_
 rintro e w2 ⟨rfl, hb⟩
 replace Ba := Ba.ee hb
 replace Bb := Bb.ee hb
 replace Bc := Bc.ee hb
 replace Bd := Bd.ee hb
 replace hw := upB hw hb
 clear hb
 have Fa := Ba.facts
 have Fb := Bb.facts
 have Fc := Bc.facts
 have Fd := Bd.facts
 go_wp2_with fail
 refine (cb _).mono ?_
 rintro e w3 ⟨rfl, hb⟩
 clear Fa Fb Fc Fd
 replace Ba := Ba.ee hb
 replace Bb := Bb.ee hb
 replace Bc := Bc.ee hb
 replace Bd := Bd.ee hb
 replace hw := upB hw hb
 clear hb
 have Fa := Ba.facts
 have Fb := Bb.facts
 have Fc := Bc.facts
 have Fd := Bd.facts
 go_wp2_with fail
 refine (cc _).mono ?_
 rintro e w4 ⟨rfl, hb⟩
 clear Fa Fb Fc Fd
 replace Ba := Ba.ee hb
 replace Bb := Bb.ee hb
 replace Bc := Bc.ee hb
 replace Bd := Bd.ee hb
 replace hw := upB hw hb
 clear hb
 have Fa := Ba.facts
 have Fb := Bb.facts
 have Fc := Bc.facts
 have Fd := Bd.facts
 go_wp2_with fail
 refine (cd _).mono ?_
 rintro e w5 ⟨rfl, hb⟩
 clear Fa Fb Fc Fd
 replace Ba := Ba.ee hb
 replace Bb := Bb.ee hb
 replace Bc := Bc.ee hb
 replace Bd := Bd.ee hb
 replace hw := upB hw hb
 clear hb
 have Fa := Ba.facts
 have Fb := Bb.facts
 have Fc := Bc.facts
 have Fd := Bd.facts
 go_wp2
 refine zA2 fun W6 hW => ?_
 replace hw : Below w.heap.size w W6 := by rw [hW]; exact hw
 replace Ba : Box W6 (w.heap.size) [.int .i64 a.x, .int .i64 a.y] 30 := by rw [hW]; exact Ba
 replace Bb : Box W6 (w.heap.size + 1) [.int .i64 b.x, .int .i64 b.y] 30 := by rw [hW]; exact Bb
 replace Bc : Box W6 (w.heap.size + 1 + 1) [.int .i64 c.x, .int .i64 c.y] 30 := by rw [hW]; exact Bc
 replace Bd : Box W6 (w.heap.size + 1 + 1 + 1) [.int .i64 d.x, .int .i64 d.y] 30 := by rw [hW]; exact Bd
 clear hW
 clear Fa Fb Fc Fd
 have ga := Ba.cells
 have gb := Bb.cells
 have gc := Bc.cells
 have gd := Bd.cells
 refine wp_region_tail 8 (by kernel_rfl) (by kernel_rfl) (C := fun w' => ∃ p : Regrown, w' = grow (redrawn W6 p.d) p.os) rgB ?_
 simp only [tK1, tK0, dP1, dP0]
 repeat (first | (refine zA0 (Eq.refl false) ?_; simp only [Act.put, sT2, sT1, sT0]) | (refine rWalk_step (fun K hK => ?_); go_simp; first | (refine hK _ ?_; clear hK K) | (apply Exists.intro; refine ⟨fun _ => ?_, hK _ ?_⟩; (first | with_reducible exact toExt o1 _ | with_reducible exact toExt o2 _); clear hK K)))
 refine rWalk_nil ?_
 intro w7 hb
 clear ga gb gc gd
 replace Ba := Ba.ee hb
 replace Bb := Bb.ee hb
 replace Bc := Bc.ee hb
 replace Bd := Bd.ee hb
 replace hw := upB hw hb
 have Fa := Ba.facts
 have Fb := Bb.facts
 have Fc := Bc.facts
 have Fd := Bd.facts
 go_wp2
 refine zA2 fun W8 hW => ?_
 replace hw : Below w.heap.size w W8 := by rw [hW]; exact hw
 replace Ba : Box W8 (w.heap.size) [.int .i64 a.x, .int .i64 a.y] 30 := by rw [hW]; exact Ba
 replace Bb : Box W8 (w.heap.size + 1) [.int .i64 b.x, .int .i64 b.y] 30 := by rw [hW]; exact Bb
 replace Bc : Box W8 (w.heap.size + 1 + 1) [.int .i64 c.x, .int .i64 c.y] 30 := by rw [hW]; exact Bc
 replace Bd : Box W8 (w.heap.size + 1 + 1 + 1) [.int .i64 d.x, .int .i64 d.y] 30 := by rw [hW]; exact Bd
 clear hW
 clear Fa Fb Fc Fd
 have ga := Ba.cells
 have gb := Bb.cells
 have gc := Bc.cells
 have gd := Bd.cells
 refine wp_region_tail 8 (by kernel_rfl) (by kernel_rfl) (C := fun w' => ∃ p : Regrown, w' = grow (redrawn W8 p.d) p.os) rgB ?_
 simp only [tK1, tK0, dP1, dP0]
 repeat (first | (refine zA0 (Eq.refl false) ?_; simp only [Act.put, sT2, sT1, sT0]) | (refine rWalk_step (fun K hK => ?_); go_simp; first | (refine hK _ ?_; clear hK K) | (apply Exists.intro; refine ⟨fun _ => ?_, hK _ ?_⟩; (first | with_reducible exact toExt o3 _ | with_reducible exact toExt o4 _); clear hK K)))
 refine rWalk_nil ?_
 intro w9 hb
 clear ga gb gc gd
 replace Ba := Ba.ee hb
 replace Bb := Bb.ee hb
 replace Bc := Bc.ee hb
 replace Bd := Bd.ee hb
 replace hw := upB hw hb
 go_wp2
 all_goals go_ret
 all_goals exact ⟨zAi (by unfold fin; simp_all), hw⟩
theorem meet_z0 (a b c d : Pt) (ha : vld a = true) (hb : vld b = true) (hc : vld c = true) (hd : vld d = true) (e1 : peqI a.x a.y b.x b.y = false) (e2 : peqI c.x c.y d.x d.y = false) (z1 : ori a b c = 0) (z2 : ¬ ori a b d = 0) (q1 : peqI a.x a.y c.x c.y = true) (w : World) :
    Calls Tryz.prog 77 #[.agg #[.int .i64 a.x, .int .i64 a.y], .agg #[.int .i64 b.x, .int .i64 b.y], .agg #[.int .i64 c.x, .int .i64 c.y], .agg #[.int .i64 d.x, .int .i64 d.y]] w fun e w' => e = .returned (.int .i64 0) ∧ Below w.heap.size w w' := by
 have ca := zA4 a
 rw [ha] at ca
 clear ha
 have cb := zA4 b
 rw [hb] at cb
 clear hb
 have cc := zA4 c
 rw [hc] at cc
 clear hc
 have cd := zA4 d
 rw [hd] at cd
 clear hd
 have o1 := zA7 a b c
 have o2 := zA7 a b d
 rw [z1] at o1
 generalize ori a b d = D at *
 have t1 : (D == 0) = false := by simpa using z2
 clear z1 z2
 go_enter Tryz.func77, Tryz.ntmps77
 go_wp2_with fail
 refine zA1 fun W1 hW => ?_
 have Ba : Box W1 (w.heap.size) [.int .i64 a.x, .int .i64 a.y] 30 := by rw [hW]; exact (((Box.new rfl).old _).old _).old _
 have Bb : Box W1 (w.heap.size + 1) [.int .i64 b.x, .int .i64 b.y] 30 := by rw [hW]; exact ((Box.new (by simp)).old _).old _
 have Bc : Box W1 (w.heap.size + 1 + 1) [.int .i64 c.x, .int .i64 c.y] 30 := by rw [hW]; exact (Box.new (by simp)).old _
 have Bd : Box W1 (w.heap.size + 1 + 1 + 1) [.int .i64 d.x, .int .i64 d.y] 30 := by rw [hW]; exact Box.new (by simp)
 have hw : Below w.heap.size w W1 := by rw [hW]; go_grown
 clear hW
 refine (ca _).mono ?_
 rintro e w2 ⟨rfl, hb⟩
 replace Ba := Ba.ee hb
 replace Bb := Bb.ee hb
 replace Bc := Bc.ee hb
 replace Bd := Bd.ee hb
 replace hw := upB hw hb
 clear hb
 have Fa := Ba.facts
 have Fb := Bb.facts
 have Fc := Bc.facts
 have Fd := Bd.facts
 go_wp2_with fail
 refine (cb _).mono ?_
 rintro e w3 ⟨rfl, hb⟩
 clear Fa Fb Fc Fd
 replace Ba := Ba.ee hb
 replace Bb := Bb.ee hb
 replace Bc := Bc.ee hb
 replace Bd := Bd.ee hb
 replace hw := upB hw hb
 clear hb
 have Fa := Ba.facts
 have Fb := Bb.facts
 have Fc := Bc.facts
 have Fd := Bd.facts
 go_wp2_with fail
 refine (cc _).mono ?_
 rintro e w4 ⟨rfl, hb⟩
 clear Fa Fb Fc Fd
 replace Ba := Ba.ee hb
 replace Bb := Bb.ee hb
 replace Bc := Bc.ee hb
 replace Bd := Bd.ee hb
 replace hw := upB hw hb
 clear hb
 have Fa := Ba.facts
 have Fb := Bb.facts
 have Fc := Bc.facts
 have Fd := Bd.facts
 go_wp2_with fail
 refine (cd _).mono ?_
 rintro e w5 ⟨rfl, hb⟩
 clear Fa Fb Fc Fd
 replace Ba := Ba.ee hb
 replace Bb := Bb.ee hb
 replace Bc := Bc.ee hb
 replace Bd := Bd.ee hb
 replace hw := upB hw hb
 clear hb
 have Fa := Ba.facts
 have Fb := Bb.facts
 have Fc := Bc.facts
 have Fd := Bd.facts
 go_wp2
 refine zA2 fun W6 hW => ?_
 replace hw : Below w.heap.size w W6 := by rw [hW]; exact hw
 replace Ba : Box W6 (w.heap.size) [.int .i64 a.x, .int .i64 a.y] 30 := by rw [hW]; exact Ba
 replace Bb : Box W6 (w.heap.size + 1) [.int .i64 b.x, .int .i64 b.y] 30 := by rw [hW]; exact Bb
 replace Bc : Box W6 (w.heap.size + 1 + 1) [.int .i64 c.x, .int .i64 c.y] 30 := by rw [hW]; exact Bc
 replace Bd : Box W6 (w.heap.size + 1 + 1 + 1) [.int .i64 d.x, .int .i64 d.y] 30 := by rw [hW]; exact Bd
 clear hW
 clear Fa Fb Fc Fd
 have ga := Ba.cells
 have gb := Bb.cells
 have gc := Bc.cells
 have gd := Bd.cells
 refine wp_region_tail 8 (by kernel_rfl) (by kernel_rfl) (C := fun w' => ∃ p : Regrown, w' = grow (redrawn W6 p.d) p.os) rgB ?_
 simp only [tK1, tK0, dP1, dP0]
 repeat (first | (refine zA0 (Eq.refl false) ?_; simp only [Act.put, sT2, sT1, sT0]) | (refine rWalk_step (fun K hK => ?_); go_simp; first | (refine hK _ ?_; clear hK K) | (apply Exists.intro; refine ⟨fun _ => ?_, hK _ ?_⟩; (first | with_reducible exact toExt o1 _ | with_reducible exact toExt o2 _); clear hK K)))
 refine rWalk_nil ?_
 intro w7 hb
 clear ga gb gc gd
 replace Ba := Ba.ee hb
 replace Bb := Bb.ee hb
 replace Bc := Bc.ee hb
 replace Bd := Bd.ee hb
 replace hw := upB hw hb
 have Fa := Ba.facts
 have Fb := Bb.facts
 have Fc := Bc.facts
 have Fd := Bd.facts
 go_wp2
 go_ret
 exact ⟨rfl, hw⟩
theorem meet_z1 (a b c d : Pt) (ha : vld a = true) (hb : vld b = true) (hc : vld c = true) (hd : vld d = true) (e1 : peqI a.x a.y b.x b.y = false) (e2 : peqI c.x c.y d.x d.y = false) (z1 : ori a b c = 0) (z2 : ¬ ori a b d = 0) (q1 : peqI a.x a.y c.x c.y = false) (q2 : peqI a.x a.y d.x d.y = true) (w : World) :
    Calls Tryz.prog 77 #[.agg #[.int .i64 a.x, .int .i64 a.y], .agg #[.int .i64 b.x, .int .i64 b.y], .agg #[.int .i64 c.x, .int .i64 c.y], .agg #[.int .i64 d.x, .int .i64 d.y]] w fun e w' => e = .returned (.int .i64 0) ∧ Below w.heap.size w w' := by
 have ca := zA4 a
 rw [ha] at ca
 clear ha
 have cb := zA4 b
 rw [hb] at cb
 clear hb
 have cc := zA4 c
 rw [hc] at cc
 clear hc
 have cd := zA4 d
 rw [hd] at cd
 clear hd
 have o1 := zA7 a b c
 have o2 := zA7 a b d
 rw [z1] at o1
 generalize ori a b d = D at *
 have t1 : (D == 0) = false := by simpa using z2
 clear z1 z2
 go_enter Tryz.func77, Tryz.ntmps77
 go_wp2_with fail
 refine zA1 fun W1 hW => ?_
 have Ba : Box W1 (w.heap.size) [.int .i64 a.x, .int .i64 a.y] 30 := by rw [hW]; exact (((Box.new rfl).old _).old _).old _
 have Bb : Box W1 (w.heap.size + 1) [.int .i64 b.x, .int .i64 b.y] 30 := by rw [hW]; exact ((Box.new (by simp)).old _).old _
 have Bc : Box W1 (w.heap.size + 1 + 1) [.int .i64 c.x, .int .i64 c.y] 30 := by rw [hW]; exact (Box.new (by simp)).old _
 have Bd : Box W1 (w.heap.size + 1 + 1 + 1) [.int .i64 d.x, .int .i64 d.y] 30 := by rw [hW]; exact Box.new (by simp)
 have hw : Below w.heap.size w W1 := by rw [hW]; go_grown
 clear hW
 refine (ca _).mono ?_
 rintro e w2 ⟨rfl, hb⟩
 replace Ba := Ba.ee hb
 replace Bb := Bb.ee hb
 replace Bc := Bc.ee hb
 replace Bd := Bd.ee hb
 replace hw := upB hw hb
 clear hb
 have Fa := Ba.facts
 have Fb := Bb.facts
 have Fc := Bc.facts
 have Fd := Bd.facts
 go_wp2_with fail
 refine (cb _).mono ?_
 rintro e w3 ⟨rfl, hb⟩
 clear Fa Fb Fc Fd
 replace Ba := Ba.ee hb
 replace Bb := Bb.ee hb
 replace Bc := Bc.ee hb
 replace Bd := Bd.ee hb
 replace hw := upB hw hb
 clear hb
 have Fa := Ba.facts
 have Fb := Bb.facts
 have Fc := Bc.facts
 have Fd := Bd.facts
 go_wp2_with fail
 refine (cc _).mono ?_
 rintro e w4 ⟨rfl, hb⟩
 clear Fa Fb Fc Fd
 replace Ba := Ba.ee hb
 replace Bb := Bb.ee hb
 replace Bc := Bc.ee hb
 replace Bd := Bd.ee hb
 replace hw := upB hw hb
 clear hb
 have Fa := Ba.facts
 have Fb := Bb.facts
 have Fc := Bc.facts
 have Fd := Bd.facts
 go_wp2_with fail
 refine (cd _).mono ?_
 rintro e w5 ⟨rfl, hb⟩
 clear Fa Fb Fc Fd
 replace Ba := Ba.ee hb
 replace Bb := Bb.ee hb
 replace Bc := Bc.ee hb
 replace Bd := Bd.ee hb
 replace hw := upB hw hb
 clear hb
 have Fa := Ba.facts
 have Fb := Bb.facts
 have Fc := Bc.facts
 have Fd := Bd.facts
 go_wp2
 refine zA2 fun W6 hW => ?_
 replace hw : Below w.heap.size w W6 := by rw [hW]; exact hw
 replace Ba : Box W6 (w.heap.size) [.int .i64 a.x, .int .i64 a.y] 30 := by rw [hW]; exact Ba
 replace Bb : Box W6 (w.heap.size + 1) [.int .i64 b.x, .int .i64 b.y] 30 := by rw [hW]; exact Bb
 replace Bc : Box W6 (w.heap.size + 1 + 1) [.int .i64 c.x, .int .i64 c.y] 30 := by rw [hW]; exact Bc
 replace Bd : Box W6 (w.heap.size + 1 + 1 + 1) [.int .i64 d.x, .int .i64 d.y] 30 := by rw [hW]; exact Bd
 clear hW
 clear Fa Fb Fc Fd
 have ga := Ba.cells
 have gb := Bb.cells
 have gc := Bc.cells
 have gd := Bd.cells
 refine wp_region_tail 8 (by kernel_rfl) (by kernel_rfl) (C := fun w' => ∃ p : Regrown, w' = grow (redrawn W6 p.d) p.os) rgB ?_
 simp only [tK1, tK0, dP1, dP0]
 repeat (first | (refine zA0 (Eq.refl false) ?_; simp only [Act.put, sT2, sT1, sT0]) | (refine rWalk_step (fun K hK => ?_); go_simp; first | (refine hK _ ?_; clear hK K) | (apply Exists.intro; refine ⟨fun _ => ?_, hK _ ?_⟩; (first | with_reducible exact toExt o1 _ | with_reducible exact toExt o2 _); clear hK K)))
 refine rWalk_nil ?_
 intro w7 hb
 clear ga gb gc gd
 replace Ba := Ba.ee hb
 replace Bb := Bb.ee hb
 replace Bc := Bc.ee hb
 replace Bd := Bd.ee hb
 replace hw := upB hw hb
 have Fa := Ba.facts
 have Fb := Bb.facts
 have Fc := Bc.facts
 have Fd := Bd.facts
 go_wp2
 go_ret
 exact ⟨rfl, hw⟩
theorem meet_z2 (a b c d : Pt) (ha : vld a = true) (hb : vld b = true) (hc : vld c = true) (hd : vld d = true) (e1 : peqI a.x a.y b.x b.y = false) (e2 : peqI c.x c.y d.x d.y = false) (z1 : ori a b c = 0) (z2 : ¬ ori a b d = 0) (q1 : peqI a.x a.y c.x c.y = false) (q2 : peqI a.x a.y d.x d.y = false) (q3 : peqI b.x b.y c.x c.y = true) (w : World) :
    Calls Tryz.prog 77 #[.agg #[.int .i64 a.x, .int .i64 a.y], .agg #[.int .i64 b.x, .int .i64 b.y], .agg #[.int .i64 c.x, .int .i64 c.y], .agg #[.int .i64 d.x, .int .i64 d.y]] w fun e w' => e = .returned (.int .i64 0) ∧ Below w.heap.size w w' := by
 have ca := zA4 a
 rw [ha] at ca
 clear ha
 have cb := zA4 b
 rw [hb] at cb
 clear hb
 have cc := zA4 c
 rw [hc] at cc
 clear hc
 have cd := zA4 d
 rw [hd] at cd
 clear hd
 have o1 := zA7 a b c
 have o2 := zA7 a b d
 rw [z1] at o1
 generalize ori a b d = D at *
 have t1 : (D == 0) = false := by simpa using z2
 clear z1 z2
 go_enter Tryz.func77, Tryz.ntmps77
 go_wp2_with fail
 refine zA1 fun W1 hW => ?_
 have Ba : Box W1 (w.heap.size) [.int .i64 a.x, .int .i64 a.y] 30 := by rw [hW]; exact (((Box.new rfl).old _).old _).old _
 have Bb : Box W1 (w.heap.size + 1) [.int .i64 b.x, .int .i64 b.y] 30 := by rw [hW]; exact ((Box.new (by simp)).old _).old _
 have Bc : Box W1 (w.heap.size + 1 + 1) [.int .i64 c.x, .int .i64 c.y] 30 := by rw [hW]; exact (Box.new (by simp)).old _
 have Bd : Box W1 (w.heap.size + 1 + 1 + 1) [.int .i64 d.x, .int .i64 d.y] 30 := by rw [hW]; exact Box.new (by simp)
 have hw : Below w.heap.size w W1 := by rw [hW]; go_grown
 clear hW
 refine (ca _).mono ?_
 rintro e w2 ⟨rfl, hb⟩
 replace Ba := Ba.ee hb
 replace Bb := Bb.ee hb
 replace Bc := Bc.ee hb
 replace Bd := Bd.ee hb
 replace hw := upB hw hb
 clear hb
 have Fa := Ba.facts
 have Fb := Bb.facts
 have Fc := Bc.facts
 have Fd := Bd.facts
 go_wp2_with fail
 refine (cb _).mono ?_
 rintro e w3 ⟨rfl, hb⟩
 clear Fa Fb Fc Fd
 replace Ba := Ba.ee hb
 replace Bb := Bb.ee hb
 replace Bc := Bc.ee hb
 replace Bd := Bd.ee hb
 replace hw := upB hw hb
 clear hb
 have Fa := Ba.facts
 have Fb := Bb.facts
 have Fc := Bc.facts
 have Fd := Bd.facts
 go_wp2_with fail
 refine (cc _).mono ?_
 rintro e w4 ⟨rfl, hb⟩
 clear Fa Fb Fc Fd
 replace Ba := Ba.ee hb
 replace Bb := Bb.ee hb
 replace Bc := Bc.ee hb
 replace Bd := Bd.ee hb
 replace hw := upB hw hb
 clear hb
 have Fa := Ba.facts
 have Fb := Bb.facts
 have Fc := Bc.facts
 have Fd := Bd.facts
 go_wp2_with fail
 refine (cd _).mono ?_
 rintro e w5 ⟨rfl, hb⟩
 clear Fa Fb Fc Fd
 replace Ba := Ba.ee hb
 replace Bb := Bb.ee hb
 replace Bc := Bc.ee hb
 replace Bd := Bd.ee hb
 replace hw := upB hw hb
 clear hb
 have Fa := Ba.facts
 have Fb := Bb.facts
 have Fc := Bc.facts
 have Fd := Bd.facts
 go_wp2
 refine zA2 fun W6 hW => ?_
 replace hw : Below w.heap.size w W6 := by rw [hW]; exact hw
 replace Ba : Box W6 (w.heap.size) [.int .i64 a.x, .int .i64 a.y] 30 := by rw [hW]; exact Ba
 replace Bb : Box W6 (w.heap.size + 1) [.int .i64 b.x, .int .i64 b.y] 30 := by rw [hW]; exact Bb
 replace Bc : Box W6 (w.heap.size + 1 + 1) [.int .i64 c.x, .int .i64 c.y] 30 := by rw [hW]; exact Bc
 replace Bd : Box W6 (w.heap.size + 1 + 1 + 1) [.int .i64 d.x, .int .i64 d.y] 30 := by rw [hW]; exact Bd
 clear hW
 clear Fa Fb Fc Fd
 have ga := Ba.cells
 have gb := Bb.cells
 have gc := Bc.cells
 have gd := Bd.cells
 refine wp_region_tail 8 (by kernel_rfl) (by kernel_rfl) (C := fun w' => ∃ p : Regrown, w' = grow (redrawn W6 p.d) p.os) rgB ?_
 simp only [tK1, tK0, dP1, dP0]
 repeat (first | (refine zA0 (Eq.refl false) ?_; simp only [Act.put, sT2, sT1, sT0]) | (refine rWalk_step (fun K hK => ?_); go_simp; first | (refine hK _ ?_; clear hK K) | (apply Exists.intro; refine ⟨fun _ => ?_, hK _ ?_⟩; (first | with_reducible exact toExt o1 _ | with_reducible exact toExt o2 _); clear hK K)))
 refine rWalk_nil ?_
 intro w7 hb
 clear ga gb gc gd
 replace Ba := Ba.ee hb
 replace Bb := Bb.ee hb
 replace Bc := Bc.ee hb
 replace Bd := Bd.ee hb
 replace hw := upB hw hb
 have Fa := Ba.facts
 have Fb := Bb.facts
 have Fc := Bc.facts
 have Fd := Bd.facts
 go_wp2
 go_ret
 exact ⟨rfl, hw⟩
theorem meet_z3 (a b c d : Pt) (ha : vld a = true) (hb : vld b = true) (hc : vld c = true) (hd : vld d = true) (e1 : peqI a.x a.y b.x b.y = false) (e2 : peqI c.x c.y d.x d.y = false) (z1 : ori a b c = 0) (z2 : ¬ ori a b d = 0) (q1 : peqI a.x a.y c.x c.y = false) (q2 : peqI a.x a.y d.x d.y = false) (q3 : peqI b.x b.y c.x c.y = false) (q4 : peqI b.x b.y d.x d.y = true) (w : World) :
    Calls Tryz.prog 77 #[.agg #[.int .i64 a.x, .int .i64 a.y], .agg #[.int .i64 b.x, .int .i64 b.y], .agg #[.int .i64 c.x, .int .i64 c.y], .agg #[.int .i64 d.x, .int .i64 d.y]] w fun e w' => e = .returned (.int .i64 0) ∧ Below w.heap.size w w' := by
 have ca := zA4 a
 rw [ha] at ca
 clear ha
 have cb := zA4 b
 rw [hb] at cb
 clear hb
 have cc := zA4 c
 rw [hc] at cc
 clear hc
 have cd := zA4 d
 rw [hd] at cd
 clear hd
 have o1 := zA7 a b c
 have o2 := zA7 a b d
 rw [z1] at o1
 generalize ori a b d = D at *
 have t1 : (D == 0) = false := by simpa using z2
 clear z1 z2
 go_enter Tryz.func77, Tryz.ntmps77
 go_wp2_with fail
 refine zA1 fun W1 hW => ?_
 have Ba : Box W1 (w.heap.size) [.int .i64 a.x, .int .i64 a.y] 30 := by rw [hW]; exact (((Box.new rfl).old _).old _).old _
 have Bb : Box W1 (w.heap.size + 1) [.int .i64 b.x, .int .i64 b.y] 30 := by rw [hW]; exact ((Box.new (by simp)).old _).old _
 have Bc : Box W1 (w.heap.size + 1 + 1) [.int .i64 c.x, .int .i64 c.y] 30 := by rw [hW]; exact (Box.new (by simp)).old _
 have Bd : Box W1 (w.heap.size + 1 + 1 + 1) [.int .i64 d.x, .int .i64 d.y] 30 := by rw [hW]; exact Box.new (by simp)
 have hw : Below w.heap.size w W1 := by rw [hW]; go_grown
 clear hW
 refine (ca _).mono ?_
 rintro e w2 ⟨rfl, hb⟩
 replace Ba := Ba.ee hb
 replace Bb := Bb.ee hb
 replace Bc := Bc.ee hb
 replace Bd := Bd.ee hb
 replace hw := upB hw hb
 clear hb
 have Fa := Ba.facts
 have Fb := Bb.facts
 have Fc := Bc.facts
 have Fd := Bd.facts
 go_wp2_with fail
 refine (cb _).mono ?_
 rintro e w3 ⟨rfl, hb⟩
 clear Fa Fb Fc Fd
 replace Ba := Ba.ee hb
 replace Bb := Bb.ee hb
 replace Bc := Bc.ee hb
 replace Bd := Bd.ee hb
 replace hw := upB hw hb
 clear hb
 have Fa := Ba.facts
 have Fb := Bb.facts
 have Fc := Bc.facts
 have Fd := Bd.facts
 go_wp2_with fail
 refine (cc _).mono ?_
 rintro e w4 ⟨rfl, hb⟩
 clear Fa Fb Fc Fd
 replace Ba := Ba.ee hb
 replace Bb := Bb.ee hb
 replace Bc := Bc.ee hb
 replace Bd := Bd.ee hb
 replace hw := upB hw hb
 clear hb
 have Fa := Ba.facts
 have Fb := Bb.facts
 have Fc := Bc.facts
 have Fd := Bd.facts
 go_wp2_with fail
 refine (cd _).mono ?_
 rintro e w5 ⟨rfl, hb⟩
 clear Fa Fb Fc Fd
 replace Ba := Ba.ee hb
 replace Bb := Bb.ee hb
 replace Bc := Bc.ee hb
 replace Bd := Bd.ee hb
 replace hw := upB hw hb
 clear hb
 have Fa := Ba.facts
 have Fb := Bb.facts
 have Fc := Bc.facts
 have Fd := Bd.facts
 go_wp2
 refine zA2 fun W6 hW => ?_
 replace hw : Below w.heap.size w W6 := by rw [hW]; exact hw
 replace Ba : Box W6 (w.heap.size) [.int .i64 a.x, .int .i64 a.y] 30 := by rw [hW]; exact Ba
 replace Bb : Box W6 (w.heap.size + 1) [.int .i64 b.x, .int .i64 b.y] 30 := by rw [hW]; exact Bb
 replace Bc : Box W6 (w.heap.size + 1 + 1) [.int .i64 c.x, .int .i64 c.y] 30 := by rw [hW]; exact Bc
 replace Bd : Box W6 (w.heap.size + 1 + 1 + 1) [.int .i64 d.x, .int .i64 d.y] 30 := by rw [hW]; exact Bd
 clear hW
 clear Fa Fb Fc Fd
 have ga := Ba.cells
 have gb := Bb.cells
 have gc := Bc.cells
 have gd := Bd.cells
 refine wp_region_tail 8 (by kernel_rfl) (by kernel_rfl) (C := fun w' => ∃ p : Regrown, w' = grow (redrawn W6 p.d) p.os) rgB ?_
 simp only [tK1, tK0, dP1, dP0]
 repeat (first | (refine zA0 (Eq.refl false) ?_; simp only [Act.put, sT2, sT1, sT0]) | (refine rWalk_step (fun K hK => ?_); go_simp; first | (refine hK _ ?_; clear hK K) | (apply Exists.intro; refine ⟨fun _ => ?_, hK _ ?_⟩; (first | with_reducible exact toExt o1 _ | with_reducible exact toExt o2 _); clear hK K)))
 refine rWalk_nil ?_
 intro w7 hb
 clear ga gb gc gd
 replace Ba := Ba.ee hb
 replace Bb := Bb.ee hb
 replace Bc := Bc.ee hb
 replace Bd := Bd.ee hb
 replace hw := upB hw hb
 have Fa := Ba.facts
 have Fb := Bb.facts
 have Fc := Bc.facts
 have Fd := Bd.facts
 go_wp2
 go_ret
 exact ⟨rfl, hw⟩
theorem meet_z4 (a b c d : Pt) (ha : vld a = true) (hb : vld b = true) (hc : vld c = true) (hd : vld d = true) (e1 : peqI a.x a.y b.x b.y = false) (e2 : peqI c.x c.y d.x d.y = false) (z1 : ori a b c = 0) (z2 : ¬ ori a b d = 0) (q1 : peqI a.x a.y c.x c.y = false) (q2 : peqI a.x a.y d.x d.y = false) (q3 : peqI b.x b.y c.x c.y = false) (q4 : peqI b.x b.y d.x d.y = false) (w : World) :
    Calls Tryz.prog 77 #[.agg #[.int .i64 a.x, .int .i64 a.y], .agg #[.int .i64 b.x, .int .i64 b.y], .agg #[.int .i64 c.x, .int .i64 c.y], .agg #[.int .i64 d.x, .int .i64 d.y]] w fun e w' => e = .returned (.int .i64 (fin (ori c d a) (ori c d b) 0 (ori a b d))) ∧ Below w.heap.size w w' := by
 have ca := zA4 a
 rw [ha] at ca
 clear ha
 have cb := zA4 b
 rw [hb] at cb
 clear hb
 have cc := zA4 c
 rw [hc] at cc
 clear hc
 have cd := zA4 d
 rw [hd] at cd
 clear hd
 have o1 := zA7 a b c
 have o2 := zA7 a b d
 have o3 := zA7 c d a
 have o4 := zA7 c d b
 generalize ori c d a = A at *
 generalize ori c d b = B at *
 rw [z1] at o1
 generalize ori a b d = D at *
 have t1 : (D == 0) = false := by simpa using z2
 clear z1 z2
 go_enter Tryz.func77, Tryz.ntmps77
 go_wp2_with fail
 refine zA1 fun W1 hW => ?_
 have Ba : Box W1 (w.heap.size) [.int .i64 a.x, .int .i64 a.y] 30 := by rw [hW]; exact (((Box.new rfl).old _).old _).old _
 have Bb : Box W1 (w.heap.size + 1) [.int .i64 b.x, .int .i64 b.y] 30 := by rw [hW]; exact ((Box.new (by simp)).old _).old _
 have Bc : Box W1 (w.heap.size + 1 + 1) [.int .i64 c.x, .int .i64 c.y] 30 := by rw [hW]; exact (Box.new (by simp)).old _
 have Bd : Box W1 (w.heap.size + 1 + 1 + 1) [.int .i64 d.x, .int .i64 d.y] 30 := by rw [hW]; exact Box.new (by simp)
 have hw : Below w.heap.size w W1 := by rw [hW]; go_grown
 clear hW
 refine (ca _).mono ?_
 rintro e w2 ⟨rfl, hb⟩
 replace Ba := Ba.ee hb
 replace Bb := Bb.ee hb
 replace Bc := Bc.ee hb
 replace Bd := Bd.ee hb
 replace hw := upB hw hb
 clear hb
 have Fa := Ba.facts
 have Fb := Bb.facts
 have Fc := Bc.facts
 have Fd := Bd.facts
 go_wp2_with fail
 refine (cb _).mono ?_
 rintro e w3 ⟨rfl, hb⟩
 clear Fa Fb Fc Fd
 replace Ba := Ba.ee hb
 replace Bb := Bb.ee hb
 replace Bc := Bc.ee hb
 replace Bd := Bd.ee hb
 replace hw := upB hw hb
 clear hb
 have Fa := Ba.facts
 have Fb := Bb.facts
 have Fc := Bc.facts
 have Fd := Bd.facts
 go_wp2_with fail
 refine (cc _).mono ?_
 rintro e w4 ⟨rfl, hb⟩
 clear Fa Fb Fc Fd
 replace Ba := Ba.ee hb
 replace Bb := Bb.ee hb
 replace Bc := Bc.ee hb
 replace Bd := Bd.ee hb
 replace hw := upB hw hb
 clear hb
 have Fa := Ba.facts
 have Fb := Bb.facts
 have Fc := Bc.facts
 have Fd := Bd.facts
 go_wp2_with fail
 refine (cd _).mono ?_
 rintro e w5 ⟨rfl, hb⟩
 clear Fa Fb Fc Fd
 replace Ba := Ba.ee hb
 replace Bb := Bb.ee hb
 replace Bc := Bc.ee hb
 replace Bd := Bd.ee hb
 replace hw := upB hw hb
 clear hb
 have Fa := Ba.facts
 have Fb := Bb.facts
 have Fc := Bc.facts
 have Fd := Bd.facts
 go_wp2
 refine zA2 fun W6 hW => ?_
 replace hw : Below w.heap.size w W6 := by rw [hW]; exact hw
 replace Ba : Box W6 (w.heap.size) [.int .i64 a.x, .int .i64 a.y] 30 := by rw [hW]; exact Ba
 replace Bb : Box W6 (w.heap.size + 1) [.int .i64 b.x, .int .i64 b.y] 30 := by rw [hW]; exact Bb
 replace Bc : Box W6 (w.heap.size + 1 + 1) [.int .i64 c.x, .int .i64 c.y] 30 := by rw [hW]; exact Bc
 replace Bd : Box W6 (w.heap.size + 1 + 1 + 1) [.int .i64 d.x, .int .i64 d.y] 30 := by rw [hW]; exact Bd
 clear hW
 clear Fa Fb Fc Fd
 have ga := Ba.cells
 have gb := Bb.cells
 have gc := Bc.cells
 have gd := Bd.cells
 refine wp_region_tail 8 (by kernel_rfl) (by kernel_rfl) (C := fun w' => ∃ p : Regrown, w' = grow (redrawn W6 p.d) p.os) rgB ?_
 simp only [tK1, tK0, dP1, dP0]
 repeat (first | (refine zA0 (Eq.refl false) ?_; simp only [Act.put, sT2, sT1, sT0]) | (refine rWalk_step (fun K hK => ?_); go_simp; first | (refine hK _ ?_; clear hK K) | (apply Exists.intro; refine ⟨fun _ => ?_, hK _ ?_⟩; (first | with_reducible exact toExt o1 _ | with_reducible exact toExt o2 _); clear hK K)))
 refine rWalk_nil ?_
 intro w7 hb
 clear ga gb gc gd
 replace Ba := Ba.ee hb
 replace Bb := Bb.ee hb
 replace Bc := Bc.ee hb
 replace Bd := Bd.ee hb
 replace hw := upB hw hb
 have Fa := Ba.facts
 have Fb := Bb.facts
 have Fc := Bc.facts
 have Fd := Bd.facts
 go_wp2
 refine zA2 fun W8 hW => ?_
 replace hw : Below w.heap.size w W8 := by rw [hW]; exact hw
 replace Ba : Box W8 (w.heap.size) [.int .i64 a.x, .int .i64 a.y] 30 := by rw [hW]; exact Ba
 replace Bb : Box W8 (w.heap.size + 1) [.int .i64 b.x, .int .i64 b.y] 30 := by rw [hW]; exact Bb
 replace Bc : Box W8 (w.heap.size + 1 + 1) [.int .i64 c.x, .int .i64 c.y] 30 := by rw [hW]; exact Bc
 replace Bd : Box W8 (w.heap.size + 1 + 1 + 1) [.int .i64 d.x, .int .i64 d.y] 30 := by rw [hW]; exact Bd
 clear hW
 clear Fa Fb Fc Fd
 have ga := Ba.cells
 have gb := Bb.cells
 have gc := Bc.cells
 have gd := Bd.cells
 refine wp_region_tail 8 (by kernel_rfl) (by kernel_rfl) (C := fun w' => ∃ p : Regrown, w' = grow (redrawn W8 p.d) p.os) rgB ?_
 simp only [tK1, tK0, dP1, dP0]
 repeat (first | (refine zA0 (Eq.refl false) ?_; simp only [Act.put, sT2, sT1, sT0]) | (refine rWalk_step (fun K hK => ?_); go_simp; first | (refine hK _ ?_; clear hK K) | (apply Exists.intro; refine ⟨fun _ => ?_, hK _ ?_⟩; (first | with_reducible exact toExt o3 _ | with_reducible exact toExt o4 _); clear hK K)))
 refine rWalk_nil ?_
 intro w9 hb
 clear ga gb gc gd
 replace Ba := Ba.ee hb
 replace Bb := Bb.ee hb
 replace Bc := Bc.ee hb
 replace Bd := Bd.ee hb
 replace hw := upB hw hb
 go_wp2
 all_goals go_ret
 all_goals exact ⟨zAi (by unfold fin; simp_all), hw⟩
end Go.Proofs.YtmobnmjjmafibaaGreat
