/- Put together: ExH, ExI, ExJ. -/
import Derived.Test.YtmobnmjjmafibaaGreatRows
import Derived.Test.YtmobnmjjmafibaaGreatPub0
import Derived.WalkKit
import Derived.WalkSpells
import Derived.WalkLawsBesides
import Derived.Laws.Externs
import Derived.Deep.QuietTactic
import Derived.BigQuiet
import Derived.Lib.Hide
import Derived.Handy
set_option maxRecDepth 100000
set_option maxHeartbeats 8000000
namespace Go.Proofs.YtmobnmjjmafibaaGreat
open Go.RowKit Go.Sort
attribute [local go_sem] rOper rAt rUpon cell_set sg_i64 sg_u64 alloc_cell alloc_frozen
attribute [local go_sem 10000] pt_eql pt_neq
attribute [local irreducible] rWalk
def fin (sA sB sC sD : Int) : Int := if sA = sB then 0 else if sC = sD then 0 else if sA = 0 then 2 else if sB = 0 then 2 else if sC = 0 then 2 else if sD = 0 then 2 else 1
def meetS (a b c d : Pt) : Int :=
 if vld a = false then 0 else if vld b = false then 0 else if vld c = false then 0 else if vld d = false then 0 else if peqI a.x a.y b.x b.y = true then 0 else if peqI c.x c.y d.x d.y = true then 0
 else if ori a b c = 0 ∧ ori a b d = 0 then mil a b c d
 else if peqI a.x a.y c.x c.y = true then 0 else if peqI a.x a.y d.x d.y = true then 0 else if peqI b.x b.y c.x c.y = true then 0 else if peqI b.x b.y d.x d.y = true then 0
 else fin (ori c d a) (ori c d b) (ori a b c) (ori a b d)
theorem meet_v0 (a b c d : Pt) (ha : vld a = false) (w : World) :
    Calls Tryz.prog 77 #[.agg #[.int .i64 a.x, .int .i64 a.y], .agg #[.int .i64 b.x, .int .i64 b.y], .agg #[.int .i64 c.x, .int .i64 c.y], .agg #[.int .i64 d.x, .int .i64 d.y]] w fun e w' => e = .returned (.int .i64 0) ∧ Below w.heap.size w w' := by
 have ca := zA4 a
 rw [ha] at ca
 clear ha
 go_enter Tryz.func77, Tryz.ntmps77
 go_wp2_with fail
 refine zA1 fun W1 hW => ?_
 have Ba : Box W1 (w.heap.size) [.int .i64 a.x, .int .i64 a.y] 30 := by rw [hW]; exact (((Box.new rfl).old _).old _).old _
 have Bb : Box W1 (w.heap.size + 1) [.int .i64 b.x, .int .i64 b.y] 30 := by rw [hW]; exact ((Box.new (by simp)).old _).old _
 have Bc : Box W1 (w.heap.size + 1 + 1) [.int .i64 c.x, .int .i64 c.y] 30 := by rw [hW]; exact (Box.new (by simp)).old _
 have Bd : Box W1 (w.heap.size + 1 + 1 + 1) [.int .i64 d.x, .int .i64 d.y] 30 := by rw [hW]; exact Box.new (by simp)
 have hw : Below w.heap.size w W1 := by rw [hW]; go_grown
 clear hW
 refine (ca _).mono ?_
 rintro e w2 ⟨rfl, hb⟩
 replace Ba := Ba.ee hb
 replace Bb := Bb.ee hb
 replace Bc := Bc.ee hb
 replace Bd := Bd.ee hb
 replace hw := upB hw hb
 clear hb
 have F_abcd := J4 Ba.f Bb.f Bc.f Bd.f
 go_wp2
 go_ret
 exact ⟨rfl, hw⟩
theorem meet_v1 (a b c d : Pt) (ha : vld a = true) (hb : vld b = false) (w : World) :
    Calls Tryz.prog 77 #[.agg #[.int .i64 a.x, .int .i64 a.y], .agg #[.int .i64 b.x, .int .i64 b.y], .agg #[.int .i64 c.x, .int .i64 c.y], .agg #[.int .i64 d.x, .int .i64 d.y]] w fun e w' => e = .returned (.int .i64 0) ∧ Below w.heap.size w w' := by
 have ca := zA4 a
 rw [ha] at ca
 clear ha
 have cb := zA4 b
 rw [hb] at cb
 clear hb
 go_enter Tryz.func77, Tryz.ntmps77
 go_wp2_with fail
 refine zA1 fun W1 hW => ?_
 have Ba : Box W1 (w.heap.size) [.int .i64 a.x, .int .i64 a.y] 30 := by rw [hW]; exact (((Box.new rfl).old _).old _).old _
 have Bb : Box W1 (w.heap.size + 1) [.int .i64 b.x, .int .i64 b.y] 30 := by rw [hW]; exact ((Box.new (by simp)).old _).old _
 have Bc : Box W1 (w.heap.size + 1 + 1) [.int .i64 c.x, .int .i64 c.y] 30 := by rw [hW]; exact (Box.new (by simp)).old _
 have Bd : Box W1 (w.heap.size + 1 + 1 + 1) [.int .i64 d.x, .int .i64 d.y] 30 := by rw [hW]; exact Box.new (by simp)
 have hw : Below w.heap.size w W1 := by rw [hW]; go_grown
 clear hW
 refine (ca _).mono ?_
 rintro e w2 ⟨rfl, hb⟩
 replace Ba := Ba.ee hb
 replace Bb := Bb.ee hb
 replace Bc := Bc.ee hb
 replace Bd := Bd.ee hb
 replace hw := upB hw hb
 clear hb
 have F_abcd := J4 Ba.f Bb.f Bc.f Bd.f
 go_wp2_with fail
 refine (cb _).mono ?_
 rintro e w3 ⟨rfl, hb⟩
 clear F_abcd
 replace Ba := Ba.ee hb
 replace Bb := Bb.ee hb
 replace Bc := Bc.ee hb
 replace Bd := Bd.ee hb
 replace hw := upB hw hb
 clear hb
 have F_abcd := J4 Ba.f Bb.f Bc.f Bd.f
 go_wp2
 go_ret
 exact ⟨rfl, hw⟩
theorem meet_v2 (a b c d : Pt) (ha : vld a = true) (hb : vld b = true) (hc : vld c = false) (w : World) :
    Calls Tryz.prog 77 #[.agg #[.int .i64 a.x, .int .i64 a.y], .agg #[.int .i64 b.x, .int .i64 b.y], .agg #[.int .i64 c.x, .int .i64 c.y], .agg #[.int .i64 d.x, .int .i64 d.y]] w fun e w' => e = .returned (.int .i64 0) ∧ Below w.heap.size w w' := by
 have ca := zA4 a
 rw [ha] at ca
 clear ha
 have cb := zA4 b
 rw [hb] at cb
 clear hb
 have cc := zA4 c
 rw [hc] at cc
 clear hc
 go_enter Tryz.func77, Tryz.ntmps77
 go_wp2_with fail
 refine zA1 fun W1 hW => ?_
 have Ba : Box W1 (w.heap.size) [.int .i64 a.x, .int .i64 a.y] 30 := by rw [hW]; exact (((Box.new rfl).old _).old _).old _
 have Bb : Box W1 (w.heap.size + 1) [.int .i64 b.x, .int .i64 b.y] 30 := by rw [hW]; exact ((Box.new (by simp)).old _).old _
 have Bc : Box W1 (w.heap.size + 1 + 1) [.int .i64 c.x, .int .i64 c.y] 30 := by rw [hW]; exact (Box.new (by simp)).old _
 have Bd : Box W1 (w.heap.size + 1 + 1 + 1) [.int .i64 d.x, .int .i64 d.y] 30 := by rw [hW]; exact Box.new (by simp)
 have hw : Below w.heap.size w W1 := by rw [hW]; go_grown
 clear hW
 refine (ca _).mono ?_
 rintro e w2 ⟨rfl, hb⟩
 replace Ba := Ba.ee hb
 replace Bb := Bb.ee hb
 replace Bc := Bc.ee hb
 replace Bd := Bd.ee hb
 replace hw := upB hw hb
 clear hb
 have F_abcd := J4 Ba.f Bb.f Bc.f Bd.f
 go_wp2_with fail
 refine (cb _).mono ?_
 rintro e w3 ⟨rfl, hb⟩
 clear F_abcd
 replace Ba := Ba.ee hb
 replace Bb := Bb.ee hb
 replace Bc := Bc.ee hb
 replace Bd := Bd.ee hb
 replace hw := upB hw hb
 clear hb
 have F_abcd := J4 Ba.f Bb.f Bc.f Bd.f
 go_wp2_with fail
 refine (cc _).mono ?_
 rintro e w4 ⟨rfl, hb⟩
 clear F_abcd
 replace Ba := Ba.ee hb
 replace Bb := Bb.ee hb
 replace Bc := Bc.ee hb
 replace Bd := Bd.ee hb
 replace hw := upB hw hb
 clear hb
 have F_abcd := J4 Ba.f Bb.f Bc.f Bd.f
 go_wp2
 go_ret
 exact ⟨rfl, hw⟩
theorem meet_v3 (a b c d : Pt) (ha : vld a = true) (hb : vld b = true) (hc : vld c = true) (hd : vld d = false) (w : World) :
    Calls Tryz.prog 77 #[.agg #[.int .i64 a.x, .int .i64 a.y], .agg #[.int .i64 b.x, .int .i64 b.y], .agg #[.int .i64 c.x, .int .i64 c.y], .agg #[.int .i64 d.x, .int .i64 d.y]] w fun e w' => e = .returned (.int .i64 0) ∧ Below w.heap.size w w' := by
 have ca := zA4 a
 rw [ha] at ca
 clear ha
 have cb := zA4 b
 rw [hb] at cb
 clear hb
 have cc := zA4 c
 rw [hc] at cc
 clear hc
 have cd := zA4 d
 rw [hd] at cd
 clear hd
 go_enter Tryz.func77, Tryz.ntmps77
 go_wp2_with fail
 refine zA1 fun W1 hW => ?_
 have Ba : Box W1 (w.heap.size) [.int .i64 a.x, .int .i64 a.y] 30 := by rw [hW]; exact (((Box.new rfl).old _).old _).old _
 have Bb : Box W1 (w.heap.size + 1) [.int .i64 b.x, .int .i64 b.y] 30 := by rw [hW]; exact ((Box.new (by simp)).old _).old _
 have Bc : Box W1 (w.heap.size + 1 + 1) [.int .i64 c.x, .int .i64 c.y] 30 := by rw [hW]; exact (Box.new (by simp)).old _
 have Bd : Box W1 (w.heap.size + 1 + 1 + 1) [.int .i64 d.x, .int .i64 d.y] 30 := by rw [hW]; exact Box.new (by simp)
 have hw : Below w.heap.size w W1 := by rw [hW]; go_grown
 clear hW
 refine (ca _).mono ?_
 rintro e w2 ⟨rfl, hb⟩
 replace Ba := Ba.ee hb
 replace Bb := Bb.ee hb
 replace Bc := Bc.ee hb
 replace Bd := Bd.ee hb
 replace hw := upB hw hb
 clear hb
 have F_abcd := J4 Ba.f Bb.f Bc.f Bd.f
 go_wp2_with fail
 refine (cb _).mono ?_
 rintro e w3 ⟨rfl, hb⟩
 clear F_abcd
 replace Ba := Ba.ee hb
 replace Bb := Bb.ee hb
 replace Bc := Bc.ee hb
 replace Bd := Bd.ee hb
 replace hw := upB hw hb
 clear hb
 have F_abcd := J4 Ba.f Bb.f Bc.f Bd.f
 go_wp2_with fail
 refine (cc _).mono ?_
 rintro e w4 ⟨rfl, hb⟩
 clear F_abcd
 replace Ba := Ba.ee hb
 replace Bb := Bb.ee hb
 replace Bc := Bc.ee hb
 replace Bd := Bd.ee hb
 replace hw := upB hw hb
 clear hb
 have F_abcd := J4 Ba.f Bb.f Bc.f Bd.f
 go_wp2_with fail
 refine (cd _).mono ?_
 rintro e w5 ⟨rfl, hb⟩
 clear F_abcd
 replace Ba := Ba.ee hb
 replace Bb := Bb.ee hb
 replace Bc := Bc.ee hb
 replace Bd := Bd.ee hb
 replace hw := upB hw hb
 clear hb
 have F_abcd := J4 Ba.f Bb.f Bc.f Bd.f
 go_wp2
 go_ret
 exact ⟨rfl, hw⟩
theorem meet_e1 (a b c d : Pt) (ha : vld a = true) (hb : vld b = true) (hc : vld c = true) (hd : vld d = true) (e1 : peqI a.x a.y b.x b.y = true) (w : World) :
    Calls Tryz.prog 77 #[.agg #[.int .i64 a.x, .int .i64 a.y], .agg #[.int .i64 b.x, .int .i64 b.y], .agg #[.int .i64 c.x, .int .i64 c.y], .agg #[.int .i64 d.x, .int .i64 d.y]] w fun e w' => e = .returned (.int .i64 0) ∧ Below w.heap.size w w' := by
 have ca := zA4 a
 rw [ha] at ca
 clear ha
 have cb := zA4 b
 rw [hb] at cb
 clear hb
 have cc := zA4 c
 rw [hc] at cc
 clear hc
 have cd := zA4 d
 rw [hd] at cd
 clear hd
 go_enter Tryz.func77, Tryz.ntmps77
 go_wp2_with fail
 refine zA1 fun W1 hW => ?_
 have Ba : Box W1 (w.heap.size) [.int .i64 a.x, .int .i64 a.y] 30 := by rw [hW]; exact (((Box.new rfl).old _).old _).old _
 have Bb : Box W1 (w.heap.size + 1) [.int .i64 b.x, .int .i64 b.y] 30 := by rw [hW]; exact ((Box.new (by simp)).old _).old _
 have Bc : Box W1 (w.heap.size + 1 + 1) [.int .i64 c.x, .int .i64 c.y] 30 := by rw [hW]; exact (Box.new (by simp)).old _
 have Bd : Box W1 (w.heap.size + 1 + 1 + 1) [.int .i64 d.x, .int .i64 d.y] 30 := by rw [hW]; exact Box.new (by simp)
 have hw : Below w.heap.size w W1 := by rw [hW]; go_grown
 clear hW
 refine (ca _).mono ?_
 rintro e w2 ⟨rfl, hb⟩
 replace Ba := Ba.ee hb
 replace Bb := Bb.ee hb
 replace Bc := Bc.ee hb
 replace Bd := Bd.ee hb
 replace hw := upB hw hb
 clear hb
 have F_abcd := J4 Ba.f Bb.f Bc.f Bd.f
 go_wp2_with fail
 refine (cb _).mono ?_
 rintro e w3 ⟨rfl, hb⟩
 clear F_abcd
 replace Ba := Ba.ee hb
 replace Bb := Bb.ee hb
 replace Bc := Bc.ee hb
 replace Bd := Bd.ee hb
 replace hw := upB hw hb
 clear hb
 have F_abcd := J4 Ba.f Bb.f Bc.f Bd.f
 go_wp2_with fail
 refine (cc _).mono ?_
 rintro e w4 ⟨rfl, hb⟩
 clear F_abcd
 replace Ba := Ba.ee hb
 replace Bb := Bb.ee hb
 replace Bc := Bc.ee hb
 replace Bd := Bd.ee hb
 replace hw := upB hw hb
 clear hb
 have F_abcd := J4 Ba.f Bb.f Bc.f Bd.f
 go_wp2_with fail
 refine (cd _).mono ?_
 rintro e w5 ⟨rfl, hb⟩
 clear F_abcd
 replace Ba := Ba.ee hb
 replace Bb := Bb.ee hb
 replace Bc := Bc.ee hb
 replace Bd := Bd.ee hb
 replace hw := upB hw hb
 clear hb
 have F_abcd := J4 Ba.f Bb.f Bc.f Bd.f
 go_wp2
 go_ret
 exact ⟨rfl, hw⟩
theorem meet_e2 (a b c d : Pt) (ha : vld a = true) (hb : vld b = true) (hc : vld c = true) (hd : vld d = true) (e1 : peqI a.x a.y b.x b.y = false) (e2 : peqI c.x c.y d.x d.y = true) (w : World) :
    Calls Tryz.prog 77 #[.agg #[.int .i64 a.x, .int .i64 a.y], .agg #[.int .i64 b.x, .int .i64 b.y], .agg #[.int .i64 c.x, .int .i64 c.y], .agg #[.int .i64 d.x, .int .i64 d.y]] w fun e w' => e = .returned (.int .i64 0) ∧ Below w.heap.size w w' := by
 have ca := zA4 a
 rw [ha] at ca
 clear ha
 have cb := zA4 b
 rw [hb] at cb
 clear hb
 have cc := zA4 c
 rw [hc] at cc
 clear hc
 have cd := zA4 d
 rw [hd] at cd
 clear hd
 go_enter Tryz.func77, Tryz.ntmps77
 go_wp2_with fail
 refine zA1 fun W1 hW => ?_
 have Ba : Box W1 (w.heap.size) [.int .i64 a.x, .int .i64 a.y] 30 := by rw [hW]; exact (((Box.new rfl).old _).old _).old _
 have Bb : Box W1 (w.heap.size + 1) [.int .i64 b.x, .int .i64 b.y] 30 := by rw [hW]; exact ((Box.new (by simp)).old _).old _
 have Bc : Box W1 (w.heap.size + 1 + 1) [.int .i64 c.x, .int .i64 c.y] 30 := by rw [hW]; exact (Box.new (by simp)).old _
 have Bd : Box W1 (w.heap.size + 1 + 1 + 1) [.int .i64 d.x, .int .i64 d.y] 30 := by rw [hW]; exact Box.new (by simp)
 have hw : Below w.heap.size w W1 := by rw [hW]; go_grown
 clear hW
 refine (ca _).mono ?_
 rintro e w2 ⟨rfl, hb⟩
 replace Ba := Ba.ee hb
 replace Bb := Bb.ee hb
 replace Bc := Bc.ee hb
 replace Bd := Bd.ee hb
 replace hw := upB hw hb
 clear hb
 have F_abcd := J4 Ba.f Bb.f Bc.f Bd.f
 go_wp2_with fail
 refine (cb _).mono ?_
 rintro e w3 ⟨rfl, hb⟩
 clear F_abcd
 replace Ba := Ba.ee hb
 replace Bb := Bb.ee hb
 replace Bc := Bc.ee hb
 replace Bd := Bd.ee hb
 replace hw := upB hw hb
 clear hb
 have F_abcd := J4 Ba.f Bb.f Bc.f Bd.f
 go_wp2_with fail
 refine (cc _).mono ?_
 rintro e w4 ⟨rfl, hb⟩
 clear F_abcd
 replace Ba := Ba.ee hb
 replace Bb := Bb.ee hb
 replace Bc := Bc.ee hb
 replace Bd := Bd.ee hb
 replace hw := upB hw hb
 clear hb
 have F_abcd := J4 Ba.f Bb.f Bc.f Bd.f
 go_wp2_with fail
 refine (cd _).mono ?_
 rintro e w5 ⟨rfl, hb⟩
 clear F_abcd
 replace Ba := Ba.ee hb
 replace Bb := Bb.ee hb
 replace Bc := Bc.ee hb
 replace Bd := Bd.ee hb
 replace hw := upB hw hb
 clear hb
 have F_abcd := J4 Ba.f Bb.f Bc.f Bd.f
 go_wp2
 go_ret
 exact ⟨rfl, hw⟩
theorem meet_l (a b c d : Pt) (ha : vld a = true) (hb : vld b = true) (hc : vld c = true) (hd : vld d = true) (e1 : peqI a.x a.y b.x b.y = false) (e2 : peqI c.x c.y d.x d.y = false) (z1 : ori a b c = 0) (z2 : ori a b d = 0) (w : World) :
    Calls Tryz.prog 77 #[.agg #[.int .i64 a.x, .int .i64 a.y], .agg #[.int .i64 b.x, .int .i64 b.y], .agg #[.int .i64 c.x, .int .i64 c.y], .agg #[.int .i64 d.x, .int .i64 d.y]] w fun e w' => e = .returned (.int .i64 (mil a b c d)) ∧ Below w.heap.size w w' := by
 have ca := zA4 a
 rw [ha] at ca
 clear ha
 have cb := zA4 b
 rw [hb] at cb
 clear hb
 have cc := zA4 c
 rw [hc] at cc
 clear hc
 have cd := zA4 d
 rw [hd] at cd
 clear hd
 have o1 := zA8 a b c
 have o2 := zA8 a b d
 rw [z1] at o1
 rw [z2] at o2
 clear z1 z2
 have cm := mil_any a b c d
 go_enter Tryz.func77, Tryz.ntmps77
 go_wp2_with fail
 refine zA1 fun W1 hW => ?_
 have Ba : Box W1 (w.heap.size) [.int .i64 a.x, .int .i64 a.y] 30 := by rw [hW]; exact (((Box.new rfl).old _).old _).old _
 have Bb : Box W1 (w.heap.size + 1) [.int .i64 b.x, .int .i64 b.y] 30 := by rw [hW]; exact ((Box.new (by simp)).old _).old _
 have Bc : Box W1 (w.heap.size + 1 + 1) [.int .i64 c.x, .int .i64 c.y] 30 := by rw [hW]; exact (Box.new (by simp)).old _
 have Bd : Box W1 (w.heap.size + 1 + 1 + 1) [.int .i64 d.x, .int .i64 d.y] 30 := by rw [hW]; exact Box.new (by simp)
 have hw : Below w.heap.size w W1 := by rw [hW]; go_grown
 clear hW
 refine (ca _).mono ?_
 rintro e w2 ⟨rfl, hb⟩
 replace Ba := Ba.ee hb
 replace Bb := Bb.ee hb
 replace Bc := Bc.ee hb
 replace Bd := Bd.ee hb
 replace hw := upB hw hb
 clear hb
 have F_abcd := J4 Ba.f Bb.f Bc.f Bd.f
 go_wp2_with fail
 refine (cb _).mono ?_
 rintro e w3 ⟨rfl, hb⟩
 clear F_abcd
 replace Ba := Ba.ee hb
 replace Bb := Bb.ee hb
 replace Bc := Bc.ee hb
 replace Bd := Bd.ee hb
 replace hw := upB hw hb
 clear hb
 have F_abcd := J4 Ba.f Bb.f Bc.f Bd.f
 go_wp2_with fail
 refine (cc _).mono ?_
 rintro e w4 ⟨rfl, hb⟩
 clear F_abcd
 replace Ba := Ba.ee hb
 replace Bb := Bb.ee hb
 replace Bc := Bc.ee hb
 replace Bd := Bd.ee hb
 replace hw := upB hw hb
 clear hb
 have F_abcd := J4 Ba.f Bb.f Bc.f Bd.f
 go_wp2_with fail
 refine (cd _).mono ?_
 rintro e w5 ⟨rfl, hb⟩
 clear F_abcd
 replace Ba := Ba.ee hb
 replace Bb := Bb.ee hb
 replace Bc := Bc.ee hb
 replace Bd := Bd.ee hb
 replace hw := upB hw hb
 clear hb
 have F_abcd := J4 Ba.f Bb.f Bc.f Bd.f
 go_wp2
 refine zA2 fun W6 hW => ?_
 replace hw : Below w.heap.size w W6 := by rw [hW]; exact hw
 replace Ba : Box W6 (w.heap.size) [.int .i64 a.x, .int .i64 a.y] 30 := by rw [hW]; exact Ba
 replace Bb : Box W6 (w.heap.size + 1) [.int .i64 b.x, .int .i64 b.y] 30 := by rw [hW]; exact Bb
 replace Bc : Box W6 (w.heap.size + 1 + 1) [.int .i64 c.x, .int .i64 c.y] 30 := by rw [hW]; exact Bc
 replace Bd : Box W6 (w.heap.size + 1 + 1 + 1) [.int .i64 d.x, .int .i64 d.y] 30 := by rw [hW]; exact Bd
 clear hW
 clear F_abcd
 have ga := Ba.cells
 have gb := Bb.cells
 have gc := Bc.cells
 have gd := Bd.cells
 refine wp_region_tail 8 (by kernel_rfl) (by kernel_rfl) (C := fun w' => ∃ p : Regrown, w' = grow (redrawn W6 p.d) p.os) rgB ?_
 simp only [tK1, tK0, dP1, dP0]
 repeat (first | (refine zA0 (Eq.refl false) ?_; simp only [Act.put, sT2, sT1, sT0]) | (refine rWalk_step (fun K hK => ?_); go_simp; first | (refine hK _ ?_; clear hK K) | (apply Exists.intro; refine ⟨fun _ => ?_, hK _ ?_⟩; (first | with_reducible exact toExt o1 _ | with_reducible exact toExt o2 _); clear hK K)))
 refine rWalk_nil ?_
 intro w7 hb
 clear ga gb gc gd
 replace Ba := Ba.ee hb
 replace Bb := Bb.ee hb
 replace Bc := Bc.ee hb
 replace Bd := Bd.ee hb
 replace hw := upB hw hb
 have F_abcd := J4 Ba.f Bb.f Bc.f Bd.f
 go_wp2_with fail
 refine (cm _).mono ?_
 rintro e w8 ⟨rfl, hb⟩
 clear F_abcd
 replace Ba := Ba.ee hb
 replace Bb := Bb.ee hb
 replace Bc := Bc.ee hb
 replace Bd := Bd.ee hb
 replace hw := upB hw hb
 clear hb
 go_wp2
 go_ret
 exact ⟨rfl, hw⟩
theorem meet_n0 (a b c d : Pt) (ha : vld a = true) (hb : vld b = true) (hc : vld c = true) (hd : vld d = true) (e1 : peqI a.x a.y b.x b.y = false) (e2 : peqI c.x c.y d.x d.y = false) (z1 : ¬ ori a b c = 0) (q1 : peqI a.x a.y c.x c.y = true) (w : World) :
    Calls Tryz.prog 77 #[.agg #[.int .i64 a.x, .int .i64 a.y], .agg #[.int .i64 b.x, .int .i64 b.y], .agg #[.int .i64 c.x, .int .i64 c.y], .agg #[.int .i64 d.x, .int .i64 d.y]] w fun e w' => e = .returned (.int .i64 0) ∧ Below w.heap.size w w' := by
 have ca := zA4 a
 rw [ha] at ca
 clear ha
 have cb := zA4 b
 rw [hb] at cb
 clear hb
 have cc := zA4 c
 rw [hc] at cc
 clear hc
 have cd := zA4 d
 rw [hd] at cd
 clear hd
 have o1 := zA8 a b c
 have o2 := zA8 a b d
 have sC := zBz a b c
 generalize ori a b c = C at *
 generalize ori a b d = D at *
 have t1 : (C == 0) = false := by simpa using z1
 clear z1
 go_enter Tryz.func77, Tryz.ntmps77
 go_wp2_with fail
 refine zA1 fun W1 hW => ?_
 have Ba : Box W1 (w.heap.size) [.int .i64 a.x, .int .i64 a.y] 30 := by rw [hW]; exact (((Box.new rfl).old _).old _).old _
 have Bb : Box W1 (w.heap.size + 1) [.int .i64 b.x, .int .i64 b.y] 30 := by rw [hW]; exact ((Box.new (by simp)).old _).old _
 have Bc : Box W1 (w.heap.size + 1 + 1) [.int .i64 c.x, .int .i64 c.y] 30 := by rw [hW]; exact (Box.new (by simp)).old _
 have Bd : Box W1 (w.heap.size + 1 + 1 + 1) [.int .i64 d.x, .int .i64 d.y] 30 := by rw [hW]; exact Box.new (by simp)
 have hw : Below w.heap.size w W1 := by rw [hW]; go_grown
 clear hW
 refine (ca _).mono ?_
 rintro e w2 ⟨rfl, hb⟩
 replace Ba := Ba.ee hb
 replace Bb := Bb.ee hb
 replace Bc := Bc.ee hb
 replace Bd := Bd.ee hb
 replace hw := upB hw hb
 clear hb
 have F_abcd := J4 Ba.f Bb.f Bc.f Bd.f
 go_wp2_with fail
 refine (cb _).mono ?_
 rintro e w3 ⟨rfl, hb⟩
 clear F_abcd
 replace Ba := Ba.ee hb
 replace Bb := Bb.ee hb
 replace Bc := Bc.ee hb
 replace Bd := Bd.ee hb
 replace hw := upB hw hb
 clear hb
 have F_abcd := J4 Ba.f Bb.f Bc.f Bd.f
 go_wp2_with fail
 refine (cc _).mono ?_
 rintro e w4 ⟨rfl, hb⟩
 clear F_abcd
 replace Ba := Ba.ee hb
 replace Bb := Bb.ee hb
 replace Bc := Bc.ee hb
 replace Bd := Bd.ee hb
 replace hw := upB hw hb
 clear hb
 have F_abcd := J4 Ba.f Bb.f Bc.f Bd.f
 go_wp2_with fail
 refine (cd _).mono ?_
 rintro e w5 ⟨rfl, hb⟩
 clear F_abcd
 replace Ba := Ba.ee hb
 replace Bb := Bb.ee hb
 replace Bc := Bc.ee hb
 replace Bd := Bd.ee hb
 replace hw := upB hw hb
 clear hb
 have F_abcd := J4 Ba.f Bb.f Bc.f Bd.f
 go_wp2
 refine zA2 fun W6 hW => ?_
 replace hw : Below w.heap.size w W6 := by rw [hW]; exact hw
 replace Ba : Box W6 (w.heap.size) [.int .i64 a.x, .int .i64 a.y] 30 := by rw [hW]; exact Ba
 replace Bb : Box W6 (w.heap.size + 1) [.int .i64 b.x, .int .i64 b.y] 30 := by rw [hW]; exact Bb
 replace Bc : Box W6 (w.heap.size + 1 + 1) [.int .i64 c.x, .int .i64 c.y] 30 := by rw [hW]; exact Bc
 replace Bd : Box W6 (w.heap.size + 1 + 1 + 1) [.int .i64 d.x, .int .i64 d.y] 30 := by rw [hW]; exact Bd
 clear hW
 clear F_abcd
 have ga := Ba.cells
 have gb := Bb.cells
 have gc := Bc.cells
 have gd := Bd.cells
 refine wp_region_tail 8 (by kernel_rfl) (by kernel_rfl) (C := fun w' => ∃ p : Regrown, w' = grow (redrawn W6 p.d) p.os) rgB ?_
 simp only [tK1, tK0, dP1, dP0]
 repeat (first | (refine zA0 (Eq.refl false) ?_; simp only [Act.put, sT2, sT1, sT0]) | (refine rWalk_step (fun K hK => ?_); go_simp; first | (refine hK _ ?_; clear hK K) | (apply Exists.intro; refine ⟨fun _ => ?_, hK _ ?_⟩; (first | with_reducible exact toExt o1 _ | with_reducible exact toExt o2 _); clear hK K)))
 refine rWalk_nil ?_
 intro w7 hb
 clear ga gb gc gd
 replace Ba := Ba.ee hb
 replace Bb := Bb.ee hb
 replace Bc := Bc.ee hb
 replace Bd := Bd.ee hb
 replace hw := upB hw hb
 have F_abcd := J4 Ba.f Bb.f Bc.f Bd.f
 go_wp2
 go_ret
 exact ⟨rfl, hw⟩
theorem meet_n1 (a b c d : Pt) (ha : vld a = true) (hb : vld b = true) (hc : vld c = true) (hd : vld d = true) (e1 : peqI a.x a.y b.x b.y = false) (e2 : peqI c.x c.y d.x d.y = false) (z1 : ¬ ori a b c = 0) (q1 : peqI a.x a.y c.x c.y = false) (q2 : peqI a.x a.y d.x d.y = true) (w : World) :
    Calls Tryz.prog 77 #[.agg #[.int .i64 a.x, .int .i64 a.y], .agg #[.int .i64 b.x, .int .i64 b.y], .agg #[.int .i64 c.x, .int .i64 c.y], .agg #[.int .i64 d.x, .int .i64 d.y]] w fun e w' => e = .returned (.int .i64 0) ∧ Below w.heap.size w w' := by
 have ca := zA4 a
 rw [ha] at ca
 clear ha
 have cb := zA4 b
 rw [hb] at cb
 clear hb
 have cc := zA4 c
 rw [hc] at cc
 clear hc
 have cd := zA4 d
 rw [hd] at cd
 clear hd
 have o1 := zA8 a b c
 have o2 := zA8 a b d
 have sC := zBz a b c
 generalize ori a b c = C at *
 generalize ori a b d = D at *
 have t1 : (C == 0) = false := by simpa using z1
 clear z1
 go_enter Tryz.func77, Tryz.ntmps77
 go_wp2_with fail
 refine zA1 fun W1 hW => ?_
 have Ba : Box W1 (w.heap.size) [.int .i64 a.x, .int .i64 a.y] 30 := by rw [hW]; exact (((Box.new rfl).old _).old _).old _
 have Bb : Box W1 (w.heap.size + 1) [.int .i64 b.x, .int .i64 b.y] 30 := by rw [hW]; exact ((Box.new (by simp)).old _).old _
 have Bc : Box W1 (w.heap.size + 1 + 1) [.int .i64 c.x, .int .i64 c.y] 30 := by rw [hW]; exact (Box.new (by simp)).old _
 have Bd : Box W1 (w.heap.size + 1 + 1 + 1) [.int .i64 d.x, .int .i64 d.y] 30 := by rw [hW]; exact Box.new (by simp)
 have hw : Below w.heap.size w W1 := by rw [hW]; go_grown
 clear hW
 refine (ca _).mono ?_
 rintro e w2 ⟨rfl, hb⟩
 replace Ba := Ba.ee hb
 replace Bb := Bb.ee hb
 replace Bc := Bc.ee hb
 replace Bd := Bd.ee hb
 replace hw := upB hw hb
 clear hb
 have F_abcd := J4 Ba.f Bb.f Bc.f Bd.f
 go_wp2_with fail
 refine (cb _).mono ?_
 rintro e w3 ⟨rfl, hb⟩
 clear F_abcd
 replace Ba := Ba.ee hb
 replace Bb := Bb.ee hb
 replace Bc := Bc.ee hb
 replace Bd := Bd.ee hb
 replace hw := upB hw hb
 clear hb
 have F_abcd := J4 Ba.f Bb.f Bc.f Bd.f
 go_wp2_with fail
 refine (cc _).mono ?_
 rintro e w4 ⟨rfl, hb⟩
 clear F_abcd
 replace Ba := Ba.ee hb
 replace Bb := Bb.ee hb
 replace Bc := Bc.ee hb
 replace Bd := Bd.ee hb
 replace hw := upB hw hb
 clear hb
 have F_abcd := J4 Ba.f Bb.f Bc.f Bd.f
 go_wp2_with fail
 refine (cd _).mono ?_
 rintro e w5 ⟨rfl, hb⟩
 clear F_abcd
 replace Ba := Ba.ee hb
 replace Bb := Bb.ee hb
 replace Bc := Bc.ee hb
 replace Bd := Bd.ee hb
 replace hw := upB hw hb
 clear hb
 have F_abcd := J4 Ba.f Bb.f Bc.f Bd.f
 go_wp2
 refine zA2 fun W6 hW => ?_
 replace hw : Below w.heap.size w W6 := by rw [hW]; exact hw
 replace Ba : Box W6 (w.heap.size) [.int .i64 a.x, .int .i64 a.y] 30 := by rw [hW]; exact Ba
 replace Bb : Box W6 (w.heap.size + 1) [.int .i64 b.x, .int .i64 b.y] 30 := by rw [hW]; exact Bb
 replace Bc : Box W6 (w.heap.size + 1 + 1) [.int .i64 c.x, .int .i64 c.y] 30 := by rw [hW]; exact Bc
 replace Bd : Box W6 (w.heap.size + 1 + 1 + 1) [.int .i64 d.x, .int .i64 d.y] 30 := by rw [hW]; exact Bd
 clear hW
 clear F_abcd
 have ga := Ba.cells
 have gb := Bb.cells
 have gc := Bc.cells
 have gd := Bd.cells
 refine wp_region_tail 8 (by kernel_rfl) (by kernel_rfl) (C := fun w' => ∃ p : Regrown, w' = grow (redrawn W6 p.d) p.os) rgB ?_
 simp only [tK1, tK0, dP1, dP0]
 repeat (first | (refine zA0 (Eq.refl false) ?_; simp only [Act.put, sT2, sT1, sT0]) | (refine rWalk_step (fun K hK => ?_); go_simp; first | (refine hK _ ?_; clear hK K) | (apply Exists.intro; refine ⟨fun _ => ?_, hK _ ?_⟩; (first | with_reducible exact toExt o1 _ | with_reducible exact toExt o2 _); clear hK K)))
 refine rWalk_nil ?_
 intro w7 hb
 clear ga gb gc gd
 replace Ba := Ba.ee hb
 replace Bb := Bb.ee hb
 replace Bc := Bc.ee hb
 replace Bd := Bd.ee hb
 replace hw := upB hw hb
 have F_abcd := J4 Ba.f Bb.f Bc.f Bd.f
 go_wp2
 go_ret
 exact ⟨rfl, hw⟩
theorem meet_n2 (a b c d : Pt) (ha : vld a = true) (hb : vld b = true) (hc : vld c = true) (hd : vld d = true) (e1 : peqI a.x a.y b.x b.y = false) (e2 : peqI c.x c.y d.x d.y = false) (z1 : ¬ ori a b c = 0) (q1 : peqI a.x a.y c.x c.y = false) (q2 : peqI a.x a.y d.x d.y = false) (q3 : peqI b.x b.y c.x c.y = true) (w : World) :
    Calls Tryz.prog 77 #[.agg #[.int .i64 a.x, .int .i64 a.y], .agg #[.int .i64 b.x, .int .i64 b.y], .agg #[.int .i64 c.x, .int .i64 c.y], .agg #[.int .i64 d.x, .int .i64 d.y]] w fun e w' => e = .returned (.int .i64 0) ∧ Below w.heap.size w w' := by
 have ca := zA4 a
 rw [ha] at ca
 clear ha
 have cb := zA4 b
 rw [hb] at cb
 clear hb
 have cc := zA4 c
 rw [hc] at cc
 clear hc
 have cd := zA4 d
 rw [hd] at cd
 clear hd
 have o1 := zA8 a b c
 have o2 := zA8 a b d
 have sC := zBz a b c
 generalize ori a b c = C at *
 generalize ori a b d = D at *
 have t1 : (C == 0) = false := by simpa using z1
 clear z1
 go_enter Tryz.func77, Tryz.ntmps77
 go_wp2_with fail
 refine zA1 fun W1 hW => ?_
 have Ba : Box W1 (w.heap.size) [.int .i64 a.x, .int .i64 a.y] 30 := by rw [hW]; exact (((Box.new rfl).old _).old _).old _
 have Bb : Box W1 (w.heap.size + 1) [.int .i64 b.x, .int .i64 b.y] 30 := by rw [hW]; exact ((Box.new (by simp)).old _).old _
 have Bc : Box W1 (w.heap.size + 1 + 1) [.int .i64 c.x, .int .i64 c.y] 30 := by rw [hW]; exact (Box.new (by simp)).old _
 have Bd : Box W1 (w.heap.size + 1 + 1 + 1) [.int .i64 d.x, .int .i64 d.y] 30 := by rw [hW]; exact Box.new (by simp)
 have hw : Below w.heap.size w W1 := by rw [hW]; go_grown
 clear hW
 refine (ca _).mono ?_
 rintro e w2 ⟨rfl, hb⟩
 replace Ba := Ba.ee hb
 replace Bb := Bb.ee hb
 replace Bc := Bc.ee hb
 replace Bd := Bd.ee hb
 replace hw := upB hw hb
 clear hb
 have F_abcd := J4 Ba.f Bb.f Bc.f Bd.f
 go_wp2_with fail
 refine (cb _).mono ?_
 rintro e w3 ⟨rfl, hb⟩
 clear F_abcd
 replace Ba := Ba.ee hb
 replace Bb := Bb.ee hb
 replace Bc := Bc.ee hb
 replace Bd := Bd.ee hb
 replace hw := upB hw hb
 clear hb
 have F_abcd := J4 Ba.f Bb.f Bc.f Bd.f
 go_wp2_with fail
 refine (cc _).mono ?_
 rintro e w4 ⟨rfl, hb⟩
 clear F_abcd
 replace Ba := Ba.ee hb
 replace Bb := Bb.ee hb
 replace Bc := Bc.ee hb
 replace Bd := Bd.ee hb
 replace hw := upB hw hb
 clear hb
 have F_abcd := J4 Ba.f Bb.f Bc.f Bd.f
 go_wp2_with fail
 refine (cd _).mono ?_
 rintro e w5 ⟨rfl, hb⟩
 clear F_abcd
 replace Ba := Ba.ee hb
 replace Bb := Bb.ee hb
 replace Bc := Bc.ee hb
 replace Bd := Bd.ee hb
 replace hw := upB hw hb
 clear hb
 have F_abcd := J4 Ba.f Bb.f Bc.f Bd.f
 go_wp2
 refine zA2 fun W6 hW => ?_
 replace hw : Below w.heap.size w W6 := by rw [hW]; exact hw
 replace Ba : Box W6 (w.heap.size) [.int .i64 a.x, .int .i64 a.y] 30 := by rw [hW]; exact Ba
 replace Bb : Box W6 (w.heap.size + 1) [.int .i64 b.x, .int .i64 b.y] 30 := by rw [hW]; exact Bb
 replace Bc : Box W6 (w.heap.size + 1 + 1) [.int .i64 c.x, .int .i64 c.y] 30 := by rw [hW]; exact Bc
 replace Bd : Box W6 (w.heap.size + 1 + 1 + 1) [.int .i64 d.x, .int .i64 d.y] 30 := by rw [hW]; exact Bd
 clear hW
 clear F_abcd
 have ga := Ba.cells
 have gb := Bb.cells
 have gc := Bc.cells
 have gd := Bd.cells
 refine wp_region_tail 8 (by kernel_rfl) (by kernel_rfl) (C := fun w' => ∃ p : Regrown, w' = grow (redrawn W6 p.d) p.os) rgB ?_
 simp only [tK1, tK0, dP1, dP0]
 repeat (first | (refine zA0 (Eq.refl false) ?_; simp only [Act.put, sT2, sT1, sT0]) | (refine rWalk_step (fun K hK => ?_); go_simp; first | (refine hK _ ?_; clear hK K) | (apply Exists.intro; refine ⟨fun _ => ?_, hK _ ?_⟩; (first | with_reducible exact toExt o1 _ | with_reducible exact toExt o2 _); clear hK K)))
 refine rWalk_nil ?_
 intro w7 hb
 clear ga gb gc gd
 replace Ba := Ba.ee hb
 replace Bb := Bb.ee hb
 replace Bc := Bc.ee hb
 replace Bd := Bd.ee hb
 replace hw := upB hw hb
 have F_abcd := J4 Ba.f Bb.f Bc.f Bd.f
 go_wp2
 go_ret
 exact ⟨rfl, hw⟩
theorem meet_n3 (a b c d : Pt) (ha : vld a = true) (hb : vld b = true) (hc : vld c = true) (hd : vld d = true) (e1 : peqI a.x a.y b.x b.y = false) (e2 : peqI c.x c.y d.x d.y = false) (z1 : ¬ ori a b c = 0) (q1 : peqI a.x a.y c.x c.y = false) (q2 : peqI a.x a.y d.x d.y = false) (q3 : peqI b.x b.y c.x c.y = false) (q4 : peqI b.x b.y d.x d.y = true) (w : World) :
    Calls Tryz.prog 77 #[.agg #[.int .i64 a.x, .int .i64 a.y], .agg #[.int .i64 b.x, .int .i64 b.y], .agg #[.int .i64 c.x, .int .i64 c.y], .agg #[.int .i64 d.x, .int .i64 d.y]] w fun e w' => e = .returned (.int .i64 0) ∧ Below w.heap.size w w' := by
 have ca := zA4 a
 rw [ha] at ca
 clear ha
 have cb := zA4 b
 rw [hb] at cb
 clear hb
 have cc := zA4 c
 rw [hc] at cc
 clear hc
 have cd := zA4 d
 rw [hd] at cd
 clear hd
 have o1 := zA8 a b c
 have o2 := zA8 a b d
 have sC := zBz a b c
 generalize ori a b c = C at *
 generalize ori a b d = D at *
 have t1 : (C == 0) = false := by simpa using z1
 clear z1
 go_enter Tryz.func77, Tryz.ntmps77
 go_wp2_with fail
 refine zA1 fun W1 hW => ?_
 have Ba : Box W1 (w.heap.size) [.int .i64 a.x, .int .i64 a.y] 30 := by rw [hW]; exact (((Box.new rfl).old _).old _).old _
 have Bb : Box W1 (w.heap.size + 1) [.int .i64 b.x, .int .i64 b.y] 30 := by rw [hW]; exact ((Box.new (by simp)).old _).old _
 have Bc : Box W1 (w.heap.size + 1 + 1) [.int .i64 c.x, .int .i64 c.y] 30 := by rw [hW]; exact (Box.new (by simp)).old _
 have Bd : Box W1 (w.heap.size + 1 + 1 + 1) [.int .i64 d.x, .int .i64 d.y] 30 := by rw [hW]; exact Box.new (by simp)
 have hw : Below w.heap.size w W1 := by rw [hW]; go_grown
 clear hW
 refine (ca _).mono ?_
 rintro e w2 ⟨rfl, hb⟩
 replace Ba := Ba.ee hb
 replace Bb := Bb.ee hb
 replace Bc := Bc.ee hb
 replace Bd := Bd.ee hb
 replace hw := upB hw hb
 clear hb
 have F_abcd := J4 Ba.f Bb.f Bc.f Bd.f
 go_wp2_with fail
 refine (cb _).mono ?_
 rintro e w3 ⟨rfl, hb⟩
 clear F_abcd
 replace Ba := Ba.ee hb
 replace Bb := Bb.ee hb
 replace Bc := Bc.ee hb
 replace Bd := Bd.ee hb
 replace hw := upB hw hb
 clear hb
 have F_abcd := J4 Ba.f Bb.f Bc.f Bd.f
 go_wp2_with fail
 refine (cc _).mono ?_
 rintro e w4 ⟨rfl, hb⟩
 clear F_abcd
 replace Ba := Ba.ee hb
 replace Bb := Bb.ee hb
 replace Bc := Bc.ee hb
 replace Bd := Bd.ee hb
 replace hw := upB hw hb
 clear hb
 have F_abcd := J4 Ba.f Bb.f Bc.f Bd.f
 go_wp2_with fail
 refine (cd _).mono ?_
 rintro e w5 ⟨rfl, hb⟩
 clear F_abcd
 replace Ba := Ba.ee hb
 replace Bb := Bb.ee hb
 replace Bc := Bc.ee hb
 replace Bd := Bd.ee hb
 replace hw := upB hw hb
 clear hb
 have F_abcd := J4 Ba.f Bb.f Bc.f Bd.f
 go_wp2
 refine zA2 fun W6 hW => ?_
 replace hw : Below w.heap.size w W6 := by rw [hW]; exact hw
 replace Ba : Box W6 (w.heap.size) [.int .i64 a.x, .int .i64 a.y] 30 := by rw [hW]; exact Ba
 replace Bb : Box W6 (w.heap.size + 1) [.int .i64 b.x, .int .i64 b.y] 30 := by rw [hW]; exact Bb
 replace Bc : Box W6 (w.heap.size + 1 + 1) [.int .i64 c.x, .int .i64 c.y] 30 := by rw [hW]; exact Bc
 replace Bd : Box W6 (w.heap.size + 1 + 1 + 1) [.int .i64 d.x, .int .i64 d.y] 30 := by rw [hW]; exact Bd
 clear hW
 clear F_abcd
 have ga := Ba.cells
 have gb := Bb.cells
 have gc := Bc.cells
 have gd := Bd.cells
 refine wp_region_tail 8 (by kernel_rfl) (by kernel_rfl) (C := fun w' => ∃ p : Regrown, w' = grow (redrawn W6 p.d) p.os) rgB ?_
 simp only [tK1, tK0, dP1, dP0]
 repeat (first | (refine zA0 (Eq.refl false) ?_; simp only [Act.put, sT2, sT1, sT0]) | (refine rWalk_step (fun K hK => ?_); go_simp; first | (refine hK _ ?_; clear hK K) | (apply Exists.intro; refine ⟨fun _ => ?_, hK _ ?_⟩; (first | with_reducible exact toExt o1 _ | with_reducible exact toExt o2 _); clear hK K)))
 refine rWalk_nil ?_
 intro w7 hb
 clear ga gb gc gd
 replace Ba := Ba.ee hb
 replace Bb := Bb.ee hb
 replace Bc := Bc.ee hb
 replace Bd := Bd.ee hb
 replace hw := upB hw hb
 have F_abcd := J4 Ba.f Bb.f Bc.f Bd.f
 go_wp2
 go_ret
 exact ⟨rfl, hw⟩
theorem meet_n4 (a b c d : Pt) (ha : vld a = true) (hb : vld b = true) (hc : vld c = true) (hd : vld d = true) (e1 : peqI a.x a.y b.x b.y = false) (e2 : peqI c.x c.y d.x d.y = false) (z1 : ¬ ori a b c = 0) (q1 : peqI a.x a.y c.x c.y = false) (q2 : peqI a.x a.y d.x d.y = false) (q3 : peqI b.x b.y c.x c.y = false) (q4 : peqI b.x b.y d.x d.y = false) (w : World) :
    Calls Tryz.prog 77 #[.agg #[.int .i64 a.x, .int .i64 a.y], .agg #[.int .i64 b.x, .int .i64 b.y], .agg #[.int .i64 c.x, .int .i64 c.y], .agg #[.int .i64 d.x, .int .i64 d.y]] w fun e w' => e = .returned (.int .i64 (fin (ori c d a) (ori c d b) (ori a b c) (ori a b d))) ∧ Below w.heap.size w w' := by
 have ca := zA4 a
 rw [ha] at ca
 clear ha
 have cb := zA4 b
 rw [hb] at cb
 clear hb
 have cc := zA4 c
 rw [hc] at cc
 clear hc
 have cd := zA4 d
 rw [hd] at cd
 clear hd
 have o1 := zA8 a b c
 have o2 := zA8 a b d
 have o3 := zA8 c d a
 have o4 := zA8 c d b
 generalize ori c d a = A at *
 generalize ori c d b = B at *
 have sC := zBz a b c
 generalize ori a b c = C at *
 generalize ori a b d = D at *
 have t1 : (C == 0) = false := by simpa using z1
 clear z1
 go_enter Tryz.func77, Tryz.ntmps77
 go_wp2_with fail
 refine zA1 fun W1 hW => ?_
 have Ba : Box W1 (w.heap.size) [.int .i64 a.x, .int .i64 a.y] 30 := by rw [hW]; exact (((Box.new rfl).old _).old _).old _
 have Bb : Box W1 (w.heap.size + 1) [.int .i64 b.x, .int .i64 b.y] 30 := by rw [hW]; exact ((Box.new (by simp)).old _).old _
 have Bc : Box W1 (w.heap.size + 1 + 1) [.int .i64 c.x, .int .i64 c.y] 30 := by rw [hW]; exact (Box.new (by simp)).old _
 have Bd : Box W1 (w.heap.size + 1 + 1 + 1) [.int .i64 d.x, .int .i64 d.y] 30 := by rw [hW]; exact Box.new (by simp)
 have hw : Below w.heap.size w W1 := by rw [hW]; go_grown
 clear hW
 refine (ca _).mono ?_
 rintro e w2 ⟨rfl, hb⟩
 replace Ba := Ba.ee hb
 replace Bb := Bb.ee hb
 replace Bc := Bc.ee hb
 replace Bd := Bd.ee hb
 replace hw := upB hw hb
 clear hb
 have F_abcd := J4 Ba.f Bb.f Bc.f Bd.f
 go_wp2_with fail
 refine (cb _).mono ?_
 rintro e w3 ⟨rfl, hb⟩
 clear F_abcd
 replace Ba := Ba.ee hb
 replace Bb := Bb.ee hb
 replace Bc := Bc.ee hb
 replace Bd := Bd.ee hb
 replace hw := upB hw hb
 clear hb
 have F_abcd := J4 Ba.f Bb.f Bc.f Bd.f
 go_wp2_with fail
 refine (cc _).mono ?_
 rintro e w4 ⟨rfl, hb⟩
 clear F_abcd
 replace Ba := Ba.ee hb
 replace Bb := Bb.ee hb
 replace Bc := Bc.ee hb
 replace Bd := Bd.ee hb
 replace hw := upB hw hb
 clear hb
 have F_abcd := J4 Ba.f Bb.f Bc.f Bd.f
 go_wp2_with fail
 refine (cd _).mono ?_
 rintro e w5 ⟨rfl, hb⟩
 clear F_abcd
 replace Ba := Ba.ee hb
 replace Bb := Bb.ee hb
 replace Bc := Bc.ee hb
 replace Bd := Bd.ee hb
 replace hw := upB hw hb
 clear hb
 have F_abcd := J4 Ba.f Bb.f Bc.f Bd.f
 go_wp2
 refine zA2 fun W6 hW => ?_
 replace hw : Below w.heap.size w W6 := by rw [hW]; exact hw
 replace Ba : Box W6 (w.heap.size) [.int .i64 a.x, .int .i64 a.y] 30 := by rw [hW]; exact Ba
 replace Bb : Box W6 (w.heap.size + 1) [.int .i64 b.x, .int .i64 b.y] 30 := by rw [hW]; exact Bb
 replace Bc : Box W6 (w.heap.size + 1 + 1) [.int .i64 c.x, .int .i64 c.y] 30 := by rw [hW]; exact Bc
 replace Bd : Box W6 (w.heap.size + 1 + 1 + 1) [.int .i64 d.x, .int .i64 d.y] 30 := by rw [hW]; exact Bd
 clear hW
 clear F_abcd
 have ga := Ba.cells
 have gb := Bb.cells
 have gc := Bc.cells
 have gd := Bd.cells
 refine wp_region_tail 8 (by kernel_rfl) (by kernel_rfl) (C := fun w' => ∃ p : Regrown, w' = grow (redrawn W6 p.d) p.os) rgB ?_
 simp only [tK1, tK0, dP1, dP0]
 repeat (first | (refine zA0 (Eq.refl false) ?_; simp only [Act.put, sT2, sT1, sT0]) | (refine rWalk_step (fun K hK => ?_); go_simp; first | (refine hK _ ?_; clear hK K) | (apply Exists.intro; refine ⟨fun _ => ?_, hK _ ?_⟩; (first | with_reducible exact toExt o1 _ | with_reducible exact toExt o2 _); clear hK K)))
 refine rWalk_nil ?_
 intro w7 hb
 clear ga gb gc gd
 replace Ba := Ba.ee hb
 replace Bb := Bb.ee hb
 replace Bc := Bc.ee hb
 replace Bd := Bd.ee hb
 replace hw := upB hw hb
 have F_abcd := J4 Ba.f Bb.f Bc.f Bd.f
 go_wp2
 refine zA2 fun W8 hW => ?_
 replace hw : Below w.heap.size w W8 := by rw [hW]; exact hw
 replace Ba : Box W8 (w.heap.size) [.int .i64 a.x, .int .i64 a.y] 30 := by rw [hW]; exact Ba
 replace Bb : Box W8 (w.heap.size + 1) [.int .i64 b.x, .int .i64 b.y] 30 := by rw [hW]; exact Bb
 replace Bc : Box W8 (w.heap.size + 1 + 1) [.int .i64 c.x, .int .i64 c.y] 30 := by rw [hW]; exact Bc
 replace Bd : Box W8 (w.heap.size + 1 + 1 + 1) [.int .i64 d.x, .int .i64 d.y] 30 := by rw [hW]; exact Bd
 clear hW
 clear F_abcd
 have ga := Ba.cells
 have gb := Bb.cells
 have gc := Bc.cells
 have gd := Bd.cells
 refine wp_region_tail 8 (by kernel_rfl) (by kernel_rfl) (C := fun w' => ∃ p : Regrown, w' = grow (redrawn W8 p.d) p.os) rgB ?_
 simp only [tK1, tK0, dP1, dP0]
 repeat (first | (refine zA0 (Eq.refl false) ?_; simp only [Act.put, sT2, sT1, sT0]) | (refine rWalk_step (fun K hK => ?_); go_simp; first | (refine hK _ ?_; clear hK K) | (apply Exists.intro; refine ⟨fun _ => ?_, hK _ ?_⟩; (first | with_reducible exact toExt o3 _ | with_reducible exact toExt o4 _); clear hK K)))
 refine rWalk_nil ?_
 intro w9 hb
 clear ga gb gc gd
 replace Ba := Ba.ee hb
 replace Bb := Bb.ee hb
 replace Bc := Bc.ee hb
 replace Bd := Bd.ee hb
 replace hw := upB hw hb
 go_wp2
 all_goals go_ret
 all_goals exact ⟨zAl (by unfold fin; simp_all), hw⟩
theorem meet_z0 (a b c d : Pt) (ha : vld a = true) (hb : vld b = true) (hc : vld c = true) (hd : vld d = true) (e1 : peqI a.x a.y b.x b.y = false) (e2 : peqI c.x c.y d.x d.y = false) (z1 : ori a b c = 0) (z2 : ¬ ori a b d = 0) (q1 : peqI a.x a.y c.x c.y = true) (w : World) :
    Calls Tryz.prog 77 #[.agg #[.int .i64 a.x, .int .i64 a.y], .agg #[.int .i64 b.x, .int .i64 b.y], .agg #[.int .i64 c.x, .int .i64 c.y], .agg #[.int .i64 d.x, .int .i64 d.y]] w fun e w' => e = .returned (.int .i64 0) ∧ Below w.heap.size w w' := by
 have ca := zA4 a
 rw [ha] at ca
 clear ha
 have cb := zA4 b
 rw [hb] at cb
 clear hb
 have cc := zA4 c
 rw [hc] at cc
 clear hc
 have cd := zA4 d
 rw [hd] at cd
 clear hd
 have o1 := zA8 a b c
 have o2 := zA8 a b d
 rw [z1] at o1
 generalize ori a b d = D at *
 have t1 : (D == 0) = false := by simpa using z2
 clear z1 z2
 go_enter Tryz.func77, Tryz.ntmps77
 go_wp2_with fail
 refine zA1 fun W1 hW => ?_
 have Ba : Box W1 (w.heap.size) [.int .i64 a.x, .int .i64 a.y] 30 := by rw [hW]; exact (((Box.new rfl).old _).old _).old _
 have Bb : Box W1 (w.heap.size + 1) [.int .i64 b.x, .int .i64 b.y] 30 := by rw [hW]; exact ((Box.new (by simp)).old _).old _
 have Bc : Box W1 (w.heap.size + 1 + 1) [.int .i64 c.x, .int .i64 c.y] 30 := by rw [hW]; exact (Box.new (by simp)).old _
 have Bd : Box W1 (w.heap.size + 1 + 1 + 1) [.int .i64 d.x, .int .i64 d.y] 30 := by rw [hW]; exact Box.new (by simp)
 have hw : Below w.heap.size w W1 := by rw [hW]; go_grown
 clear hW
 refine (ca _).mono ?_
 rintro e w2 ⟨rfl, hb⟩
 replace Ba := Ba.ee hb
 replace Bb := Bb.ee hb
 replace Bc := Bc.ee hb
 replace Bd := Bd.ee hb
 replace hw := upB hw hb
 clear hb
 have F_abcd := J4 Ba.f Bb.f Bc.f Bd.f
 go_wp2_with fail
 refine (cb _).mono ?_
 rintro e w3 ⟨rfl, hb⟩
 clear F_abcd
 replace Ba := Ba.ee hb
 replace Bb := Bb.ee hb
 replace Bc := Bc.ee hb
 replace Bd := Bd.ee hb
 replace hw := upB hw hb
 clear hb
 have F_abcd := J4 Ba.f Bb.f Bc.f Bd.f
 go_wp2_with fail
 refine (cc _).mono ?_
 rintro e w4 ⟨rfl, hb⟩
 clear F_abcd
 replace Ba := Ba.ee hb
 replace Bb := Bb.ee hb
 replace Bc := Bc.ee hb
 replace Bd := Bd.ee hb
 replace hw := upB hw hb
 clear hb
 have F_abcd := J4 Ba.f Bb.f Bc.f Bd.f
 go_wp2_with fail
 refine (cd _).mono ?_
 rintro e w5 ⟨rfl, hb⟩
 clear F_abcd
 replace Ba := Ba.ee hb
 replace Bb := Bb.ee hb
 replace Bc := Bc.ee hb
 replace Bd := Bd.ee hb
 replace hw := upB hw hb
 clear hb
 have F_abcd := J4 Ba.f Bb.f Bc.f Bd.f
 go_wp2
 refine zA2 fun W6 hW => ?_
 replace hw : Below w.heap.size w W6 := by rw [hW]; exact hw
 replace Ba : Box W6 (w.heap.size) [.int .i64 a.x, .int .i64 a.y] 30 := by rw [hW]; exact Ba
 replace Bb : Box W6 (w.heap.size + 1) [.int .i64 b.x, .int .i64 b.y] 30 := by rw [hW]; exact Bb
 replace Bc : Box W6 (w.heap.size + 1 + 1) [.int .i64 c.x, .int .i64 c.y] 30 := by rw [hW]; exact Bc
 replace Bd : Box W6 (w.heap.size + 1 + 1 + 1) [.int .i64 d.x, .int .i64 d.y] 30 := by rw [hW]; exact Bd
 clear hW
 clear F_abcd
 have ga := Ba.cells
 have gb := Bb.cells
 have gc := Bc.cells
 have gd := Bd.cells
 refine wp_region_tail 8 (by kernel_rfl) (by kernel_rfl) (C := fun w' => ∃ p : Regrown, w' = grow (redrawn W6 p.d) p.os) rgB ?_
 simp only [tK1, tK0, dP1, dP0]
 repeat (first | (refine zA0 (Eq.refl false) ?_; simp only [Act.put, sT2, sT1, sT0]) | (refine rWalk_step (fun K hK => ?_); go_simp; first | (refine hK _ ?_; clear hK K) | (apply Exists.intro; refine ⟨fun _ => ?_, hK _ ?_⟩; (first | with_reducible exact toExt o1 _ | with_reducible exact toExt o2 _); clear hK K)))
 refine rWalk_nil ?_
 intro w7 hb
 clear ga gb gc gd
 replace Ba := Ba.ee hb
 replace Bb := Bb.ee hb
 replace Bc := Bc.ee hb
 replace Bd := Bd.ee hb
 replace hw := upB hw hb
 have F_abcd := J4 Ba.f Bb.f Bc.f Bd.f
 go_wp2
 go_ret
 exact ⟨rfl, hw⟩
theorem meet_z1 (a b c d : Pt) (ha : vld a = true) (hb : vld b = true) (hc : vld c = true) (hd : vld d = true) (e1 : peqI a.x a.y b.x b.y = false) (e2 : peqI c.x c.y d.x d.y = false) (z1 : ori a b c = 0) (z2 : ¬ ori a b d = 0) (q1 : peqI a.x a.y c.x c.y = false) (q2 : peqI a.x a.y d.x d.y = true) (w : World) :
    Calls Tryz.prog 77 #[.agg #[.int .i64 a.x, .int .i64 a.y], .agg #[.int .i64 b.x, .int .i64 b.y], .agg #[.int .i64 c.x, .int .i64 c.y], .agg #[.int .i64 d.x, .int .i64 d.y]] w fun e w' => e = .returned (.int .i64 0) ∧ Below w.heap.size w w' := by
 have ca := zA4 a
 rw [ha] at ca
 clear ha
 have cb := zA4 b
 rw [hb] at cb
 clear hb
 have cc := zA4 c
 rw [hc] at cc
 clear hc
 have cd := zA4 d
 rw [hd] at cd
 clear hd
 have o1 := zA8 a b c
 have o2 := zA8 a b d
 rw [z1] at o1
 generalize ori a b d = D at *
 have t1 : (D == 0) = false := by simpa using z2
 clear z1 z2
 go_enter Tryz.func77, Tryz.ntmps77
 go_wp2_with fail
 refine zA1 fun W1 hW => ?_
 have Ba : Box W1 (w.heap.size) [.int .i64 a.x, .int .i64 a.y] 30 := by rw [hW]; exact (((Box.new rfl).old _).old _).old _
 have Bb : Box W1 (w.heap.size + 1) [.int .i64 b.x, .int .i64 b.y] 30 := by rw [hW]; exact ((Box.new (by simp)).old _).old _
 have Bc : Box W1 (w.heap.size + 1 + 1) [.int .i64 c.x, .int .i64 c.y] 30 := by rw [hW]; exact (Box.new (by simp)).old _
 have Bd : Box W1 (w.heap.size + 1 + 1 + 1) [.int .i64 d.x, .int .i64 d.y] 30 := by rw [hW]; exact Box.new (by simp)
 have hw : Below w.heap.size w W1 := by rw [hW]; go_grown
 clear hW
 refine (ca _).mono ?_
 rintro e w2 ⟨rfl, hb⟩
 replace Ba := Ba.ee hb
 replace Bb := Bb.ee hb
 replace Bc := Bc.ee hb
 replace Bd := Bd.ee hb
 replace hw := upB hw hb
 clear hb
 have F_abcd := J4 Ba.f Bb.f Bc.f Bd.f
 go_wp2_with fail
 refine (cb _).mono ?_
 rintro e w3 ⟨rfl, hb⟩
 clear F_abcd
 replace Ba := Ba.ee hb
 replace Bb := Bb.ee hb
 replace Bc := Bc.ee hb
 replace Bd := Bd.ee hb
 replace hw := upB hw hb
 clear hb
 have F_abcd := J4 Ba.f Bb.f Bc.f Bd.f
 go_wp2_with fail
 refine (cc _).mono ?_
 rintro e w4 ⟨rfl, hb⟩
 clear F_abcd
 replace Ba := Ba.ee hb
 replace Bb := Bb.ee hb
 replace Bc := Bc.ee hb
 replace Bd := Bd.ee hb
 replace hw := upB hw hb
 clear hb
 have F_abcd := J4 Ba.f Bb.f Bc.f Bd.f
 go_wp2_with fail
 refine (cd _).mono ?_
 rintro e w5 ⟨rfl, hb⟩
 clear F_abcd
 replace Ba := Ba.ee hb
 replace Bb := Bb.ee hb
 replace Bc := Bc.ee hb
 replace Bd := Bd.ee hb
 replace hw := upB hw hb
 clear hb
 have F_abcd := J4 Ba.f Bb.f Bc.f Bd.f
 go_wp2
 refine zA2 fun W6 hW => ?_
 replace hw : Below w.heap.size w W6 := by rw [hW]; exact hw
 replace Ba : Box W6 (w.heap.size) [.int .i64 a.x, .int .i64 a.y] 30 := by rw [hW]; exact Ba
 replace Bb : Box W6 (w.heap.size + 1) [.int .i64 b.x, .int .i64 b.y] 30 := by rw [hW]; exact Bb
 replace Bc : Box W6 (w.heap.size + 1 + 1) [.int .i64 c.x, .int .i64 c.y] 30 := by rw [hW]; exact Bc
 replace Bd : Box W6 (w.heap.size + 1 + 1 + 1) [.int .i64 d.x, .int .i64 d.y] 30 := by rw [hW]; exact Bd
 clear hW
 clear F_abcd
 have ga := Ba.cells
 have gb := Bb.cells
 have gc := Bc.cells
 have gd := Bd.cells
 refine wp_region_tail 8 (by kernel_rfl) (by kernel_rfl) (C := fun w' => ∃ p : Regrown, w' = grow (redrawn W6 p.d) p.os) rgB ?_
 simp only [tK1, tK0, dP1, dP0]
 repeat (first | (refine zA0 (Eq.refl false) ?_; simp only [Act.put, sT2, sT1, sT0]) | (refine rWalk_step (fun K hK => ?_); go_simp; first | (refine hK _ ?_; clear hK K) | (apply Exists.intro; refine ⟨fun _ => ?_, hK _ ?_⟩; (first | with_reducible exact toExt o1 _ | with_reducible exact toExt o2 _); clear hK K)))
 refine rWalk_nil ?_
 intro w7 hb
 clear ga gb gc gd
 replace Ba := Ba.ee hb
 replace Bb := Bb.ee hb
 replace Bc := Bc.ee hb
 replace Bd := Bd.ee hb
 replace hw := upB hw hb
 have F_abcd := J4 Ba.f Bb.f Bc.f Bd.f
 go_wp2
 go_ret
 exact ⟨rfl, hw⟩
theorem meet_z2 (a b c d : Pt) (ha : vld a = true) (hb : vld b = true) (hc : vld c = true) (hd : vld d = true) (e1 : peqI a.x a.y b.x b.y = false) (e2 : peqI c.x c.y d.x d.y = false) (z1 : ori a b c = 0) (z2 : ¬ ori a b d = 0) (q1 : peqI a.x a.y c.x c.y = false) (q2 : peqI a.x a.y d.x d.y = false) (q3 : peqI b.x b.y c.x c.y = true) (w : World) :
    Calls Tryz.prog 77 #[.agg #[.int .i64 a.x, .int .i64 a.y], .agg #[.int .i64 b.x, .int .i64 b.y], .agg #[.int .i64 c.x, .int .i64 c.y], .agg #[.int .i64 d.x, .int .i64 d.y]] w fun e w' => e = .returned (.int .i64 0) ∧ Below w.heap.size w w' := by
 have ca := zA4 a
 rw [ha] at ca
 clear ha
 have cb := zA4 b
 rw [hb] at cb
 clear hb
 have cc := zA4 c
 rw [hc] at cc
 clear hc
 have cd := zA4 d
 rw [hd] at cd
 clear hd
 have o1 := zA8 a b c
 have o2 := zA8 a b d
 rw [z1] at o1
 generalize ori a b d = D at *
 have t1 : (D == 0) = false := by simpa using z2
 clear z1 z2
 go_enter Tryz.func77, Tryz.ntmps77
 go_wp2_with fail
 refine zA1 fun W1 hW => ?_
 have Ba : Box W1 (w.heap.size) [.int .i64 a.x, .int .i64 a.y] 30 := by rw [hW]; exact (((Box.new rfl).old _).old _).old _
 have Bb : Box W1 (w.heap.size + 1) [.int .i64 b.x, .int .i64 b.y] 30 := by rw [hW]; exact ((Box.new (by simp)).old _).old _
 have Bc : Box W1 (w.heap.size + 1 + 1) [.int .i64 c.x, .int .i64 c.y] 30 := by rw [hW]; exact (Box.new (by simp)).old _
 have Bd : Box W1 (w.heap.size + 1 + 1 + 1) [.int .i64 d.x, .int .i64 d.y] 30 := by rw [hW]; exact Box.new (by simp)
 have hw : Below w.heap.size w W1 := by rw [hW]; go_grown
 clear hW
 refine (ca _).mono ?_
 rintro e w2 ⟨rfl, hb⟩
 replace Ba := Ba.ee hb
 replace Bb := Bb.ee hb
 replace Bc := Bc.ee hb
 replace Bd := Bd.ee hb
 replace hw := upB hw hb
 clear hb
 have F_abcd := J4 Ba.f Bb.f Bc.f Bd.f
 go_wp2_with fail
 refine (cb _).mono ?_
 rintro e w3 ⟨rfl, hb⟩
 clear F_abcd
 replace Ba := Ba.ee hb
 replace Bb := Bb.ee hb
 replace Bc := Bc.ee hb
 replace Bd := Bd.ee hb
 replace hw := upB hw hb
 clear hb
 have F_abcd := J4 Ba.f Bb.f Bc.f Bd.f
 go_wp2_with fail
 refine (cc _).mono ?_
 rintro e w4 ⟨rfl, hb⟩
 clear F_abcd
 replace Ba := Ba.ee hb
 replace Bb := Bb.ee hb
 replace Bc := Bc.ee hb
 replace Bd := Bd.ee hb
 replace hw := upB hw hb
 clear hb
 have F_abcd := J4 Ba.f Bb.f Bc.f Bd.f
 go_wp2_with fail
 refine (cd _).mono ?_
 rintro e w5 ⟨rfl, hb⟩
 clear F_abcd
 replace Ba := Ba.ee hb
 replace Bb := Bb.ee hb
 replace Bc := Bc.ee hb
 replace Bd := Bd.ee hb
 replace hw := upB hw hb
 clear hb
 have F_abcd := J4 Ba.f Bb.f Bc.f Bd.f
 go_wp2
 refine zA2 fun W6 hW => ?_
 replace hw : Below w.heap.size w W6 := by rw [hW]; exact hw
 replace Ba : Box W6 (w.heap.size) [.int .i64 a.x, .int .i64 a.y] 30 := by rw [hW]; exact Ba
 replace Bb : Box W6 (w.heap.size + 1) [.int .i64 b.x, .int .i64 b.y] 30 := by rw [hW]; exact Bb
 replace Bc : Box W6 (w.heap.size + 1 + 1) [.int .i64 c.x, .int .i64 c.y] 30 := by rw [hW]; exact Bc
 replace Bd : Box W6 (w.heap.size + 1 + 1 + 1) [.int .i64 d.x, .int .i64 d.y] 30 := by rw [hW]; exact Bd
 clear hW
 clear F_abcd
 have ga := Ba.cells
 have gb := Bb.cells
 have gc := Bc.cells
 have gd := Bd.cells
 refine wp_region_tail 8 (by kernel_rfl) (by kernel_rfl) (C := fun w' => ∃ p : Regrown, w' = grow (redrawn W6 p.d) p.os) rgB ?_
 simp only [tK1, tK0, dP1, dP0]
 repeat (first | (refine zA0 (Eq.refl false) ?_; simp only [Act.put, sT2, sT1, sT0]) | (refine rWalk_step (fun K hK => ?_); go_simp; first | (refine hK _ ?_; clear hK K) | (apply Exists.intro; refine ⟨fun _ => ?_, hK _ ?_⟩; (first | with_reducible exact toExt o1 _ | with_reducible exact toExt o2 _); clear hK K)))
 refine rWalk_nil ?_
 intro w7 hb
 clear ga gb gc gd
 replace Ba := Ba.ee hb
 replace Bb := Bb.ee hb
 replace Bc := Bc.ee hb
 replace Bd := Bd.ee hb
 replace hw := upB hw hb
 have F_abcd := J4 Ba.f Bb.f Bc.f Bd.f
 go_wp2
 go_ret
 exact ⟨rfl, hw⟩
theorem meet_z3 (a b c d : Pt) (ha : vld a = true) (hb : vld b = true) (hc : vld c = true) (hd : vld d = true) (e1 : peqI a.x a.y b.x b.y = false) (e2 : peqI c.x c.y d.x d.y = false) (z1 : ori a b c = 0) (z2 : ¬ ori a b d = 0) (q1 : peqI a.x a.y c.x c.y = false) (q2 : peqI a.x a.y d.x d.y = false) (q3 : peqI b.x b.y c.x c.y = false) (q4 : peqI b.x b.y d.x d.y = true) (w : World) :
    Calls Tryz.prog 77 #[.agg #[.int .i64 a.x, .int .i64 a.y], .agg #[.int .i64 b.x, .int .i64 b.y], .agg #[.int .i64 c.x, .int .i64 c.y], .agg #[.int .i64 d.x, .int .i64 d.y]] w fun e w' => e = .returned (.int .i64 0) ∧ Below w.heap.size w w' := by
 have ca := zA4 a
 rw [ha] at ca
 clear ha
 have cb := zA4 b
 rw [hb] at cb
 clear hb
 have cc := zA4 c
 rw [hc] at cc
 clear hc
 have cd := zA4 d
 rw [hd] at cd
 clear hd
 have o1 := zA8 a b c
 have o2 := zA8 a b d
 rw [z1] at o1
 generalize ori a b d = D at *
 have t1 : (D == 0) = false := by simpa using z2
 clear z1 z2
 go_enter Tryz.func77, Tryz.ntmps77
 go_wp2_with fail
 refine zA1 fun W1 hW => ?_
 have Ba : Box W1 (w.heap.size) [.int .i64 a.x, .int .i64 a.y] 30 := by rw [hW]; exact (((Box.new rfl).old _).old _).old _
 have Bb : Box W1 (w.heap.size + 1) [.int .i64 b.x, .int .i64 b.y] 30 := by rw [hW]; exact ((Box.new (by simp)).old _).old _
 have Bc : Box W1 (w.heap.size + 1 + 1) [.int .i64 c.x, .int .i64 c.y] 30 := by rw [hW]; exact (Box.new (by simp)).old _
 have Bd : Box W1 (w.heap.size + 1 + 1 + 1) [.int .i64 d.x, .int .i64 d.y] 30 := by rw [hW]; exact Box.new (by simp)
 have hw : Below w.heap.size w W1 := by rw [hW]; go_grown
 clear hW
 refine (ca _).mono ?_
 rintro e w2 ⟨rfl, hb⟩
 replace Ba := Ba.ee hb
 replace Bb := Bb.ee hb
 replace Bc := Bc.ee hb
 replace Bd := Bd.ee hb
 replace hw := upB hw hb
 clear hb
 have F_abcd := J4 Ba.f Bb.f Bc.f Bd.f
 go_wp2_with fail
 refine (cb _).mono ?_
 rintro e w3 ⟨rfl, hb⟩
 clear F_abcd
 replace Ba := Ba.ee hb
 replace Bb := Bb.ee hb
 replace Bc := Bc.ee hb
 replace Bd := Bd.ee hb
 replace hw := upB hw hb
 clear hb
 have F_abcd := J4 Ba.f Bb.f Bc.f Bd.f
 go_wp2_with fail
 refine (cc _).mono ?_
 rintro e w4 ⟨rfl, hb⟩
 clear F_abcd
 replace Ba := Ba.ee hb
 replace Bb := Bb.ee hb
 replace Bc := Bc.ee hb
 replace Bd := Bd.ee hb
 replace hw := upB hw hb
 clear hb
 have F_abcd := J4 Ba.f Bb.f Bc.f Bd.f
 go_wp2_with fail
 refine (cd _).mono ?_
 rintro e w5 ⟨rfl, hb⟩
 clear F_abcd
 replace Ba := Ba.ee hb
 replace Bb := Bb.ee hb
 replace Bc := Bc.ee hb
 replace Bd := Bd.ee hb
 replace hw := upB hw hb
 clear hb
 have F_abcd := J4 Ba.f Bb.f Bc.f Bd.f
 go_wp2
 refine zA2 fun W6 hW => ?_
 replace hw : Below w.heap.size w W6 := by rw [hW]; exact hw
 replace Ba : Box W6 (w.heap.size) [.int .i64 a.x, .int .i64 a.y] 30 := by rw [hW]; exact Ba
 replace Bb : Box W6 (w.heap.size + 1) [.int .i64 b.x, .int .i64 b.y] 30 := by rw [hW]; exact Bb
 replace Bc : Box W6 (w.heap.size + 1 + 1) [.int .i64 c.x, .int .i64 c.y] 30 := by rw [hW]; exact Bc
 replace Bd : Box W6 (w.heap.size + 1 + 1 + 1) [.int .i64 d.x, .int .i64 d.y] 30 := by rw [hW]; exact Bd
 clear hW
 clear F_abcd
 have ga := Ba.cells
 have gb := Bb.cells
 have gc := Bc.cells
 have gd := Bd.cells
 refine wp_region_tail 8 (by kernel_rfl) (by kernel_rfl) (C := fun w' => ∃ p : Regrown, w' = grow (redrawn W6 p.d) p.os) rgB ?_
 simp only [tK1, tK0, dP1, dP0]
 repeat (first | (refine zA0 (Eq.refl false) ?_; simp only [Act.put, sT2, sT1, sT0]) | (refine rWalk_step (fun K hK => ?_); go_simp; first | (refine hK _ ?_; clear hK K) | (apply Exists.intro; refine ⟨fun _ => ?_, hK _ ?_⟩; (first | with_reducible exact toExt o1 _ | with_reducible exact toExt o2 _); clear hK K)))
 refine rWalk_nil ?_
 intro w7 hb
 clear ga gb gc gd
 replace Ba := Ba.ee hb
 replace Bb := Bb.ee hb
 replace Bc := Bc.ee hb
 replace Bd := Bd.ee hb
 replace hw := upB hw hb
 have F_abcd := J4 Ba.f Bb.f Bc.f Bd.f
 go_wp2
 go_ret
 exact ⟨rfl, hw⟩
theorem meet_z4 (a b c d : Pt) (ha : vld a = true) (hb : vld b = true) (hc : vld c = true) (hd : vld d = true) (e1 : peqI a.x a.y b.x b.y = false) (e2 : peqI c.x c.y d.x d.y = false) (z1 : ori a b c = 0) (z2 : ¬ ori a b d = 0) (q1 : peqI a.x a.y c.x c.y = false) (q2 : peqI a.x a.y d.x d.y = false) (q3 : peqI b.x b.y c.x c.y = false) (q4 : peqI b.x b.y d.x d.y = false) (w : World) :
    Calls Tryz.prog 77 #[.agg #[.int .i64 a.x, .int .i64 a.y], .agg #[.int .i64 b.x, .int .i64 b.y], .agg #[.int .i64 c.x, .int .i64 c.y], .agg #[.int .i64 d.x, .int .i64 d.y]] w fun e w' => e = .returned (.int .i64 (fin (ori c d a) (ori c d b) 0 (ori a b d))) ∧ Below w.heap.size w w' := by
 have ca := zA4 a
 rw [ha] at ca
 clear ha
 have cb := zA4 b
 rw [hb] at cb
 clear hb
 have cc := zA4 c
 rw [hc] at cc
 clear hc
 have cd := zA4 d
 rw [hd] at cd
 clear hd
 have o1 := zA8 a b c
 have o2 := zA8 a b d
 have o3 := zA8 c d a
 have o4 := zA8 c d b
 generalize ori c d a = A at *
 generalize ori c d b = B at *
 rw [z1] at o1
 generalize ori a b d = D at *
 have t1 : (D == 0) = false := by simpa using z2
 clear z1 z2
 go_enter Tryz.func77, Tryz.ntmps77
 go_wp2_with fail
 refine zA1 fun W1 hW => ?_
 have Ba : Box W1 (w.heap.size) [.int .i64 a.x, .int .i64 a.y] 30 := by rw [hW]; exact (((Box.new rfl).old _).old _).old _
 have Bb : Box W1 (w.heap.size + 1) [.int .i64 b.x, .int .i64 b.y] 30 := by rw [hW]; exact ((Box.new (by simp)).old _).old _
 have Bc : Box W1 (w.heap.size + 1 + 1) [.int .i64 c.x, .int .i64 c.y] 30 := by rw [hW]; exact (Box.new (by simp)).old _
 have Bd : Box W1 (w.heap.size + 1 + 1 + 1) [.int .i64 d.x, .int .i64 d.y] 30 := by rw [hW]; exact Box.new (by simp)
 have hw : Below w.heap.size w W1 := by rw [hW]; go_grown
 clear hW
 refine (ca _).mono ?_
 rintro e w2 ⟨rfl, hb⟩
 replace Ba := Ba.ee hb
 replace Bb := Bb.ee hb
 replace Bc := Bc.ee hb
 replace Bd := Bd.ee hb
 replace hw := upB hw hb
 clear hb
 have F_abcd := J4 Ba.f Bb.f Bc.f Bd.f
 go_wp2_with fail
 refine (cb _).mono ?_
 rintro e w3 ⟨rfl, hb⟩
 clear F_abcd
 replace Ba := Ba.ee hb
 replace Bb := Bb.ee hb
 replace Bc := Bc.ee hb
 replace Bd := Bd.ee hb
 replace hw := upB hw hb
 clear hb
 have F_abcd := J4 Ba.f Bb.f Bc.f Bd.f
 go_wp2_with fail
 refine (cc _).mono ?_
 rintro e w4 ⟨rfl, hb⟩
 clear F_abcd
 replace Ba := Ba.ee hb
 replace Bb := Bb.ee hb
 replace Bc := Bc.ee hb
 replace Bd := Bd.ee hb
 replace hw := upB hw hb
 clear hb
 have F_abcd := J4 Ba.f Bb.f Bc.f Bd.f
 go_wp2_with fail
 refine (cd _).mono ?_
 rintro e w5 ⟨rfl, hb⟩
 clear F_abcd
 replace Ba := Ba.ee hb
 replace Bb := Bb.ee hb
 replace Bc := Bc.ee hb
 replace Bd := Bd.ee hb
 replace hw := upB hw hb
 clear hb
 have F_abcd := J4 Ba.f Bb.f Bc.f Bd.f
 go_wp2
 refine zA2 fun W6 hW => ?_
 replace hw : Below w.heap.size w W6 := by rw [hW]; exact hw
 replace Ba : Box W6 (w.heap.size) [.int .i64 a.x, .int .i64 a.y] 30 := by rw [hW]; exact Ba
 replace Bb : Box W6 (w.heap.size + 1) [.int .i64 b.x, .int .i64 b.y] 30 := by rw [hW]; exact Bb
 replace Bc : Box W6 (w.heap.size + 1 + 1) [.int .i64 c.x, .int .i64 c.y] 30 := by rw [hW]; exact Bc
 replace Bd : Box W6 (w.heap.size + 1 + 1 + 1) [.int .i64 d.x, .int .i64 d.y] 30 := by rw [hW]; exact Bd
 clear hW
 clear F_abcd
 have ga := Ba.cells
 have gb := Bb.cells
 have gc := Bc.cells
 have gd := Bd.cells
 refine wp_region_tail 8 (by kernel_rfl) (by kernel_rfl) (C := fun w' => ∃ p : Regrown, w' = grow (redrawn W6 p.d) p.os) rgB ?_
 simp only [tK1, tK0, dP1, dP0]
 repeat (first | (refine zA0 (Eq.refl false) ?_; simp only [Act.put, sT2, sT1, sT0]) | (refine rWalk_step (fun K hK => ?_); go_simp; first | (refine hK _ ?_; clear hK K) | (apply Exists.intro; refine ⟨fun _ => ?_, hK _ ?_⟩; (first | with_reducible exact toExt o1 _ | with_reducible exact toExt o2 _); clear hK K)))
 refine rWalk_nil ?_
 intro w7 hb
 clear ga gb gc gd
 replace Ba := Ba.ee hb
 replace Bb := Bb.ee hb
 replace Bc := Bc.ee hb
 replace Bd := Bd.ee hb
 replace hw := upB hw hb
 have F_abcd := J4 Ba.f Bb.f Bc.f Bd.f
 go_wp2
 refine zA2 fun W8 hW => ?_
 replace hw : Below w.heap.size w W8 := by rw [hW]; exact hw
 replace Ba : Box W8 (w.heap.size) [.int .i64 a.x, .int .i64 a.y] 30 := by rw [hW]; exact Ba
 replace Bb : Box W8 (w.heap.size + 1) [.int .i64 b.x, .int .i64 b.y] 30 := by rw [hW]; exact Bb
 replace Bc : Box W8 (w.heap.size + 1 + 1) [.int .i64 c.x, .int .i64 c.y] 30 := by rw [hW]; exact Bc
 replace Bd : Box W8 (w.heap.size + 1 + 1 + 1) [.int .i64 d.x, .int .i64 d.y] 30 := by rw [hW]; exact Bd
 clear hW
 clear F_abcd
 have ga := Ba.cells
 have gb := Bb.cells
 have gc := Bc.cells
 have gd := Bd.cells
 refine wp_region_tail 8 (by kernel_rfl) (by kernel_rfl) (C := fun w' => ∃ p : Regrown, w' = grow (redrawn W8 p.d) p.os) rgB ?_
 simp only [tK1, tK0, dP1, dP0]
 repeat (first | (refine zA0 (Eq.refl false) ?_; simp only [Act.put, sT2, sT1, sT0]) | (refine rWalk_step (fun K hK => ?_); go_simp; first | (refine hK _ ?_; clear hK K) | (apply Exists.intro; refine ⟨fun _ => ?_, hK _ ?_⟩; (first | with_reducible exact toExt o3 _ | with_reducible exact toExt o4 _); clear hK K)))
 refine rWalk_nil ?_
 intro w9 hb
 clear ga gb gc gd
 replace Ba := Ba.ee hb
 replace Bb := Bb.ee hb
 replace Bc := Bc.ee hb
 replace Bd := Bd.ee hb
 replace hw := upB hw hb
 go_wp2
 all_goals go_ret
 all_goals exact ⟨zAl (by unfold fin; simp_all), hw⟩
theorem zHg (a b c d : Pt) (w : World) :
    Calls Tryz.prog 77 #[.agg #[.int .i64 a.x, .int .i64 a.y], .agg #[.int .i64 b.x, .int .i64 b.y], .agg #[.int .i64 c.x, .int .i64 c.y], .agg #[.int .i64 d.x, .int .i64 d.y]] w fun e w' => e = .returned (.int .i64 (meetS a b c d)) ∧ Below w.heap.size w w' := by
 cases ha : vld a with
 | false => rw [show meetS a b c d = 0 by unfold meetS; rw [if_pos ha]]; exact meet_v0 a b c d ha w
 | true =>
 have n_ha : ¬ vld a = false := by rw [ha]; simp
 cases hb : vld b with
 | false => rw [show meetS a b c d = 0 by unfold meetS; rw [if_neg n_ha, if_pos hb]]; exact meet_v1 a b c d ha hb w
 | true =>
 have n_hb : ¬ vld b = false := by rw [hb]; simp
 cases hc : vld c with
 | false => rw [show meetS a b c d = 0 by unfold meetS; rw [if_neg n_ha, if_neg n_hb, if_pos hc]]; exact meet_v2 a b c d ha hb hc w
 | true =>
 have n_hc : ¬ vld c = false := by rw [hc]; simp
 cases hd : vld d with
 | false => rw [show meetS a b c d = 0 by unfold meetS; rw [if_neg n_ha, if_neg n_hb, if_neg n_hc, if_pos hd]]; exact meet_v3 a b c d ha hb hc hd w
 | true =>
 have n_hd : ¬ vld d = false := by rw [hd]; simp
 cases e1 : peqI a.x a.y b.x b.y with
 | true => rw [show meetS a b c d = 0 by unfold meetS; rw [if_neg n_ha, if_neg n_hb, if_neg n_hc, if_neg n_hd, if_pos e1]]; exact meet_e1 a b c d ha hb hc hd e1 w
 | false =>
 have n_e1 : ¬ peqI a.x a.y b.x b.y = true := by rw [e1]; simp
 cases e2 : peqI c.x c.y d.x d.y with
 | true => rw [show meetS a b c d = 0 by unfold meetS; rw [if_neg n_ha, if_neg n_hb, if_neg n_hc, if_neg n_hd, if_neg n_e1, if_pos e2]]; exact meet_e2 a b c d ha hb hc hd e1 e2 w
 | false =>
 have n_e2 : ¬ peqI c.x c.y d.x d.y = true := by rw [e2]; simp
 by_cases z1 : ori a b c = 0
 ·by_cases z2 : ori a b d = 0
  ·rw [show meetS a b c d = mil a b c d by unfold meetS; rw [if_neg n_ha, if_neg n_hb, if_neg n_hc, if_neg n_hd, if_neg n_e1, if_neg n_e2, if_pos ⟨z1, z2⟩]]; exact meet_l a b c d ha hb hc hd e1 e2 z1 z2 w
  ·have nz : ¬ (ori a b c = 0 ∧ ori a b d = 0) := fun h => z2 h.2
   cases q1 : peqI a.x a.y c.x c.y with
   | true => rw [show meetS a b c d = 0 by unfold meetS; rw [if_neg n_ha, if_neg n_hb, if_neg n_hc, if_neg n_hd, if_neg n_e1, if_neg n_e2, if_neg nz, if_pos q1]]; exact meet_z0 a b c d ha hb hc hd e1 e2 z1 z2 q1 w
   | false =>
   have k1 : ¬ peqI a.x a.y c.x c.y = true := by rw [q1]; simp
   cases q2 : peqI a.x a.y d.x d.y with
   | true => rw [show meetS a b c d = 0 by unfold meetS; rw [if_neg n_ha, if_neg n_hb, if_neg n_hc, if_neg n_hd, if_neg n_e1, if_neg n_e2, if_neg nz, if_neg k1, if_pos q2]]; exact meet_z1 a b c d ha hb hc hd e1 e2 z1 z2 q1 q2 w
   | false =>
   have k2 : ¬ peqI a.x a.y d.x d.y = true := by rw [q2]; simp
   cases q3 : peqI b.x b.y c.x c.y with
   | true => rw [show meetS a b c d = 0 by unfold meetS; rw [if_neg n_ha, if_neg n_hb, if_neg n_hc, if_neg n_hd, if_neg n_e1, if_neg n_e2, if_neg nz, if_neg k1, if_neg k2, if_pos q3]]; exact meet_z2 a b c d ha hb hc hd e1 e2 z1 z2 q1 q2 q3 w
   | false =>
   have k3 : ¬ peqI b.x b.y c.x c.y = true := by rw [q3]; simp
   cases q4 : peqI b.x b.y d.x d.y with
   | true => rw [show meetS a b c d = 0 by unfold meetS; rw [if_neg n_ha, if_neg n_hb, if_neg n_hc, if_neg n_hd, if_neg n_e1, if_neg n_e2, if_neg nz, if_neg k1, if_neg k2, if_neg k3, if_pos q4]]; exact meet_z3 a b c d ha hb hc hd e1 e2 z1 z2 q1 q2 q3 q4 w
   | false =>
   have k4 : ¬ peqI b.x b.y d.x d.y = true := by rw [q4]; simp
   rw [show meetS a b c d = fin (ori c d a) (ori c d b) (ori a b c) (ori a b d) by unfold meetS; rw [if_neg n_ha, if_neg n_hb, if_neg n_hc, if_neg n_hd, if_neg n_e1, if_neg n_e2, if_neg nz, if_neg k1, if_neg k2, if_neg k3, if_neg k4]]
   rw [z1]
   exact meet_z4 a b c d ha hb hc hd e1 e2 z1 z2 q1 q2 q3 q4 w
 ·have nz : ¬ (ori a b c = 0 ∧ ori a b d = 0) := fun h => z1 h.1
  cases q1 : peqI a.x a.y c.x c.y with
  | true => rw [show meetS a b c d = 0 by unfold meetS; rw [if_neg n_ha, if_neg n_hb, if_neg n_hc, if_neg n_hd, if_neg n_e1, if_neg n_e2, if_neg nz, if_pos q1]]; exact meet_n0 a b c d ha hb hc hd e1 e2 z1 q1 w
  | false =>
  have k1 : ¬ peqI a.x a.y c.x c.y = true := by rw [q1]; simp
  cases q2 : peqI a.x a.y d.x d.y with
  | true => rw [show meetS a b c d = 0 by unfold meetS; rw [if_neg n_ha, if_neg n_hb, if_neg n_hc, if_neg n_hd, if_neg n_e1, if_neg n_e2, if_neg nz, if_neg k1, if_pos q2]]; exact meet_n1 a b c d ha hb hc hd e1 e2 z1 q1 q2 w
  | false =>
  have k2 : ¬ peqI a.x a.y d.x d.y = true := by rw [q2]; simp
  cases q3 : peqI b.x b.y c.x c.y with
  | true => rw [show meetS a b c d = 0 by unfold meetS; rw [if_neg n_ha, if_neg n_hb, if_neg n_hc, if_neg n_hd, if_neg n_e1, if_neg n_e2, if_neg nz, if_neg k1, if_neg k2, if_pos q3]]; exact meet_n2 a b c d ha hb hc hd e1 e2 z1 q1 q2 q3 w
  | false =>
  have k3 : ¬ peqI b.x b.y c.x c.y = true := by rw [q3]; simp
  cases q4 : peqI b.x b.y d.x d.y with
  | true => rw [show meetS a b c d = 0 by unfold meetS; rw [if_neg n_ha, if_neg n_hb, if_neg n_hc, if_neg n_hd, if_neg n_e1, if_neg n_e2, if_neg nz, if_neg k1, if_neg k2, if_neg k3, if_pos q4]]; exact meet_n3 a b c d ha hb hc hd e1 e2 z1 q1 q2 q3 q4 w
  | false =>
  have k4 : ¬ peqI b.x b.y d.x d.y = true := by rw [q4]; simp
  rw [show meetS a b c d = fin (ori c d a) (ori c d b) (ori a b c) (ori a b d) by unfold meetS; rw [if_neg n_ha, if_neg n_hb, if_neg n_hc, if_neg n_hd, if_neg n_e1, if_neg n_e2, if_neg nz, if_neg k1, if_neg k2, if_neg k3, if_neg k4]]
  exact meet_n4 a b c d ha hb hc hd e1 e2 z1 q1 q2 q3 q4 w
theorem zA5 (p : Pt) (w : World) :
    Calls Tryz.prog 94 #[.agg #[.int .i64 p.x, .int .i64 p.y]] w fun e w' => e = .returned (.bool (vld p)) ∧ Below w.heap.size w w' := by
 have Hv := Lib.hid (show vld p = (inG p.x && inG p.y) from rfl)
 go_enter Tryz.func94, Tryz.ntmps94
 go_wp2
 all_goals go_ret
 all_goals exact ⟨zCh (by rw [Hv.out, Bool.eq_iff_iff]; simp [inG]; omega), by go_grown⟩
theorem zAb (p q : Pt) (w : World) :
    Calls Tryz.prog 89 #[.agg #[.int .i64 p.x, .int .i64 p.y], .agg #[.int .i64 q.x, .int .i64 q.y]] w fun e w' => e = .returned (.int .i64 (cmpP p q)) ∧ Below w.heap.size w w' := by
 have H : Hid (∀ n : Int, (n = -1 ∧ (p.x < q.x ∨ p.x = q.x ∧ p.y < q.y) ∨ n = 0 ∧ p.x = q.x ∧ p.y = q.y ∨ n = 1 ∧ (q.x < p.x ∨ p.x = q.x ∧ q.y < p.y)) → n = cmpP p q) := Lib.hid (fun n h => by
  unfold cmpP cmpN sgn
  (repeat' split) <;> omega)
 rcases Int.lt_trichotomy p.x q.x with h | h | h
 ·go_enter Tryz.func89, Tryz.ntmps89
  go_wp2
  go_ret
  exact ⟨zAl (H.out _ (by omega)), by go_grown⟩
 ·rcases Int.lt_trichotomy p.y q.y with k | k | k
  all_goals have e1 : (p.x == q.x) = true := by simpa using h
  all_goals have e2 : decide (p.x < q.x) = false := by simp; omega
  ·have e3 : decide (p.y < q.y) = true := by simpa using k
   go_enter Tryz.func89, Tryz.ntmps89
   have h' := Lib.hid h; clear h
   go_wp2
   go_ret
   exact ⟨zAl (H.out _ (by have := h'.out; omega)), by go_grown⟩
  ·have e3 : decide (p.y < q.y) = false := by simp; omega
   have e4 : peqI p.x p.y q.x q.y = true := by rw [zBu]; exact ⟨h, k⟩
   have h' := Lib.hid h; clear h
   have k' := Lib.hid k; clear k
   go_enter Tryz.func89, Tryz.ntmps89
   go_wp2
   go_ret
   exact ⟨zAl (H.out _ (by have := h'.out; have := k'.out; omega)), by go_grown⟩
  ·have e3 : decide (p.y < q.y) = false := by simp; omega
   have e4 : peqI p.x p.y q.x q.y = false := by rw [← Bool.not_eq_true, zBu]; omega
   have h' := Lib.hid h; clear h
   go_enter Tryz.func89, Tryz.ntmps89
   go_wp2
   go_ret
   exact ⟨zAl (H.out _ (by have := h'.out; omega)), by go_grown⟩
 ·have e1 : (p.x == q.x) = false := by simp; omega
  have e2 : decide (p.x < q.x) = false := by simp; omega
  have e4 : peqI p.x p.y q.x q.y = false := by rw [← Bool.not_eq_true, zBu]; omega
  go_enter Tryz.func89, Tryz.ntmps89
  go_wp2
  go_ret
  exact ⟨zAl (H.out _ (by omega)), by go_grown⟩
theorem zHl (n : Int) (w : World) :
    Calls Tryz.prog 103 #[.int .i64 n] w fun e w' => e = .returned (.int .i64 (sgn n)) ∧ w = w' := by
 go_enter Tryz.func103, Tryz.ntmps103
 go_wp2
 all_goals go_ret
 all_goals exact ⟨zAl (by unfold sgn; (repeat' split) <;> omega), rfl⟩
theorem zCf (a b c : Pt) (ha : vld a = true) (hb : vld b = true) (hc : vld c = true) (w : World) :
    Calls Tryz.prog 79 #[.agg #[.int .i64 a.x, .int .i64 a.y], .agg #[.int .i64 b.x, .int .i64 b.y], .agg #[.int .i64 c.x, .int .i64 c.y]] w fun e w' => e = .returned (.int .i64 (det a b c)) ∧ Below w.heap.size w w' := by
 have s1 := zEk ha hb
 have s2 := zEk ha hc
 have h1 := zBa s1.1 s2.2
 have h2 := zBa s1.2 s2.1
 have e : wrap64 (wrap64 (wrap64 (b.x - a.x) * wrap64 (c.y - a.y)) - wrap64 (wrap64 (b.y - a.y) * wrap64 (c.x - a.x))) = det a b c := by
  rw [zAr] at ha hb hc
  rw [show wrap64 (b.x - a.x) = (way a b).x by rw [w64]; unfold way; simp only; omega, show wrap64 (c.y - a.y) = (way a c).y by rw [w64]; unfold way; simp only; omega, show wrap64 (b.y - a.y) = (way a b).y by rw [w64]; unfold way; simp only; omega, show wrap64 (c.x - a.x) = (way a c).x by rw [w64]; unfold way; simp only; omega]
  show _ = (way a b).x * (way a c).y - (way a b).y * (way a c).x
  generalize (way a b).x * (way a c).y = p at *
  generalize (way a b).y * (way a c).x = q at *
  simp only [w64]; omega
 have E := Lib.hid e; clear e h1 h2 s1 s2 ha hb hc
 go_enter Tryz.func79, Tryz.ntmps79
 go_wp2
 go_ret
 exact ⟨zAl (by simpa using E.out), by go_grown⟩
theorem rorient_0 (a b c : Pt) (ha : vld a = false) (w : World) :
    Calls Tryz.prog 59 #[.agg #[.int .i64 a.x, .int .i64 a.y], .agg #[.int .i64 b.x, .int .i64 b.y], .agg #[.int .i64 c.x, .int .i64 c.y]] w fun e w' => e = .returned (.int .i64 0) ∧ Below w.heap.size w w' := by
 have ca := zA5 a
 rw [ha] at ca
 clear ha
 go_enter Tryz.func59, Tryz.ntmps59
 go_wp2_with fail
 refine zA1 fun W1 hW => ?_
 have Ba : Box W1 (w.heap.size) [.int .i64 a.x, .int .i64 a.y] 30 := by rw [hW]; exact ((Box.new rfl).old _).old _
 have Bb : Box W1 (w.heap.size + 1) [.int .i64 b.x, .int .i64 b.y] 30 := by rw [hW]; exact (Box.new (by simp)).old _
 have Bc : Box W1 (w.heap.size + 1 + 1) [.int .i64 c.x, .int .i64 c.y] 30 := by rw [hW]; exact Box.new (by simp)
 have hw : Below w.heap.size w W1 := by rw [hW]; go_grown
 clear hW
 refine (ca _).mono ?_
 rintro e w2 ⟨rfl, hb⟩
 replace Ba := Ba.ee hb
 replace Bb := Bb.ee hb
 replace Bc := Bc.ee hb
 replace hw := upB hw hb
 clear hb
 have F_abc := J3 Ba.f Bb.f Bc.f
 go_wp2
 go_ret
 exact ⟨rfl, hw⟩
theorem rorient_1 (a b c : Pt) (ha : vld a = true) (hb : vld b = false) (w : World) :
    Calls Tryz.prog 59 #[.agg #[.int .i64 a.x, .int .i64 a.y], .agg #[.int .i64 b.x, .int .i64 b.y], .agg #[.int .i64 c.x, .int .i64 c.y]] w fun e w' => e = .returned (.int .i64 0) ∧ Below w.heap.size w w' := by
 have ca := zA5 a
 rw [ha] at ca
 have cb := zA5 b
 rw [hb] at cb
 clear ha hb
 go_enter Tryz.func59, Tryz.ntmps59
 go_wp2_with fail
 refine zA1 fun W1 hW => ?_
 have Ba : Box W1 (w.heap.size) [.int .i64 a.x, .int .i64 a.y] 30 := by rw [hW]; exact ((Box.new rfl).old _).old _
 have Bb : Box W1 (w.heap.size + 1) [.int .i64 b.x, .int .i64 b.y] 30 := by rw [hW]; exact (Box.new (by simp)).old _
 have Bc : Box W1 (w.heap.size + 1 + 1) [.int .i64 c.x, .int .i64 c.y] 30 := by rw [hW]; exact Box.new (by simp)
 have hw : Below w.heap.size w W1 := by rw [hW]; go_grown
 clear hW
 refine (ca _).mono ?_
 rintro e w2 ⟨rfl, hb⟩
 replace Ba := Ba.ee hb
 replace Bb := Bb.ee hb
 replace Bc := Bc.ee hb
 replace hw := upB hw hb
 clear hb
 have F_abc := J3 Ba.f Bb.f Bc.f
 go_wp2_with fail
 refine (cb _).mono ?_
 rintro e w3 ⟨rfl, hb⟩
 clear F_abc
 replace Ba := Ba.ee hb
 replace Bb := Bb.ee hb
 replace Bc := Bc.ee hb
 replace hw := upB hw hb
 clear hb
 have F_abc := J3 Ba.f Bb.f Bc.f
 go_wp2
 go_ret
 exact ⟨rfl, hw⟩
theorem rorient_2 (a b c : Pt) (ha : vld a = true) (hb : vld b = true) (hc : vld c = false) (w : World) :
    Calls Tryz.prog 59 #[.agg #[.int .i64 a.x, .int .i64 a.y], .agg #[.int .i64 b.x, .int .i64 b.y], .agg #[.int .i64 c.x, .int .i64 c.y]] w fun e w' => e = .returned (.int .i64 0) ∧ Below w.heap.size w w' := by
 have ca := zA5 a
 rw [ha] at ca
 have cb := zA5 b
 rw [hb] at cb
 have cc := zA5 c
 rw [hc] at cc
 clear ha hb hc
 go_enter Tryz.func59, Tryz.ntmps59
 go_wp2_with fail
 refine zA1 fun W1 hW => ?_
 have Ba : Box W1 (w.heap.size) [.int .i64 a.x, .int .i64 a.y] 30 := by rw [hW]; exact ((Box.new rfl).old _).old _
 have Bb : Box W1 (w.heap.size + 1) [.int .i64 b.x, .int .i64 b.y] 30 := by rw [hW]; exact (Box.new (by simp)).old _
 have Bc : Box W1 (w.heap.size + 1 + 1) [.int .i64 c.x, .int .i64 c.y] 30 := by rw [hW]; exact Box.new (by simp)
 have hw : Below w.heap.size w W1 := by rw [hW]; go_grown
 clear hW
 refine (ca _).mono ?_
 rintro e w2 ⟨rfl, hb⟩
 replace Ba := Ba.ee hb
 replace Bb := Bb.ee hb
 replace Bc := Bc.ee hb
 replace hw := upB hw hb
 clear hb
 have F_abc := J3 Ba.f Bb.f Bc.f
 go_wp2_with fail
 refine (cb _).mono ?_
 rintro e w3 ⟨rfl, hb⟩
 clear F_abc
 replace Ba := Ba.ee hb
 replace Bb := Bb.ee hb
 replace Bc := Bc.ee hb
 replace hw := upB hw hb
 clear hb
 have F_abc := J3 Ba.f Bb.f Bc.f
 go_wp2_with fail
 refine (cc _).mono ?_
 rintro e w4 ⟨rfl, hb⟩
 clear F_abc
 replace Ba := Ba.ee hb
 replace Bb := Bb.ee hb
 replace Bc := Bc.ee hb
 replace hw := upB hw hb
 clear hb
 have F_abc := J3 Ba.f Bb.f Bc.f
 go_wp2
 go_ret
 exact ⟨rfl, hw⟩
theorem rorient_3 (a b c : Pt) (ha : vld a = true) (hb : vld b = true) (hc : vld c = true) (w : World) :
    Calls Tryz.prog 59 #[.agg #[.int .i64 a.x, .int .i64 a.y], .agg #[.int .i64 b.x, .int .i64 b.y], .agg #[.int .i64 c.x, .int .i64 c.y]] w fun e w' => e = .returned (.int .i64 (sgn (det a b c))) ∧ Below w.heap.size w w' := by
 have ca := zA5 a
 rw [ha] at ca
 have cb := zA5 b
 rw [hb] at cb
 have cc := zA5 c
 rw [hc] at cc
 have ct := zCf a b c ha hb hc
 generalize det a b c = D at *
 have cs := zCe (zHl D)
 clear ha hb hc
 go_enter Tryz.func59, Tryz.ntmps59
 go_wp2_with fail
 refine zA1 fun W1 hW => ?_
 have Ba : Box W1 (w.heap.size) [.int .i64 a.x, .int .i64 a.y] 30 := by rw [hW]; exact ((Box.new rfl).old _).old _
 have Bb : Box W1 (w.heap.size + 1) [.int .i64 b.x, .int .i64 b.y] 30 := by rw [hW]; exact (Box.new (by simp)).old _
 have Bc : Box W1 (w.heap.size + 1 + 1) [.int .i64 c.x, .int .i64 c.y] 30 := by rw [hW]; exact Box.new (by simp)
 have hw : Below w.heap.size w W1 := by rw [hW]; go_grown
 clear hW
 refine (ca _).mono ?_
 rintro e w2 ⟨rfl, hb⟩
 replace Ba := Ba.ee hb
 replace Bb := Bb.ee hb
 replace Bc := Bc.ee hb
 replace hw := upB hw hb
 clear hb
 have F_abc := J3 Ba.f Bb.f Bc.f
 go_wp2_with fail
 refine (cb _).mono ?_
 rintro e w3 ⟨rfl, hb⟩
 clear F_abc
 replace Ba := Ba.ee hb
 replace Bb := Bb.ee hb
 replace Bc := Bc.ee hb
 replace hw := upB hw hb
 clear hb
 have F_abc := J3 Ba.f Bb.f Bc.f
 go_wp2_with fail
 refine (cc _).mono ?_
 rintro e w4 ⟨rfl, hb⟩
 clear F_abc
 replace Ba := Ba.ee hb
 replace Bb := Bb.ee hb
 replace Bc := Bc.ee hb
 replace hw := upB hw hb
 clear hb
 have F_abc := J3 Ba.f Bb.f Bc.f
 go_wp2_with fail
 refine (ct _).mono ?_
 rintro e w5 ⟨rfl, hb⟩
 clear F_abc
 replace Ba := Ba.ee hb
 replace Bb := Bb.ee hb
 replace Bc := Bc.ee hb
 replace hw := upB hw hb
 clear hb
 have F_abc := J3 Ba.f Bb.f Bc.f
 go_wp2_with fail
 refine (cs _).mono ?_
 rintro e w6 ⟨rfl, hb⟩
 clear F_abc
 replace Ba := Ba.ee hb
 replace Bb := Bb.ee hb
 replace Bc := Bc.ee hb
 replace hw := upB hw hb
 clear hb
 have F_abc := J3 Ba.f Bb.f Bc.f
 go_wp2
 go_ret
 exact ⟨rfl, hw⟩
theorem zA7 (a b c : Pt) (w : World) :
    Calls Tryz.prog 59 #[.agg #[.int .i64 a.x, .int .i64 a.y], .agg #[.int .i64 b.x, .int .i64 b.y], .agg #[.int .i64 c.x, .int .i64 c.y]] w fun e w' => e = .returned (.int .i64 (ori a b c)) ∧ Below w.heap.size w w' := by
 cases ha : vld a with
 | false => rw [show ori a b c = 0 by simp [ori, ha]]; exact rorient_0 a b c ha w
 | true => cases hb : vld b with
  | false => rw [show ori a b c = 0 by simp [ori, hb]]; exact rorient_1 a b c ha hb w
  | true => cases hc : vld c with
   | false => rw [show ori a b c = 0 by simp [ori, hc]]; exact rorient_2 a b c ha hb hc w
   | true => rw [show ori a b c = sgn (det a b c) by simp [ori, ha, hb, hc]]; exact rorient_3 a b c ha hb hc w
def btw (n a b : Int) : Bool := decide (min a b ≤ n ∧ n ≤ max a b)
theorem zJf (n a b : Int) (w : World) :
    Calls Tryz.prog 180 #[.int .i64 n, .int .i64 a, .int .i64 b] w fun e w' => e = .returned (.bool (btw n a b)) ∧ w = w' := by
 go_enter Tryz.func180, Tryz.ntmps180
 go_wp2
 all_goals go_ret
 all_goals exact ⟨zCh (by unfold btw; rw [Bool.eq_iff_iff]; simp; omega), rfl⟩
def onR (p a b : Pt) : Bool := vld p && (vld a && (vld b && (decide (det a b p = 0) && (btw p.x a.x b.x && btw p.y a.y b.y))))
theorem ron_0 (p a b : Pt) (hp : vld p = false) (w : World) :
    Calls Tryz.prog 142 #[.agg #[.int .i64 p.x, .int .i64 p.y], .agg #[.int .i64 a.x, .int .i64 a.y], .agg #[.int .i64 b.x, .int .i64 b.y]] w fun e w' => e = .returned (.bool false) ∧ Below w.heap.size w w' := by
 have cp := zA5 p
 rw [hp] at cp
 clear hp
 go_enter Tryz.func142, Tryz.ntmps142
 go_wp2_with fail
 refine zA1 fun W1 hW => ?_
 have Bp : Box W1 (w.heap.size) [.int .i64 p.x, .int .i64 p.y] 30 := by rw [hW]; exact ((Box.new rfl).old _).old _
 have Ba : Box W1 (w.heap.size + 1) [.int .i64 a.x, .int .i64 a.y] 30 := by rw [hW]; exact (Box.new (by simp)).old _
 have Bb : Box W1 (w.heap.size + 1 + 1) [.int .i64 b.x, .int .i64 b.y] 30 := by rw [hW]; exact Box.new (by simp)
 have hw : Below w.heap.size w W1 := by rw [hW]; go_grown
 clear hW
 refine (cp _).mono ?_
 rintro e w2 ⟨rfl, hb⟩
 replace Bp := Bp.ee hb
 replace Ba := Ba.ee hb
 replace Bb := Bb.ee hb
 replace hw := upB hw hb
 clear hb
 have F_pab := J3 Bp.f Ba.f Bb.f
 go_wp2
 go_ret
 exact ⟨rfl, hw⟩
theorem ron_1 (p a b : Pt) (hp : vld p = true) (ha : vld a = false) (w : World) :
    Calls Tryz.prog 142 #[.agg #[.int .i64 p.x, .int .i64 p.y], .agg #[.int .i64 a.x, .int .i64 a.y], .agg #[.int .i64 b.x, .int .i64 b.y]] w fun e w' => e = .returned (.bool false) ∧ Below w.heap.size w w' := by
 have cp := zA5 p
 rw [hp] at cp
 have ca := zA5 a
 rw [ha] at ca
 clear hp ha
 go_enter Tryz.func142, Tryz.ntmps142
 go_wp2_with fail
 refine zA1 fun W1 hW => ?_
 have Bp : Box W1 (w.heap.size) [.int .i64 p.x, .int .i64 p.y] 30 := by rw [hW]; exact ((Box.new rfl).old _).old _
 have Ba : Box W1 (w.heap.size + 1) [.int .i64 a.x, .int .i64 a.y] 30 := by rw [hW]; exact (Box.new (by simp)).old _
 have Bb : Box W1 (w.heap.size + 1 + 1) [.int .i64 b.x, .int .i64 b.y] 30 := by rw [hW]; exact Box.new (by simp)
 have hw : Below w.heap.size w W1 := by rw [hW]; go_grown
 clear hW
 refine (cp _).mono ?_
 rintro e w2 ⟨rfl, hb⟩
 replace Bp := Bp.ee hb
 replace Ba := Ba.ee hb
 replace Bb := Bb.ee hb
 replace hw := upB hw hb
 clear hb
 have F_pab := J3 Bp.f Ba.f Bb.f
 go_wp2_with fail
 refine (ca _).mono ?_
 rintro e w3 ⟨rfl, hb⟩
 clear F_pab
 replace Bp := Bp.ee hb
 replace Ba := Ba.ee hb
 replace Bb := Bb.ee hb
 replace hw := upB hw hb
 clear hb
 have F_pab := J3 Bp.f Ba.f Bb.f
 go_wp2
 go_ret
 exact ⟨rfl, hw⟩
theorem ron_2 (p a b : Pt) (hp : vld p = true) (ha : vld a = true) (hb : vld b = false) (w : World) :
    Calls Tryz.prog 142 #[.agg #[.int .i64 p.x, .int .i64 p.y], .agg #[.int .i64 a.x, .int .i64 a.y], .agg #[.int .i64 b.x, .int .i64 b.y]] w fun e w' => e = .returned (.bool false) ∧ Below w.heap.size w w' := by
 have cp := zA5 p
 rw [hp] at cp
 have ca := zA5 a
 rw [ha] at ca
 have cb := zA5 b
 rw [hb] at cb
 clear hp ha hb
 go_enter Tryz.func142, Tryz.ntmps142
 go_wp2_with fail
 refine zA1 fun W1 hW => ?_
 have Bp : Box W1 (w.heap.size) [.int .i64 p.x, .int .i64 p.y] 30 := by rw [hW]; exact ((Box.new rfl).old _).old _
 have Ba : Box W1 (w.heap.size + 1) [.int .i64 a.x, .int .i64 a.y] 30 := by rw [hW]; exact (Box.new (by simp)).old _
 have Bb : Box W1 (w.heap.size + 1 + 1) [.int .i64 b.x, .int .i64 b.y] 30 := by rw [hW]; exact Box.new (by simp)
 have hw : Below w.heap.size w W1 := by rw [hW]; go_grown
 clear hW
 refine (cp _).mono ?_
 rintro e w2 ⟨rfl, hb⟩
 replace Bp := Bp.ee hb
 replace Ba := Ba.ee hb
 replace Bb := Bb.ee hb
 replace hw := upB hw hb
 clear hb
 have F_pab := J3 Bp.f Ba.f Bb.f
 go_wp2_with fail
 refine (ca _).mono ?_
 rintro e w3 ⟨rfl, hb⟩
 clear F_pab
 replace Bp := Bp.ee hb
 replace Ba := Ba.ee hb
 replace Bb := Bb.ee hb
 replace hw := upB hw hb
 clear hb
 have F_pab := J3 Bp.f Ba.f Bb.f
 go_wp2_with fail
 refine (cb _).mono ?_
 rintro e w4 ⟨rfl, hb⟩
 clear F_pab
 replace Bp := Bp.ee hb
 replace Ba := Ba.ee hb
 replace Bb := Bb.ee hb
 replace hw := upB hw hb
 clear hb
 have F_pab := J3 Bp.f Ba.f Bb.f
 go_wp2
 go_ret
 exact ⟨rfl, hw⟩
theorem ron_3 (p a b : Pt) (hp : vld p = true) (ha : vld a = true) (hb : vld b = true) (h0 : ¬ det a b p = 0) (w : World) :
    Calls Tryz.prog 142 #[.agg #[.int .i64 p.x, .int .i64 p.y], .agg #[.int .i64 a.x, .int .i64 a.y], .agg #[.int .i64 b.x, .int .i64 b.y]] w fun e w' => e = .returned (.bool false) ∧ Below w.heap.size w w' := by
 have cp := zA5 p
 rw [hp] at cp
 have ca := zA5 a
 rw [ha] at ca
 have cb := zA5 b
 rw [hb] at cb
 have ct := zCf a b p ha hb hp
 clear ha hb hp
 generalize det a b p = D at *
 have t0 : (D == 0) = false := by simpa using h0
 clear h0
 go_enter Tryz.func142, Tryz.ntmps142
 go_wp2_with fail
 refine zA1 fun W1 hW => ?_
 have Bp : Box W1 (w.heap.size) [.int .i64 p.x, .int .i64 p.y] 30 := by rw [hW]; exact ((Box.new rfl).old _).old _
 have Ba : Box W1 (w.heap.size + 1) [.int .i64 a.x, .int .i64 a.y] 30 := by rw [hW]; exact (Box.new (by simp)).old _
 have Bb : Box W1 (w.heap.size + 1 + 1) [.int .i64 b.x, .int .i64 b.y] 30 := by rw [hW]; exact Box.new (by simp)
 have hw : Below w.heap.size w W1 := by rw [hW]; go_grown
 clear hW
 refine (cp _).mono ?_
 rintro e w2 ⟨rfl, hb⟩
 replace Bp := Bp.ee hb
 replace Ba := Ba.ee hb
 replace Bb := Bb.ee hb
 replace hw := upB hw hb
 clear hb
 have F_pab := J3 Bp.f Ba.f Bb.f
 go_wp2_with fail
 refine (ca _).mono ?_
 rintro e w3 ⟨rfl, hb⟩
 clear F_pab
 replace Bp := Bp.ee hb
 replace Ba := Ba.ee hb
 replace Bb := Bb.ee hb
 replace hw := upB hw hb
 clear hb
 have F_pab := J3 Bp.f Ba.f Bb.f
 go_wp2_with fail
 refine (cb _).mono ?_
 rintro e w4 ⟨rfl, hb⟩
 clear F_pab
 replace Bp := Bp.ee hb
 replace Ba := Ba.ee hb
 replace Bb := Bb.ee hb
 replace hw := upB hw hb
 clear hb
 have F_pab := J3 Bp.f Ba.f Bb.f
 go_wp2_with fail
 refine (ct _).mono ?_
 rintro e w5 ⟨rfl, hb⟩
 clear F_pab
 replace Bp := Bp.ee hb
 replace Ba := Ba.ee hb
 replace Bb := Bb.ee hb
 replace hw := upB hw hb
 clear hb
 have F_pab := J3 Bp.f Ba.f Bb.f
 go_wp2
 go_ret
 exact ⟨rfl, hw⟩
theorem ron_4 (p a b : Pt) (hp : vld p = true) (ha : vld a = true) (hb : vld b = true) (h0 : det a b p = 0) (h1 : btw p.x a.x b.x = false) (w : World) :
    Calls Tryz.prog 142 #[.agg #[.int .i64 p.x, .int .i64 p.y], .agg #[.int .i64 a.x, .int .i64 a.y], .agg #[.int .i64 b.x, .int .i64 b.y]] w fun e w' => e = .returned (.bool false) ∧ Below w.heap.size w w' := by
 have cp := zA5 p
 rw [hp] at cp
 have ca := zA5 a
 rw [ha] at ca
 have cb := zA5 b
 rw [hb] at cb
 have ct := zCf a b p ha hb hp
 clear ha hb hp
 rw [h0] at ct
 clear h0
 have k1 := zCe (zJf p.x a.x b.x)
 rw [h1] at k1
 clear h1
 go_enter Tryz.func142, Tryz.ntmps142
 go_wp2_with fail
 refine zA1 fun W1 hW => ?_
 have Bp : Box W1 (w.heap.size) [.int .i64 p.x, .int .i64 p.y] 30 := by rw [hW]; exact ((Box.new rfl).old _).old _
 have Ba : Box W1 (w.heap.size + 1) [.int .i64 a.x, .int .i64 a.y] 30 := by rw [hW]; exact (Box.new (by simp)).old _
 have Bb : Box W1 (w.heap.size + 1 + 1) [.int .i64 b.x, .int .i64 b.y] 30 := by rw [hW]; exact Box.new (by simp)
 have hw : Below w.heap.size w W1 := by rw [hW]; go_grown
 clear hW
 refine (cp _).mono ?_
 rintro e w2 ⟨rfl, hb⟩
 replace Bp := Bp.ee hb
 replace Ba := Ba.ee hb
 replace Bb := Bb.ee hb
 replace hw := upB hw hb
 clear hb
 have F_pab := J3 Bp.f Ba.f Bb.f
 go_wp2_with fail
 refine (ca _).mono ?_
 rintro e w3 ⟨rfl, hb⟩
 clear F_pab
 replace Bp := Bp.ee hb
 replace Ba := Ba.ee hb
 replace Bb := Bb.ee hb
 replace hw := upB hw hb
 clear hb
 have F_pab := J3 Bp.f Ba.f Bb.f
 go_wp2_with fail
 refine (cb _).mono ?_
 rintro e w4 ⟨rfl, hb⟩
 clear F_pab
 replace Bp := Bp.ee hb
 replace Ba := Ba.ee hb
 replace Bb := Bb.ee hb
 replace hw := upB hw hb
 clear hb
 have F_pab := J3 Bp.f Ba.f Bb.f
 go_wp2_with fail
 refine (ct _).mono ?_
 rintro e w5 ⟨rfl, hb⟩
 clear F_pab
 replace Bp := Bp.ee hb
 replace Ba := Ba.ee hb
 replace Bb := Bb.ee hb
 replace hw := upB hw hb
 clear hb
 have F_pab := J3 Bp.f Ba.f Bb.f
 go_wp2_with fail
 refine (k1 _).mono ?_
 rintro e w6 ⟨rfl, hb⟩
 clear F_pab
 replace Bp := Bp.ee hb
 replace Ba := Ba.ee hb
 replace Bb := Bb.ee hb
 replace hw := upB hw hb
 clear hb
 have F_pab := J3 Bp.f Ba.f Bb.f
 go_wp2
 go_ret
 exact ⟨rfl, hw⟩
theorem ron_5 (p a b : Pt) (hp : vld p = true) (ha : vld a = true) (hb : vld b = true) (h0 : det a b p = 0) (h1 : btw p.x a.x b.x = true) (w : World) :
    Calls Tryz.prog 142 #[.agg #[.int .i64 p.x, .int .i64 p.y], .agg #[.int .i64 a.x, .int .i64 a.y], .agg #[.int .i64 b.x, .int .i64 b.y]] w fun e w' => e = .returned (.bool (btw p.y a.y b.y)) ∧ Below w.heap.size w w' := by
 have cp := zA5 p
 rw [hp] at cp
 have ca := zA5 a
 rw [ha] at ca
 have cb := zA5 b
 rw [hb] at cb
 have ct := zCf a b p ha hb hp
 clear ha hb hp
 rw [h0] at ct
 clear h0
 have k1 := zCe (zJf p.x a.x b.x)
 rw [h1] at k1
 clear h1
 have k2 := zCe (zJf p.y a.y b.y)
 generalize btw p.y a.y b.y = B at *
 go_enter Tryz.func142, Tryz.ntmps142
 go_wp2_with fail
 refine zA1 fun W1 hW => ?_
 have Bp : Box W1 (w.heap.size) [.int .i64 p.x, .int .i64 p.y] 30 := by rw [hW]; exact ((Box.new rfl).old _).old _
 have Ba : Box W1 (w.heap.size + 1) [.int .i64 a.x, .int .i64 a.y] 30 := by rw [hW]; exact (Box.new (by simp)).old _
 have Bb : Box W1 (w.heap.size + 1 + 1) [.int .i64 b.x, .int .i64 b.y] 30 := by rw [hW]; exact Box.new (by simp)
 have hw : Below w.heap.size w W1 := by rw [hW]; go_grown
 clear hW
 refine (cp _).mono ?_
 rintro e w2 ⟨rfl, hb⟩
 replace Bp := Bp.ee hb
 replace Ba := Ba.ee hb
 replace Bb := Bb.ee hb
 replace hw := upB hw hb
 clear hb
 have F_pab := J3 Bp.f Ba.f Bb.f
 go_wp2_with fail
 refine (ca _).mono ?_
 rintro e w3 ⟨rfl, hb⟩
 clear F_pab
 replace Bp := Bp.ee hb
 replace Ba := Ba.ee hb
 replace Bb := Bb.ee hb
 replace hw := upB hw hb
 clear hb
 have F_pab := J3 Bp.f Ba.f Bb.f
 go_wp2_with fail
 refine (cb _).mono ?_
 rintro e w4 ⟨rfl, hb⟩
 clear F_pab
 replace Bp := Bp.ee hb
 replace Ba := Ba.ee hb
 replace Bb := Bb.ee hb
 replace hw := upB hw hb
 clear hb
 have F_pab := J3 Bp.f Ba.f Bb.f
 go_wp2_with fail
 refine (ct _).mono ?_
 rintro e w5 ⟨rfl, hb⟩
 clear F_pab
 replace Bp := Bp.ee hb
 replace Ba := Ba.ee hb
 replace Bb := Bb.ee hb
 replace hw := upB hw hb
 clear hb
 have F_pab := J3 Bp.f Ba.f Bb.f
 go_wp2_with fail
 refine (k1 _).mono ?_
 rintro e w6 ⟨rfl, hb⟩
 clear F_pab
 replace Bp := Bp.ee hb
 replace Ba := Ba.ee hb
 replace Bb := Bb.ee hb
 replace hw := upB hw hb
 clear hb
 have F_pab := J3 Bp.f Ba.f Bb.f
 go_wp2_with fail
 refine (k2 _).mono ?_
 rintro e w7 ⟨rfl, hb⟩
 clear F_pab
 replace Bp := Bp.ee hb
 replace Ba := Ba.ee hb
 replace Bb := Bb.ee hb
 replace hw := upB hw hb
 clear hb
 have F_pab := J3 Bp.f Ba.f Bb.f
 go_wp2
 go_ret
 exact ⟨rfl, hw⟩
theorem ron_any (p a b : Pt) (w : World) :
    Calls Tryz.prog 142 #[.agg #[.int .i64 p.x, .int .i64 p.y], .agg #[.int .i64 a.x, .int .i64 a.y], .agg #[.int .i64 b.x, .int .i64 b.y]] w fun e w' => e = .returned (.bool (onR p a b)) ∧ Below w.heap.size w w' := by
 cases hp : vld p with
 | false => rw [show onR p a b = false by unfold onR; rw [hp]; rfl]; exact ron_0 p a b hp w
 | true => cases ha : vld a with
  | false => rw [show onR p a b = false by unfold onR; rw [hp, ha]; rfl]; exact ron_1 p a b hp ha w
  | true => cases hb : vld b with
   | false => rw [show onR p a b = false by unfold onR; rw [hp, ha, hb]; rfl]; exact ron_2 p a b hp ha hb w
   | true =>
    by_cases h0 : det a b p = 0
    ·cases h1 : btw p.x a.x b.x with
     | false => rw [show onR p a b = false by unfold onR; rw [hp, ha, hb, h0, h1]; rfl]; exact ron_4 p a b hp ha hb h0 h1 w
     | true => rw [show onR p a b = btw p.y a.y b.y by unfold onR; rw [hp, ha, hb, h0, h1]; rfl]; exact ron_5 p a b hp ha hb h0 h1 w
    ·rw [show onR p a b = false by unfold onR; rw [hp, ha, hb]; simp [h0]]; exact ron_3 p a b hp ha hb h0 w
def rl (p q : Pt) : Pt := if cmpP p q < 0 then p else q
theorem rl_0 (p q : Pt) (h : decide (cmpP p q < 0) = false) (w : World) :
    Calls Tryz.prog 108 #[.agg #[.int .i64 p.x, .int .i64 p.y], .agg #[.int .i64 q.x, .int .i64 q.y]] w fun e w' => e = .returned (.agg #[.int .i64 q.x, .int .i64 q.y]) ∧ Below w.heap.size w w' := by
 have c := zAb p q
 generalize cmpP p q = n at *
 go_enter Tryz.func108, Tryz.ntmps108
 go_wp2_with fail
 refine zA1 fun W1 hW => ?_
 have Bp : Box W1 (w.heap.size) [.int .i64 p.x, .int .i64 p.y] 30 := by rw [hW]; exact ((Box.new rfl).old _).old _
 have Bq : Box W1 (w.heap.size + 1) [.int .i64 q.x, .int .i64 q.y] 30 := by rw [hW]; exact (Box.new (by simp)).old _
 have Br : Box W1 (w.heap.size + 1 + 1) [.int .i64 0, .int .i64 0] 30 := by rw [hW]; exact Box.new (by simp)
 have hw : Below w.heap.size w W1 := by rw [hW]; go_grown
 clear hW
 refine (c _).mono ?_
 rintro e w2 ⟨rfl, hb⟩
 replace Bp := Bp.ee hb
 replace Bq := Bq.ee hb
 replace Br := Br.ee hb
 replace hw := upB hw hb
 clear hb
 have Fp := Bp.f
 have Fq := Bq.f
 have Fr := Br.f
 go_wp2_with fail
 refine bodyPost_ret (v := .agg #[.int .i64 q.x, .int .i64 q.y]) (by simp [results, Tryz.results108, go_sem, Fr]) rfl ⟨rfl, by have hl := hw.size; go_grown⟩
theorem rl_1 (p q : Pt) (h : decide (cmpP p q < 0) = true) (w : World) :
    Calls Tryz.prog 108 #[.agg #[.int .i64 p.x, .int .i64 p.y], .agg #[.int .i64 q.x, .int .i64 q.y]] w fun e w' => e = .returned (.agg #[.int .i64 p.x, .int .i64 p.y]) ∧ Below w.heap.size w w' := by
 have c := zAb p q
 generalize cmpP p q = n at *
 go_enter Tryz.func108, Tryz.ntmps108
 go_wp2_with fail
 refine zA1 fun W1 hW => ?_
 have Bp : Box W1 (w.heap.size) [.int .i64 p.x, .int .i64 p.y] 30 := by rw [hW]; exact ((Box.new rfl).old _).old _
 have Bq : Box W1 (w.heap.size + 1) [.int .i64 q.x, .int .i64 q.y] 30 := by rw [hW]; exact (Box.new (by simp)).old _
 have Br : Box W1 (w.heap.size + 1 + 1) [.int .i64 0, .int .i64 0] 30 := by rw [hW]; exact Box.new (by simp)
 have hw : Below w.heap.size w W1 := by rw [hW]; go_grown
 clear hW
 refine (c _).mono ?_
 rintro e w2 ⟨rfl, hb⟩
 replace Bp := Bp.ee hb
 replace Bq := Bq.ee hb
 replace Br := Br.ee hb
 replace hw := upB hw hb
 clear hb
 have Fp := Bp.f
 have Fq := Bq.f
 have Fr := Br.f
 go_wp2_with fail
 refine bodyPost_ret (v := .agg #[.int .i64 p.x, .int .i64 p.y]) (by simp [results, Tryz.results108, go_sem, Fr]) rfl ⟨rfl, by have hl := hw.size; go_grown⟩
theorem zKa (p q : Pt) (w : World) :
    Calls Tryz.prog 108 #[.agg #[.int .i64 p.x, .int .i64 p.y], .agg #[.int .i64 q.x, .int .i64 q.y]] w fun e w' => e = .returned (.agg #[.int .i64 (rl p q).x, .int .i64 (rl p q).y]) ∧ Below w.heap.size w w' := by
 by_cases h : cmpP p q < 0
 ·rw [show rl p q = p by unfold rl; rw [if_pos h]]; exact rl_1 p q (by simpa using h) w
 ·rw [show rl p q = q by unfold rl; rw [if_neg h]]; exact rl_0 p q (by simpa using h) w
def rg (p q : Pt) : Pt := if cmpP p q < 0 then q else p
theorem rg_0 (p q : Pt) (h : decide (cmpP p q < 0) = false) (w : World) :
    Calls Tryz.prog 109 #[.agg #[.int .i64 p.x, .int .i64 p.y], .agg #[.int .i64 q.x, .int .i64 q.y]] w fun e w' => e = .returned (.agg #[.int .i64 p.x, .int .i64 p.y]) ∧ Below w.heap.size w w' := by
 have c := zAb p q
 generalize cmpP p q = n at *
 go_enter Tryz.func109, Tryz.ntmps109
 go_wp2_with fail
 refine zA1 fun W1 hW => ?_
 have Bp : Box W1 (w.heap.size) [.int .i64 p.x, .int .i64 p.y] 30 := by rw [hW]; exact ((Box.new rfl).old _).old _
 have Bq : Box W1 (w.heap.size + 1) [.int .i64 q.x, .int .i64 q.y] 30 := by rw [hW]; exact (Box.new (by simp)).old _
 have Br : Box W1 (w.heap.size + 1 + 1) [.int .i64 0, .int .i64 0] 30 := by rw [hW]; exact Box.new (by simp)
 have hw : Below w.heap.size w W1 := by rw [hW]; go_grown
 clear hW
 refine (c _).mono ?_
 rintro e w2 ⟨rfl, hb⟩
 replace Bp := Bp.ee hb
 replace Bq := Bq.ee hb
 replace Br := Br.ee hb
 replace hw := upB hw hb
 clear hb
 have Fp := Bp.f
 have Fq := Bq.f
 have Fr := Br.f
 go_wp2_with fail
 refine bodyPost_ret (v := .agg #[.int .i64 p.x, .int .i64 p.y]) (by simp [results, Tryz.results109, go_sem, Fr]) rfl ⟨rfl, by have hl := hw.size; go_grown⟩
theorem rg_1 (p q : Pt) (h : decide (cmpP p q < 0) = true) (w : World) :
    Calls Tryz.prog 109 #[.agg #[.int .i64 p.x, .int .i64 p.y], .agg #[.int .i64 q.x, .int .i64 q.y]] w fun e w' => e = .returned (.agg #[.int .i64 q.x, .int .i64 q.y]) ∧ Below w.heap.size w w' := by
 have c := zAb p q
 generalize cmpP p q = n at *
 go_enter Tryz.func109, Tryz.ntmps109
 go_wp2_with fail
 refine zA1 fun W1 hW => ?_
 have Bp : Box W1 (w.heap.size) [.int .i64 p.x, .int .i64 p.y] 30 := by rw [hW]; exact ((Box.new rfl).old _).old _
 have Bq : Box W1 (w.heap.size + 1) [.int .i64 q.x, .int .i64 q.y] 30 := by rw [hW]; exact (Box.new (by simp)).old _
 have Br : Box W1 (w.heap.size + 1 + 1) [.int .i64 0, .int .i64 0] 30 := by rw [hW]; exact Box.new (by simp)
 have hw : Below w.heap.size w W1 := by rw [hW]; go_grown
 clear hW
 refine (c _).mono ?_
 rintro e w2 ⟨rfl, hb⟩
 replace Bp := Bp.ee hb
 replace Bq := Bq.ee hb
 replace Br := Br.ee hb
 replace hw := upB hw hb
 clear hb
 have Fp := Bp.f
 have Fq := Bq.f
 have Fr := Br.f
 go_wp2_with fail
 refine bodyPost_ret (v := .agg #[.int .i64 q.x, .int .i64 q.y]) (by simp [results, Tryz.results109, go_sem, Fr]) rfl ⟨rfl, by have hl := hw.size; go_grown⟩
theorem zKb (p q : Pt) (w : World) :
    Calls Tryz.prog 109 #[.agg #[.int .i64 p.x, .int .i64 p.y], .agg #[.int .i64 q.x, .int .i64 q.y]] w fun e w' => e = .returned (.agg #[.int .i64 (rg p q).x, .int .i64 (rg p q).y]) ∧ Below w.heap.size w w' := by
 by_cases h : cmpP p q < 0
 ·rw [show rg p q = q by unfold rg; rw [if_pos h]]; exact rg_1 p q (by simpa using h) w
 ·rw [show rg p q = p by unfold rg; rw [if_neg h]]; exact rg_0 p q (by simpa using h) w
end Go.Proofs.YtmobnmjjmafibaaGreat
