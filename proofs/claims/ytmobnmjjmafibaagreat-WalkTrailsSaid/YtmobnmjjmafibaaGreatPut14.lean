/- Put together: ReB, WlkT, WlkN, WlkD, WlkV, WlkF, WlkC1, ReE, ReM. -/
import Derived.Test.YtmobnmjjmafibaaGreatRows
import Derived.Test.YtmobnmjjmafibaaGreatPut8
import Derived.Test.YtmobnmjjmafibaaGreatPut0
import Derived.WalkKit
import Derived.WalkSpells
import Derived.WalkLawsBesides
import Derived.Laws.Externs
import Derived.Deep.QuietTactic
import Derived.BigQuiet
import Derived.Lib.Hide
import Derived.Handy
import Derived.LoopN
import Derived.RegionTactic
import Derived.Deep.RegionHeld3
import Derived.Test.YtmobnmjjmafibaaGreatPut2
import Derived.Test.YtmobnmjjmafibaaGreatPut5
import Derived.Test.YtmobnmjjmafibaaGreatPut13
import Derived.OwnWalk
import Derived.Maps.RangeWalk
import Derived.Test.YtmobnmjjmafibaaGreatPut9
import Derived.Test.YtmobnmjjmafibaaGreatPut11
import Derived.Deep.Cut
import Derived.Deep.CutBlock
import Derived.LoopTactic
import Derived.Test.YtmobnmjjmafibaaGreatPut3
import Derived.Test.YtmobnmjjmafibaaGreatPut1
set_option maxRecDepth 100000
set_option maxHeartbeats 8000000
namespace Go.Proofs.YtmobnmjjmafibaaGreat
open Go.RowKit Go.Sort
attribute [local go_sem] rOper rAt rUpon cell_set sg_i64 sg_u64 alloc_cell alloc_frozen
attribute [local go_sem 10000] pt_eql pt_neq tri_eql
attribute [local go_sem ↓ 10000] run_mnA run_mxA run_mn2 run_mx2
attribute [local irreducible] rWalk
def ls2 (T : Tri3) (a b : Pt) : Int := mn2 (mn2 (mn2 1 (lm2 T.A T.B a b)) (lm2 T.B T.C a b)) (lm2 T.C T.A a b)
theorem zIq (T : Tri3) (a b : Pt) (w : World) (bk : Nat) (hB : Box w bk [.int .i64 a.x, .int .i64 a.y, .int .i64 b.x, .int .i64 b.y] 30) :
    Calls Tryz.prog 137 #[.agg #[.int .i64 T.A.x, .int .i64 T.A.y, .int .i64 T.B.x, .int .i64 T.B.y, .int .i64 T.C.x, .int .i64 T.C.y], .slice (some ⟨bk, 0, none⟩) 2 2] w fun e w' => e = .returned (.int .i64 (ls2 T a b)) ∧ Below w.heap.size w w' := by
 have e0 := zAs T 0
 rw [show crn T 0 = T.A from rfl, show crn T (0 + 1) = T.B from rfl] at e0
 have e1 := zAs T 1
 rw [show crn T 1 = T.B from rfl, show crn T (1 + 1) = T.C from rfl] at e1
 have e2 := zAs T 2
 rw [show crn T 2 = T.C from rfl, show crn T (2 + 1) = T.A from rfl] at e2
 have l0 := zIr T.A T.B a b
 have l1 := zIr T.B T.C a b
 have l2 := zIr T.C T.A a b
 unfold ls2
 generalize lm2 T.A T.B a b = m0 at *
 generalize lm2 T.B T.C a b = m1 at *
 generalize lm2 T.C T.A a b = m2 at *
 have Bl := hB; clear hB
 have Fl := Bl.facts
 have hw := Below.refl w.heap.size w
 go_enter Tryz.func137, Tryz.ntmps137
 go_wp2_with fail
 refine zA2 fun W1 hW => ?_
 obtain ⟨bkt, hbt⟩ : ∃ b, w.heap.size = b := ⟨_, rfl⟩
 rw [hbt]
 have llt := Bl.lt
 rw [hbt] at llt
 have ft := hw.size
 rw [hbt] at ft
 have Bt : Box W1 bkt [.int .i64 T.A.x, .int .i64 T.A.y, .int .i64 T.B.x, .int .i64 T.B.y, .int .i64 T.C.x, .int .i64 T.C.y] 38 := by rw [hW]; exact Box.new hbt.symm
 replace Bl : Box W1 (bk) [.int .i64 a.x, .int .i64 a.y, .int .i64 b.x, .int .i64 b.y] 30 := by rw [hW]; exact Bl.old _
 replace hw : Below w.heap.size w W1 := by have hl := hw.size; rw [hW]; go_grown
 clear hW hbt
 refine wp_loop_rounds 5 ?_
 try rw [rounds_succ]
 have Fl := Bl.facts
 have Ft := Bt.facts
 go_wp2_with fail
 refine (e0 _).mono ?_
 rintro e w2 ⟨rfl, hb⟩
 clear Fl Ft
 replace Bl := Bl.ee hb
 replace Bt := Bt.ee hb
 replace hw := upB hw hb
 clear hb
 have Fl := Bl.facts
 have Ft := Bt.facts
 go_wp2_with fail
 refine zA1 fun W3 hW => ?_
 obtain ⟨bkp0, hbp0⟩ : ∃ b, w2.heap.size = b := ⟨_, rfl⟩
 rw [hbp0]
 have llp0 := Bl.lt
 rw [hbp0] at llp0
 have ltp0 := Bt.lt
 rw [hbp0] at ltp0
 have fp0 := hw.size
 rw [hbp0] at fp0
 have Bp0 : Box W3 (bkp0) [.int .i64 T.A.x, .int .i64 T.A.y] 30 := by rw [hW, ← hbp0]; exact (Box.new rfl).old _
 have Bq0 : Box W3 (bkp0 + 1) [.int .i64 T.B.x, .int .i64 T.B.y] 30 := by rw [hW, ← hbp0]; exact Box.new (by simp)
 replace Bl : Box W3 (bk) [.int .i64 a.x, .int .i64 a.y, .int .i64 b.x, .int .i64 b.y] 30 := by rw [hW]; exact ((Bl).old _).old _
 replace Bt : Box W3 (bkt) [.int .i64 T.A.x, .int .i64 T.A.y, .int .i64 T.B.x, .int .i64 T.B.y, .int .i64 T.C.x, .int .i64 T.C.y] 38 := by rw [hW]; exact ((Bt).old _).old _
 replace hw : Below w.heap.size w W3 := by have hl := hw.size; rw [hW]; go_grown
 clear hW hbp0
 refine (l0 _ bk Bl).mono ?_
 rintro e w4 ⟨rfl, hb⟩
 clear Fl Ft
 replace Bl := Bl.ee hb
 replace Bt := Bt.ee hb
 replace Bp0 := Bp0.ee hb
 replace Bq0 := Bq0.ee hb
 replace hw := upB hw hb
 clear hb
 clear Bp0
 clear Bq0
 have Fl := Bl.facts
 have Ft := Bt.facts
 go_wp2_with fail
 try rw [rounds_succ]
 go_wp2_with fail
 refine (e1 _).mono ?_
 rintro e w5 ⟨rfl, hb⟩
 clear Fl Ft
 replace Bl := Bl.ee hb
 replace Bt := Bt.ee hb
 replace hw := upB hw hb
 clear hb
 have Fl := Bl.facts
 have Ft := Bt.facts
 go_wp2_with fail
 refine zA1 fun W6 hW => ?_
 obtain ⟨bkp1, hbp1⟩ : ∃ b, w5.heap.size = b := ⟨_, rfl⟩
 rw [hbp1]
 have llp1 := Bl.lt
 rw [hbp1] at llp1
 have ltp1 := Bt.lt
 rw [hbp1] at ltp1
 have fp1 := hw.size
 rw [hbp1] at fp1
 have Bp1 : Box W6 (bkp1) [.int .i64 T.B.x, .int .i64 T.B.y] 30 := by rw [hW, ← hbp1]; exact (Box.new rfl).old _
 have Bq1 : Box W6 (bkp1 + 1) [.int .i64 T.C.x, .int .i64 T.C.y] 30 := by rw [hW, ← hbp1]; exact Box.new (by simp)
 replace Bl : Box W6 (bk) [.int .i64 a.x, .int .i64 a.y, .int .i64 b.x, .int .i64 b.y] 30 := by rw [hW]; exact ((Bl).old _).old _
 replace Bt : Box W6 (bkt) [.int .i64 T.A.x, .int .i64 T.A.y, .int .i64 T.B.x, .int .i64 T.B.y, .int .i64 T.C.x, .int .i64 T.C.y] 38 := by rw [hW]; exact ((Bt).old _).old _
 replace hw : Below w.heap.size w W6 := by have hl := hw.size; rw [hW]; go_grown
 clear hW hbp1
 refine (l1 _ bk Bl).mono ?_
 rintro e w7 ⟨rfl, hb⟩
 clear Fl Ft
 replace Bl := Bl.ee hb
 replace Bt := Bt.ee hb
 replace Bp1 := Bp1.ee hb
 replace Bq1 := Bq1.ee hb
 replace hw := upB hw hb
 clear hb
 clear Bp1
 clear Bq1
 have Fl := Bl.facts
 have Ft := Bt.facts
 go_wp2_with fail
 try rw [rounds_succ]
 go_wp2_with fail
 refine (e2 _).mono ?_
 rintro e w8 ⟨rfl, hb⟩
 clear Fl Ft
 replace Bl := Bl.ee hb
 replace Bt := Bt.ee hb
 replace hw := upB hw hb
 clear hb
 have Fl := Bl.facts
 have Ft := Bt.facts
 go_wp2_with fail
 refine zA1 fun W9 hW => ?_
 obtain ⟨bkp2, hbp2⟩ : ∃ b, w8.heap.size = b := ⟨_, rfl⟩
 rw [hbp2]
 have llp2 := Bl.lt
 rw [hbp2] at llp2
 have ltp2 := Bt.lt
 rw [hbp2] at ltp2
 have fp2 := hw.size
 rw [hbp2] at fp2
 have Bp2 : Box W9 (bkp2) [.int .i64 T.C.x, .int .i64 T.C.y] 30 := by rw [hW, ← hbp2]; exact (Box.new rfl).old _
 have Bq2 : Box W9 (bkp2 + 1) [.int .i64 T.A.x, .int .i64 T.A.y] 30 := by rw [hW, ← hbp2]; exact Box.new (by simp)
 replace Bl : Box W9 (bk) [.int .i64 a.x, .int .i64 a.y, .int .i64 b.x, .int .i64 b.y] 30 := by rw [hW]; exact ((Bl).old _).old _
 replace Bt : Box W9 (bkt) [.int .i64 T.A.x, .int .i64 T.A.y, .int .i64 T.B.x, .int .i64 T.B.y, .int .i64 T.C.x, .int .i64 T.C.y] 38 := by rw [hW]; exact ((Bt).old _).old _
 replace hw : Below w.heap.size w W9 := by have hl := hw.size; rw [hW]; go_grown
 clear hW hbp2
 refine (l2 _ bk Bl).mono ?_
 rintro e w10 ⟨rfl, hb⟩
 clear Fl Ft
 replace Bl := Bl.ee hb
 replace Bt := Bt.ee hb
 replace Bp2 := Bp2.ee hb
 replace Bq2 := Bq2.ee hb
 replace hw := upB hw hb
 clear hb
 clear Bp2
 clear Bq2
 have Fl := Bl.facts
 have Ft := Bt.facts
 go_wp2_with fail
 try rw [rounds_succ]
 go_wp2
 go_ret
 exact ⟨rfl, by have hl := hw.size; go_grown⟩
def thr (T : Tri3) (a b : Pt) : Bool := decide (0 < lm3 a b T.A T.B T.C) && (decide (0 < lm3 b a T.A T.B T.C) && decide (0 < ls2 T a b))
theorem thr_0 (T : Tri3) (a b : Pt) (h0 : decide (0 < lm3 a b T.A T.B T.C) = false) (w : World) :
    Calls Tryz.prog 104 #[.agg #[.int .i64 T.A.x, .int .i64 T.A.y, .int .i64 T.B.x, .int .i64 T.B.y, .int .i64 T.C.x, .int .i64 T.C.y], .agg #[.int .i64 a.x, .int .i64 a.y], .agg #[.int .i64 b.x, .int .i64 b.y]] w fun e w' => e = .returned (.bool false) ∧ Below w.heap.size w w' := by
 have l0 := zF2 a b T.A T.B T.C
 have l1 := zF2 b a T.A T.B T.C
 have l2 := zIq T a b
 generalize lm3 a b T.A T.B T.C = m0 at *
 generalize lm3 b a T.A T.B T.C = m1 at *
 generalize ls2 T a b = m2 at *
 go_enter Tryz.func104, Tryz.ntmps104
 go_wp2_with fail
 refine zA1 fun W1 hW => ?_
 have Bt : Box W1 (w.heap.size) [.int .i64 T.A.x, .int .i64 T.A.y, .int .i64 T.B.x, .int .i64 T.B.y, .int .i64 T.C.x, .int .i64 T.C.y] 38 := by rw [hW]; exact (((Box.new rfl).old _).old _).old _
 have Ba : Box W1 (w.heap.size + 1) [.int .i64 a.x, .int .i64 a.y] 30 := by rw [hW]; exact ((Box.new (by simp)).old _).old _
 have Bb : Box W1 (w.heap.size + 1 + 1) [.int .i64 b.x, .int .i64 b.y] 30 := by rw [hW]; exact (Box.new (by simp)).old _
 have Bo : Box W1 (w.heap.size + 1 + 1 + 1) [.int .i64 T.A.x, .int .i64 T.A.y, .int .i64 T.B.x, .int .i64 T.B.y, .int .i64 T.C.x, .int .i64 T.C.y] 30 := by rw [hW]; exact Box.new (by simp)
 have hw : Below w.heap.size w W1 := by rw [hW]; go_grown
 clear hW
 refine (l0 _ _ Bo).mono ?_
 rintro e w2 ⟨rfl, hb⟩
 replace Bt := Bt.ee hb
 replace Ba := Ba.ee hb
 replace Bb := Bb.ee hb
 replace Bo := Bo.ee hb
 replace hw := upB hw hb
 clear hb
 have Ft := Bt.facts
 have Fa := Ba.facts
 have Fb := Bb.facts
 have Fo := Bo.facts
 go_wp2
 go_ret
 exact ⟨rfl, by have hl := hw.size; go_grown⟩
theorem thr_1 (T : Tri3) (a b : Pt) (h0 : decide (0 < lm3 a b T.A T.B T.C) = true) (h1 : decide (0 < lm3 b a T.A T.B T.C) = false) (w : World) :
    Calls Tryz.prog 104 #[.agg #[.int .i64 T.A.x, .int .i64 T.A.y, .int .i64 T.B.x, .int .i64 T.B.y, .int .i64 T.C.x, .int .i64 T.C.y], .agg #[.int .i64 a.x, .int .i64 a.y], .agg #[.int .i64 b.x, .int .i64 b.y]] w fun e w' => e = .returned (.bool false) ∧ Below w.heap.size w w' := by
 have l0 := zF2 a b T.A T.B T.C
 have l1 := zF2 b a T.A T.B T.C
 have l2 := zIq T a b
 generalize lm3 a b T.A T.B T.C = m0 at *
 generalize lm3 b a T.A T.B T.C = m1 at *
 generalize ls2 T a b = m2 at *
 go_enter Tryz.func104, Tryz.ntmps104
 go_wp2_with fail
 refine zA1 fun W1 hW => ?_
 have Bt : Box W1 (w.heap.size) [.int .i64 T.A.x, .int .i64 T.A.y, .int .i64 T.B.x, .int .i64 T.B.y, .int .i64 T.C.x, .int .i64 T.C.y] 38 := by rw [hW]; exact (((Box.new rfl).old _).old _).old _
 have Ba : Box W1 (w.heap.size + 1) [.int .i64 a.x, .int .i64 a.y] 30 := by rw [hW]; exact ((Box.new (by simp)).old _).old _
 have Bb : Box W1 (w.heap.size + 1 + 1) [.int .i64 b.x, .int .i64 b.y] 30 := by rw [hW]; exact (Box.new (by simp)).old _
 have Bo : Box W1 (w.heap.size + 1 + 1 + 1) [.int .i64 T.A.x, .int .i64 T.A.y, .int .i64 T.B.x, .int .i64 T.B.y, .int .i64 T.C.x, .int .i64 T.C.y] 30 := by rw [hW]; exact Box.new (by simp)
 have hw : Below w.heap.size w W1 := by rw [hW]; go_grown
 clear hW
 refine (l0 _ _ Bo).mono ?_
 rintro e w2 ⟨rfl, hb⟩
 replace Bt := Bt.ee hb
 replace Ba := Ba.ee hb
 replace Bb := Bb.ee hb
 replace Bo := Bo.ee hb
 replace hw := upB hw hb
 clear hb
 have Ft := Bt.facts
 have Fa := Ba.facts
 have Fb := Bb.facts
 have Fo := Bo.facts
 go_wp2_with fail
 refine (l1 _ _ Bo).mono ?_
 rintro e w3 ⟨rfl, hb⟩
 clear Ft Fa Fb Fo
 replace Bt := Bt.ee hb
 replace Ba := Ba.ee hb
 replace Bb := Bb.ee hb
 replace Bo := Bo.ee hb
 replace hw := upB hw hb
 clear hb
 have Ft := Bt.facts
 have Fa := Ba.facts
 have Fb := Bb.facts
 have Fo := Bo.facts
 go_wp2
 go_ret
 exact ⟨rfl, by have hl := hw.size; go_grown⟩
theorem thr_2 (T : Tri3) (a b : Pt) (h0 : decide (0 < lm3 a b T.A T.B T.C) = true) (h1 : decide (0 < lm3 b a T.A T.B T.C) = true) (w : World) :
    Calls Tryz.prog 104 #[.agg #[.int .i64 T.A.x, .int .i64 T.A.y, .int .i64 T.B.x, .int .i64 T.B.y, .int .i64 T.C.x, .int .i64 T.C.y], .agg #[.int .i64 a.x, .int .i64 a.y], .agg #[.int .i64 b.x, .int .i64 b.y]] w fun e w' => e = .returned (.bool (decide (0 < ls2 T a b))) ∧ Below w.heap.size w w' := by
 have l0 := zF2 a b T.A T.B T.C
 have l1 := zF2 b a T.A T.B T.C
 have l2 := zIq T a b
 generalize lm3 a b T.A T.B T.C = m0 at *
 generalize lm3 b a T.A T.B T.C = m1 at *
 generalize ls2 T a b = m2 at *
 go_enter Tryz.func104, Tryz.ntmps104
 go_wp2_with fail
 refine zA1 fun W1 hW => ?_
 have Bt : Box W1 (w.heap.size) [.int .i64 T.A.x, .int .i64 T.A.y, .int .i64 T.B.x, .int .i64 T.B.y, .int .i64 T.C.x, .int .i64 T.C.y] 38 := by rw [hW]; exact (((Box.new rfl).old _).old _).old _
 have Ba : Box W1 (w.heap.size + 1) [.int .i64 a.x, .int .i64 a.y] 30 := by rw [hW]; exact ((Box.new (by simp)).old _).old _
 have Bb : Box W1 (w.heap.size + 1 + 1) [.int .i64 b.x, .int .i64 b.y] 30 := by rw [hW]; exact (Box.new (by simp)).old _
 have Bo : Box W1 (w.heap.size + 1 + 1 + 1) [.int .i64 T.A.x, .int .i64 T.A.y, .int .i64 T.B.x, .int .i64 T.B.y, .int .i64 T.C.x, .int .i64 T.C.y] 30 := by rw [hW]; exact Box.new (by simp)
 have hw : Below w.heap.size w W1 := by rw [hW]; go_grown
 clear hW
 refine (l0 _ _ Bo).mono ?_
 rintro e w2 ⟨rfl, hb⟩
 replace Bt := Bt.ee hb
 replace Ba := Ba.ee hb
 replace Bb := Bb.ee hb
 replace Bo := Bo.ee hb
 replace hw := upB hw hb
 clear hb
 have Ft := Bt.facts
 have Fa := Ba.facts
 have Fb := Bb.facts
 have Fo := Bo.facts
 go_wp2_with fail
 refine (l1 _ _ Bo).mono ?_
 rintro e w3 ⟨rfl, hb⟩
 clear Ft Fa Fb Fo
 replace Bt := Bt.ee hb
 replace Ba := Ba.ee hb
 replace Bb := Bb.ee hb
 replace Bo := Bo.ee hb
 replace hw := upB hw hb
 clear hb
 have Ft := Bt.facts
 have Fa := Ba.facts
 have Fb := Bb.facts
 have Fo := Bo.facts
 go_wp2_with fail
 refine zA1 fun W4 hW => ?_
 obtain ⟨bks, hbs⟩ : ∃ b, w3.heap.size = b := ⟨_, rfl⟩
 rw [hbs]
 have lts := Bt.lt
 rw [hbs] at lts
 have las := Ba.lt
 rw [hbs] at las
 have lbs := Bb.lt
 rw [hbs] at lbs
 have los := Bo.lt
 rw [hbs] at los
 have fs := hw.size
 rw [hbs] at fs
 have Bs : Box W4 bks [.int .i64 a.x, .int .i64 a.y, .int .i64 b.x, .int .i64 b.y] 30 := by rw [hW]; exact Box.new hbs.symm
 replace Bt : Box W4 (w.heap.size) [.int .i64 T.A.x, .int .i64 T.A.y, .int .i64 T.B.x, .int .i64 T.B.y, .int .i64 T.C.x, .int .i64 T.C.y] 38 := by rw [hW]; exact Bt.old _
 replace Ba : Box W4 (w.heap.size + 1) [.int .i64 a.x, .int .i64 a.y] 30 := by rw [hW]; exact Ba.old _
 replace Bb : Box W4 (w.heap.size + 1 + 1) [.int .i64 b.x, .int .i64 b.y] 30 := by rw [hW]; exact Bb.old _
 replace Bo : Box W4 (w.heap.size + 1 + 1 + 1) [.int .i64 T.A.x, .int .i64 T.A.y, .int .i64 T.B.x, .int .i64 T.B.y, .int .i64 T.C.x, .int .i64 T.C.y] 30 := by rw [hW]; exact Bo.old _
 replace hw : Below w.heap.size w W4 := by have hl := hw.size; rw [hW]; go_grown
 clear hW hbs
 refine (l2 _ bks Bs).mono ?_
 rintro e w5 ⟨rfl, hb⟩
 clear Ft Fa Fb Fo
 replace Bt := Bt.ee hb
 replace Ba := Ba.ee hb
 replace Bb := Bb.ee hb
 replace Bo := Bo.ee hb
 replace Bs := Bs.ee hb
 replace hw := upB hw hb
 clear hb
 have Ft := Bt.facts
 have Fa := Ba.facts
 have Fb := Bb.facts
 have Fo := Bo.facts
 have Fs := Bs.facts
 go_wp2
 go_ret
 exact ⟨rfl, by have hl := hw.size; go_grown⟩
theorem zG7 (T : Tri3) (a b : Pt) (w : World) :
    Calls Tryz.prog 104 #[.agg #[.int .i64 T.A.x, .int .i64 T.A.y, .int .i64 T.B.x, .int .i64 T.B.y, .int .i64 T.C.x, .int .i64 T.C.y], .agg #[.int .i64 a.x, .int .i64 a.y], .agg #[.int .i64 b.x, .int .i64 b.y]] w fun e w' => e = .returned (.bool (thr T a b)) ∧ Below w.heap.size w w' := by
 unfold thr
 cases h0 : decide (0 < lm3 a b T.A T.B T.C) with
 | false => exact thr_0 T a b h0 w
 | true => cases h1 : decide (0 < lm3 b a T.A T.B T.C) with
  | false => exact thr_1 T a b h0 h1 w
  | true => exact thr_2 T a b h0 h1 w
def oed (T : Tri3) (a b : Pt) : Bool := (meetS a b T.A T.B == 3) || ((meetS a b T.B T.C == 3) || (meetS a b T.C T.A == 3))
theorem oed_0 (T : Tri3) (a b : Pt) (h0 : (meetS a b T.A T.B == 3) = true) (w : World) :
    Calls Tryz.prog 105 #[.agg #[.int .i64 T.A.x, .int .i64 T.A.y, .int .i64 T.B.x, .int .i64 T.B.y, .int .i64 T.C.x, .int .i64 T.C.y], .agg #[.int .i64 a.x, .int .i64 a.y], .agg #[.int .i64 b.x, .int .i64 b.y]] w fun e w' => e = .returned (.bool true) ∧ Below w.heap.size w w' := by
 have e0 := zAs T 0
 rw [show crn T 0 = T.A from rfl, show crn T (0 + 1) = T.B from rfl] at e0
 have e1 := zAs T 1
 rw [show crn T 1 = T.B from rfl, show crn T (1 + 1) = T.C from rfl] at e1
 have e2 := zAs T 2
 rw [show crn T 2 = T.C from rfl, show crn T (2 + 1) = T.A from rfl] at e2
 have m0 := zBm a b T.A T.B
 have m1 := zBm a b T.B T.C
 have m2 := zBm a b T.C T.A
 generalize meetS a b T.A T.B = n0 at *
 generalize meetS a b T.B T.C = n1 at *
 generalize meetS a b T.C T.A = n2 at *
 go_enter Tryz.func105, Tryz.ntmps105
 go_wp2_with fail
 refine zA2 fun W1 hW => ?_
 have Bt : Box W1 (w.heap.size) [.int .i64 T.A.x, .int .i64 T.A.y, .int .i64 T.B.x, .int .i64 T.B.y, .int .i64 T.C.x, .int .i64 T.C.y] 38 := by rw [hW]; exact ((Box.new rfl).old _).old _
 have Ba : Box W1 (w.heap.size + 1) [.int .i64 a.x, .int .i64 a.y] 30 := by rw [hW]; exact (Box.new (by simp)).old _
 have Bb : Box W1 (w.heap.size + 1 + 1) [.int .i64 b.x, .int .i64 b.y] 30 := by rw [hW]; exact Box.new (by simp)
 have hw : Below w.heap.size w W1 := by rw [hW]; go_grown
 clear hW
 refine wp_loop_rounds 5 ?_
 try rw [rounds_succ]
 have Ft := Bt.facts
 have Fa := Ba.facts
 have Fb := Bb.facts
 go_wp2_with fail
 refine (e0 _).mono ?_
 rintro e w2 ⟨rfl, hb⟩
 clear Ft Fa Fb
 replace Bt := Bt.ee hb
 replace Ba := Ba.ee hb
 replace Bb := Bb.ee hb
 replace hw := upB hw hb
 clear hb
 have Ft := Bt.facts
 have Fa := Ba.facts
 have Fb := Bb.facts
 go_wp2_with fail
 refine zA1 fun W3 hW => ?_
 obtain ⟨bkp0, hbp0⟩ : ∃ b, w2.heap.size = b := ⟨_, rfl⟩
 rw [hbp0]
 have ltp0 := Bt.lt
 rw [hbp0] at ltp0
 have lap0 := Ba.lt
 rw [hbp0] at lap0
 have lbp0 := Bb.lt
 rw [hbp0] at lbp0
 have fp0 := hw.size
 rw [hbp0] at fp0
 have Bp0 : Box W3 (bkp0) [.int .i64 T.A.x, .int .i64 T.A.y] 30 := by rw [hW, ← hbp0]; exact (Box.new rfl).old _
 have Bq0 : Box W3 (bkp0 + 1) [.int .i64 T.B.x, .int .i64 T.B.y] 30 := by rw [hW, ← hbp0]; exact Box.new (by simp)
 replace Bt : Box W3 (w.heap.size) [.int .i64 T.A.x, .int .i64 T.A.y, .int .i64 T.B.x, .int .i64 T.B.y, .int .i64 T.C.x, .int .i64 T.C.y] 38 := by rw [hW]; exact ((Bt).old _).old _
 replace Ba : Box W3 (w.heap.size + 1) [.int .i64 a.x, .int .i64 a.y] 30 := by rw [hW]; exact ((Ba).old _).old _
 replace Bb : Box W3 (w.heap.size + 1 + 1) [.int .i64 b.x, .int .i64 b.y] 30 := by rw [hW]; exact ((Bb).old _).old _
 replace hw : Below w.heap.size w W3 := by have hl := hw.size; rw [hW]; go_grown
 clear hW hbp0
 refine (m0 _).mono ?_
 rintro e w4 ⟨rfl, hb⟩
 clear Ft Fa Fb
 replace Bt := Bt.ee hb
 replace Ba := Ba.ee hb
 replace Bb := Bb.ee hb
 replace Bp0 := Bp0.ee hb
 replace Bq0 := Bq0.ee hb
 replace hw := upB hw hb
 clear hb
 clear Bp0
 clear Bq0
 have Ft := Bt.facts
 have Fa := Ba.facts
 have Fb := Bb.facts
 go_wp2
 go_ret
 exact ⟨rfl, by have hl := hw.size; go_grown⟩
theorem oed_1 (T : Tri3) (a b : Pt) (h0 : (meetS a b T.A T.B == 3) = false) (h1 : (meetS a b T.B T.C == 3) = true) (w : World) :
    Calls Tryz.prog 105 #[.agg #[.int .i64 T.A.x, .int .i64 T.A.y, .int .i64 T.B.x, .int .i64 T.B.y, .int .i64 T.C.x, .int .i64 T.C.y], .agg #[.int .i64 a.x, .int .i64 a.y], .agg #[.int .i64 b.x, .int .i64 b.y]] w fun e w' => e = .returned (.bool true) ∧ Below w.heap.size w w' := by
 have e0 := zAs T 0
 rw [show crn T 0 = T.A from rfl, show crn T (0 + 1) = T.B from rfl] at e0
 have e1 := zAs T 1
 rw [show crn T 1 = T.B from rfl, show crn T (1 + 1) = T.C from rfl] at e1
 have e2 := zAs T 2
 rw [show crn T 2 = T.C from rfl, show crn T (2 + 1) = T.A from rfl] at e2
 have m0 := zBm a b T.A T.B
 have m1 := zBm a b T.B T.C
 have m2 := zBm a b T.C T.A
 generalize meetS a b T.A T.B = n0 at *
 generalize meetS a b T.B T.C = n1 at *
 generalize meetS a b T.C T.A = n2 at *
 go_enter Tryz.func105, Tryz.ntmps105
 go_wp2_with fail
 refine zA2 fun W1 hW => ?_
 have Bt : Box W1 (w.heap.size) [.int .i64 T.A.x, .int .i64 T.A.y, .int .i64 T.B.x, .int .i64 T.B.y, .int .i64 T.C.x, .int .i64 T.C.y] 38 := by rw [hW]; exact ((Box.new rfl).old _).old _
 have Ba : Box W1 (w.heap.size + 1) [.int .i64 a.x, .int .i64 a.y] 30 := by rw [hW]; exact (Box.new (by simp)).old _
 have Bb : Box W1 (w.heap.size + 1 + 1) [.int .i64 b.x, .int .i64 b.y] 30 := by rw [hW]; exact Box.new (by simp)
 have hw : Below w.heap.size w W1 := by rw [hW]; go_grown
 clear hW
 refine wp_loop_rounds 5 ?_
 try rw [rounds_succ]
 have Ft := Bt.facts
 have Fa := Ba.facts
 have Fb := Bb.facts
 go_wp2_with fail
 refine (e0 _).mono ?_
 rintro e w2 ⟨rfl, hb⟩
 clear Ft Fa Fb
 replace Bt := Bt.ee hb
 replace Ba := Ba.ee hb
 replace Bb := Bb.ee hb
 replace hw := upB hw hb
 clear hb
 have Ft := Bt.facts
 have Fa := Ba.facts
 have Fb := Bb.facts
 go_wp2_with fail
 refine zA1 fun W3 hW => ?_
 obtain ⟨bkp0, hbp0⟩ : ∃ b, w2.heap.size = b := ⟨_, rfl⟩
 rw [hbp0]
 have ltp0 := Bt.lt
 rw [hbp0] at ltp0
 have lap0 := Ba.lt
 rw [hbp0] at lap0
 have lbp0 := Bb.lt
 rw [hbp0] at lbp0
 have fp0 := hw.size
 rw [hbp0] at fp0
 have Bp0 : Box W3 (bkp0) [.int .i64 T.A.x, .int .i64 T.A.y] 30 := by rw [hW, ← hbp0]; exact (Box.new rfl).old _
 have Bq0 : Box W3 (bkp0 + 1) [.int .i64 T.B.x, .int .i64 T.B.y] 30 := by rw [hW, ← hbp0]; exact Box.new (by simp)
 replace Bt : Box W3 (w.heap.size) [.int .i64 T.A.x, .int .i64 T.A.y, .int .i64 T.B.x, .int .i64 T.B.y, .int .i64 T.C.x, .int .i64 T.C.y] 38 := by rw [hW]; exact ((Bt).old _).old _
 replace Ba : Box W3 (w.heap.size + 1) [.int .i64 a.x, .int .i64 a.y] 30 := by rw [hW]; exact ((Ba).old _).old _
 replace Bb : Box W3 (w.heap.size + 1 + 1) [.int .i64 b.x, .int .i64 b.y] 30 := by rw [hW]; exact ((Bb).old _).old _
 replace hw : Below w.heap.size w W3 := by have hl := hw.size; rw [hW]; go_grown
 clear hW hbp0
 refine (m0 _).mono ?_
 rintro e w4 ⟨rfl, hb⟩
 clear Ft Fa Fb
 replace Bt := Bt.ee hb
 replace Ba := Ba.ee hb
 replace Bb := Bb.ee hb
 replace Bp0 := Bp0.ee hb
 replace Bq0 := Bq0.ee hb
 replace hw := upB hw hb
 clear hb
 clear Bp0
 clear Bq0
 have Ft := Bt.facts
 have Fa := Ba.facts
 have Fb := Bb.facts
 go_wp2_with fail
 try rw [rounds_succ]
 go_wp2_with fail
 refine (e1 _).mono ?_
 rintro e w5 ⟨rfl, hb⟩
 clear Ft Fa Fb
 replace Bt := Bt.ee hb
 replace Ba := Ba.ee hb
 replace Bb := Bb.ee hb
 replace hw := upB hw hb
 clear hb
 have Ft := Bt.facts
 have Fa := Ba.facts
 have Fb := Bb.facts
 go_wp2_with fail
 refine zA1 fun W6 hW => ?_
 obtain ⟨bkp1, hbp1⟩ : ∃ b, w5.heap.size = b := ⟨_, rfl⟩
 rw [hbp1]
 have ltp1 := Bt.lt
 rw [hbp1] at ltp1
 have lap1 := Ba.lt
 rw [hbp1] at lap1
 have lbp1 := Bb.lt
 rw [hbp1] at lbp1
 have fp1 := hw.size
 rw [hbp1] at fp1
 have Bp1 : Box W6 (bkp1) [.int .i64 T.B.x, .int .i64 T.B.y] 30 := by rw [hW, ← hbp1]; exact (Box.new rfl).old _
 have Bq1 : Box W6 (bkp1 + 1) [.int .i64 T.C.x, .int .i64 T.C.y] 30 := by rw [hW, ← hbp1]; exact Box.new (by simp)
 replace Bt : Box W6 (w.heap.size) [.int .i64 T.A.x, .int .i64 T.A.y, .int .i64 T.B.x, .int .i64 T.B.y, .int .i64 T.C.x, .int .i64 T.C.y] 38 := by rw [hW]; exact ((Bt).old _).old _
 replace Ba : Box W6 (w.heap.size + 1) [.int .i64 a.x, .int .i64 a.y] 30 := by rw [hW]; exact ((Ba).old _).old _
 replace Bb : Box W6 (w.heap.size + 1 + 1) [.int .i64 b.x, .int .i64 b.y] 30 := by rw [hW]; exact ((Bb).old _).old _
 replace hw : Below w.heap.size w W6 := by have hl := hw.size; rw [hW]; go_grown
 clear hW hbp1
 refine (m1 _).mono ?_
 rintro e w7 ⟨rfl, hb⟩
 clear Ft Fa Fb
 replace Bt := Bt.ee hb
 replace Ba := Ba.ee hb
 replace Bb := Bb.ee hb
 replace Bp1 := Bp1.ee hb
 replace Bq1 := Bq1.ee hb
 replace hw := upB hw hb
 clear hb
 clear Bp1
 clear Bq1
 have Ft := Bt.facts
 have Fa := Ba.facts
 have Fb := Bb.facts
 go_wp2
 go_ret
 exact ⟨rfl, by have hl := hw.size; go_grown⟩
theorem oed_2 (T : Tri3) (a b : Pt) (h0 : (meetS a b T.A T.B == 3) = false) (h1 : (meetS a b T.B T.C == 3) = false) (h2 : (meetS a b T.C T.A == 3) = true) (w : World) :
    Calls Tryz.prog 105 #[.agg #[.int .i64 T.A.x, .int .i64 T.A.y, .int .i64 T.B.x, .int .i64 T.B.y, .int .i64 T.C.x, .int .i64 T.C.y], .agg #[.int .i64 a.x, .int .i64 a.y], .agg #[.int .i64 b.x, .int .i64 b.y]] w fun e w' => e = .returned (.bool true) ∧ Below w.heap.size w w' := by
 have e0 := zAs T 0
 rw [show crn T 0 = T.A from rfl, show crn T (0 + 1) = T.B from rfl] at e0
 have e1 := zAs T 1
 rw [show crn T 1 = T.B from rfl, show crn T (1 + 1) = T.C from rfl] at e1
 have e2 := zAs T 2
 rw [show crn T 2 = T.C from rfl, show crn T (2 + 1) = T.A from rfl] at e2
 have m0 := zBm a b T.A T.B
 have m1 := zBm a b T.B T.C
 have m2 := zBm a b T.C T.A
 generalize meetS a b T.A T.B = n0 at *
 generalize meetS a b T.B T.C = n1 at *
 generalize meetS a b T.C T.A = n2 at *
 go_enter Tryz.func105, Tryz.ntmps105
 go_wp2_with fail
 refine zA2 fun W1 hW => ?_
 have Bt : Box W1 (w.heap.size) [.int .i64 T.A.x, .int .i64 T.A.y, .int .i64 T.B.x, .int .i64 T.B.y, .int .i64 T.C.x, .int .i64 T.C.y] 38 := by rw [hW]; exact ((Box.new rfl).old _).old _
 have Ba : Box W1 (w.heap.size + 1) [.int .i64 a.x, .int .i64 a.y] 30 := by rw [hW]; exact (Box.new (by simp)).old _
 have Bb : Box W1 (w.heap.size + 1 + 1) [.int .i64 b.x, .int .i64 b.y] 30 := by rw [hW]; exact Box.new (by simp)
 have hw : Below w.heap.size w W1 := by rw [hW]; go_grown
 clear hW
 refine wp_loop_rounds 5 ?_
 try rw [rounds_succ]
 have Ft := Bt.facts
 have Fa := Ba.facts
 have Fb := Bb.facts
 go_wp2_with fail
 refine (e0 _).mono ?_
 rintro e w2 ⟨rfl, hb⟩
 clear Ft Fa Fb
 replace Bt := Bt.ee hb
 replace Ba := Ba.ee hb
 replace Bb := Bb.ee hb
 replace hw := upB hw hb
 clear hb
 have Ft := Bt.facts
 have Fa := Ba.facts
 have Fb := Bb.facts
 go_wp2_with fail
 refine zA1 fun W3 hW => ?_
 obtain ⟨bkp0, hbp0⟩ : ∃ b, w2.heap.size = b := ⟨_, rfl⟩
 rw [hbp0]
 have ltp0 := Bt.lt
 rw [hbp0] at ltp0
 have lap0 := Ba.lt
 rw [hbp0] at lap0
 have lbp0 := Bb.lt
 rw [hbp0] at lbp0
 have fp0 := hw.size
 rw [hbp0] at fp0
 have Bp0 : Box W3 (bkp0) [.int .i64 T.A.x, .int .i64 T.A.y] 30 := by rw [hW, ← hbp0]; exact (Box.new rfl).old _
 have Bq0 : Box W3 (bkp0 + 1) [.int .i64 T.B.x, .int .i64 T.B.y] 30 := by rw [hW, ← hbp0]; exact Box.new (by simp)
 replace Bt : Box W3 (w.heap.size) [.int .i64 T.A.x, .int .i64 T.A.y, .int .i64 T.B.x, .int .i64 T.B.y, .int .i64 T.C.x, .int .i64 T.C.y] 38 := by rw [hW]; exact ((Bt).old _).old _
 replace Ba : Box W3 (w.heap.size + 1) [.int .i64 a.x, .int .i64 a.y] 30 := by rw [hW]; exact ((Ba).old _).old _
 replace Bb : Box W3 (w.heap.size + 1 + 1) [.int .i64 b.x, .int .i64 b.y] 30 := by rw [hW]; exact ((Bb).old _).old _
 replace hw : Below w.heap.size w W3 := by have hl := hw.size; rw [hW]; go_grown
 clear hW hbp0
 refine (m0 _).mono ?_
 rintro e w4 ⟨rfl, hb⟩
 clear Ft Fa Fb
 replace Bt := Bt.ee hb
 replace Ba := Ba.ee hb
 replace Bb := Bb.ee hb
 replace Bp0 := Bp0.ee hb
 replace Bq0 := Bq0.ee hb
 replace hw := upB hw hb
 clear hb
 clear Bp0
 clear Bq0
 have Ft := Bt.facts
 have Fa := Ba.facts
 have Fb := Bb.facts
 go_wp2_with fail
 try rw [rounds_succ]
 go_wp2_with fail
 refine (e1 _).mono ?_
 rintro e w5 ⟨rfl, hb⟩
 clear Ft Fa Fb
 replace Bt := Bt.ee hb
 replace Ba := Ba.ee hb
 replace Bb := Bb.ee hb
 replace hw := upB hw hb
 clear hb
 have Ft := Bt.facts
 have Fa := Ba.facts
 have Fb := Bb.facts
 go_wp2_with fail
 refine zA1 fun W6 hW => ?_
 obtain ⟨bkp1, hbp1⟩ : ∃ b, w5.heap.size = b := ⟨_, rfl⟩
 rw [hbp1]
 have ltp1 := Bt.lt
 rw [hbp1] at ltp1
 have lap1 := Ba.lt
 rw [hbp1] at lap1
 have lbp1 := Bb.lt
 rw [hbp1] at lbp1
 have fp1 := hw.size
 rw [hbp1] at fp1
 have Bp1 : Box W6 (bkp1) [.int .i64 T.B.x, .int .i64 T.B.y] 30 := by rw [hW, ← hbp1]; exact (Box.new rfl).old _
 have Bq1 : Box W6 (bkp1 + 1) [.int .i64 T.C.x, .int .i64 T.C.y] 30 := by rw [hW, ← hbp1]; exact Box.new (by simp)
 replace Bt : Box W6 (w.heap.size) [.int .i64 T.A.x, .int .i64 T.A.y, .int .i64 T.B.x, .int .i64 T.B.y, .int .i64 T.C.x, .int .i64 T.C.y] 38 := by rw [hW]; exact ((Bt).old _).old _
 replace Ba : Box W6 (w.heap.size + 1) [.int .i64 a.x, .int .i64 a.y] 30 := by rw [hW]; exact ((Ba).old _).old _
 replace Bb : Box W6 (w.heap.size + 1 + 1) [.int .i64 b.x, .int .i64 b.y] 30 := by rw [hW]; exact ((Bb).old _).old _
 replace hw : Below w.heap.size w W6 := by have hl := hw.size; rw [hW]; go_grown
 clear hW hbp1
 refine (m1 _).mono ?_
 rintro e w7 ⟨rfl, hb⟩
 clear Ft Fa Fb
 replace Bt := Bt.ee hb
 replace Ba := Ba.ee hb
 replace Bb := Bb.ee hb
 replace Bp1 := Bp1.ee hb
 replace Bq1 := Bq1.ee hb
 replace hw := upB hw hb
 clear hb
 clear Bp1
 clear Bq1
 have Ft := Bt.facts
 have Fa := Ba.facts
 have Fb := Bb.facts
 go_wp2_with fail
 try rw [rounds_succ]
 go_wp2_with fail
 refine (e2 _).mono ?_
 rintro e w8 ⟨rfl, hb⟩
 clear Ft Fa Fb
 replace Bt := Bt.ee hb
 replace Ba := Ba.ee hb
 replace Bb := Bb.ee hb
 replace hw := upB hw hb
 clear hb
 have Ft := Bt.facts
 have Fa := Ba.facts
 have Fb := Bb.facts
 go_wp2_with fail
 refine zA1 fun W9 hW => ?_
 obtain ⟨bkp2, hbp2⟩ : ∃ b, w8.heap.size = b := ⟨_, rfl⟩
 rw [hbp2]
 have ltp2 := Bt.lt
 rw [hbp2] at ltp2
 have lap2 := Ba.lt
 rw [hbp2] at lap2
 have lbp2 := Bb.lt
 rw [hbp2] at lbp2
 have fp2 := hw.size
 rw [hbp2] at fp2
 have Bp2 : Box W9 (bkp2) [.int .i64 T.C.x, .int .i64 T.C.y] 30 := by rw [hW, ← hbp2]; exact (Box.new rfl).old _
 have Bq2 : Box W9 (bkp2 + 1) [.int .i64 T.A.x, .int .i64 T.A.y] 30 := by rw [hW, ← hbp2]; exact Box.new (by simp)
 replace Bt : Box W9 (w.heap.size) [.int .i64 T.A.x, .int .i64 T.A.y, .int .i64 T.B.x, .int .i64 T.B.y, .int .i64 T.C.x, .int .i64 T.C.y] 38 := by rw [hW]; exact ((Bt).old _).old _
 replace Ba : Box W9 (w.heap.size + 1) [.int .i64 a.x, .int .i64 a.y] 30 := by rw [hW]; exact ((Ba).old _).old _
 replace Bb : Box W9 (w.heap.size + 1 + 1) [.int .i64 b.x, .int .i64 b.y] 30 := by rw [hW]; exact ((Bb).old _).old _
 replace hw : Below w.heap.size w W9 := by have hl := hw.size; rw [hW]; go_grown
 clear hW hbp2
 refine (m2 _).mono ?_
 rintro e w10 ⟨rfl, hb⟩
 clear Ft Fa Fb
 replace Bt := Bt.ee hb
 replace Ba := Ba.ee hb
 replace Bb := Bb.ee hb
 replace Bp2 := Bp2.ee hb
 replace Bq2 := Bq2.ee hb
 replace hw := upB hw hb
 clear hb
 clear Bp2
 clear Bq2
 have Ft := Bt.facts
 have Fa := Ba.facts
 have Fb := Bb.facts
 go_wp2
 go_ret
 exact ⟨rfl, by have hl := hw.size; go_grown⟩
theorem oed_3 (T : Tri3) (a b : Pt) (h0 : (meetS a b T.A T.B == 3) = false) (h1 : (meetS a b T.B T.C == 3) = false) (h2 : (meetS a b T.C T.A == 3) = false) (w : World) :
    Calls Tryz.prog 105 #[.agg #[.int .i64 T.A.x, .int .i64 T.A.y, .int .i64 T.B.x, .int .i64 T.B.y, .int .i64 T.C.x, .int .i64 T.C.y], .agg #[.int .i64 a.x, .int .i64 a.y], .agg #[.int .i64 b.x, .int .i64 b.y]] w fun e w' => e = .returned (.bool false) ∧ Below w.heap.size w w' := by
 have e0 := zAs T 0
 rw [show crn T 0 = T.A from rfl, show crn T (0 + 1) = T.B from rfl] at e0
 have e1 := zAs T 1
 rw [show crn T 1 = T.B from rfl, show crn T (1 + 1) = T.C from rfl] at e1
 have e2 := zAs T 2
 rw [show crn T 2 = T.C from rfl, show crn T (2 + 1) = T.A from rfl] at e2
 have m0 := zBm a b T.A T.B
 have m1 := zBm a b T.B T.C
 have m2 := zBm a b T.C T.A
 generalize meetS a b T.A T.B = n0 at *
 generalize meetS a b T.B T.C = n1 at *
 generalize meetS a b T.C T.A = n2 at *
 go_enter Tryz.func105, Tryz.ntmps105
 go_wp2_with fail
 refine zA2 fun W1 hW => ?_
 have Bt : Box W1 (w.heap.size) [.int .i64 T.A.x, .int .i64 T.A.y, .int .i64 T.B.x, .int .i64 T.B.y, .int .i64 T.C.x, .int .i64 T.C.y] 38 := by rw [hW]; exact ((Box.new rfl).old _).old _
 have Ba : Box W1 (w.heap.size + 1) [.int .i64 a.x, .int .i64 a.y] 30 := by rw [hW]; exact (Box.new (by simp)).old _
 have Bb : Box W1 (w.heap.size + 1 + 1) [.int .i64 b.x, .int .i64 b.y] 30 := by rw [hW]; exact Box.new (by simp)
 have hw : Below w.heap.size w W1 := by rw [hW]; go_grown
 clear hW
 refine wp_loop_rounds 5 ?_
 try rw [rounds_succ]
 have Ft := Bt.facts
 have Fa := Ba.facts
 have Fb := Bb.facts
 go_wp2_with fail
 refine (e0 _).mono ?_
 rintro e w2 ⟨rfl, hb⟩
 clear Ft Fa Fb
 replace Bt := Bt.ee hb
 replace Ba := Ba.ee hb
 replace Bb := Bb.ee hb
 replace hw := upB hw hb
 clear hb
 have Ft := Bt.facts
 have Fa := Ba.facts
 have Fb := Bb.facts
 go_wp2_with fail
 refine zA1 fun W3 hW => ?_
 obtain ⟨bkp0, hbp0⟩ : ∃ b, w2.heap.size = b := ⟨_, rfl⟩
 rw [hbp0]
 have ltp0 := Bt.lt
 rw [hbp0] at ltp0
 have lap0 := Ba.lt
 rw [hbp0] at lap0
 have lbp0 := Bb.lt
 rw [hbp0] at lbp0
 have fp0 := hw.size
 rw [hbp0] at fp0
 have Bp0 : Box W3 (bkp0) [.int .i64 T.A.x, .int .i64 T.A.y] 30 := by rw [hW, ← hbp0]; exact (Box.new rfl).old _
 have Bq0 : Box W3 (bkp0 + 1) [.int .i64 T.B.x, .int .i64 T.B.y] 30 := by rw [hW, ← hbp0]; exact Box.new (by simp)
 replace Bt : Box W3 (w.heap.size) [.int .i64 T.A.x, .int .i64 T.A.y, .int .i64 T.B.x, .int .i64 T.B.y, .int .i64 T.C.x, .int .i64 T.C.y] 38 := by rw [hW]; exact ((Bt).old _).old _
 replace Ba : Box W3 (w.heap.size + 1) [.int .i64 a.x, .int .i64 a.y] 30 := by rw [hW]; exact ((Ba).old _).old _
 replace Bb : Box W3 (w.heap.size + 1 + 1) [.int .i64 b.x, .int .i64 b.y] 30 := by rw [hW]; exact ((Bb).old _).old _
 replace hw : Below w.heap.size w W3 := by have hl := hw.size; rw [hW]; go_grown
 clear hW hbp0
 refine (m0 _).mono ?_
 rintro e w4 ⟨rfl, hb⟩
 clear Ft Fa Fb
 replace Bt := Bt.ee hb
 replace Ba := Ba.ee hb
 replace Bb := Bb.ee hb
 replace Bp0 := Bp0.ee hb
 replace Bq0 := Bq0.ee hb
 replace hw := upB hw hb
 clear hb
 clear Bp0
 clear Bq0
 have Ft := Bt.facts
 have Fa := Ba.facts
 have Fb := Bb.facts
 go_wp2_with fail
 try rw [rounds_succ]
 go_wp2_with fail
 refine (e1 _).mono ?_
 rintro e w5 ⟨rfl, hb⟩
 clear Ft Fa Fb
 replace Bt := Bt.ee hb
 replace Ba := Ba.ee hb
 replace Bb := Bb.ee hb
 replace hw := upB hw hb
 clear hb
 have Ft := Bt.facts
 have Fa := Ba.facts
 have Fb := Bb.facts
 go_wp2_with fail
 refine zA1 fun W6 hW => ?_
 obtain ⟨bkp1, hbp1⟩ : ∃ b, w5.heap.size = b := ⟨_, rfl⟩
 rw [hbp1]
 have ltp1 := Bt.lt
 rw [hbp1] at ltp1
 have lap1 := Ba.lt
 rw [hbp1] at lap1
 have lbp1 := Bb.lt
 rw [hbp1] at lbp1
 have fp1 := hw.size
 rw [hbp1] at fp1
 have Bp1 : Box W6 (bkp1) [.int .i64 T.B.x, .int .i64 T.B.y] 30 := by rw [hW, ← hbp1]; exact (Box.new rfl).old _
 have Bq1 : Box W6 (bkp1 + 1) [.int .i64 T.C.x, .int .i64 T.C.y] 30 := by rw [hW, ← hbp1]; exact Box.new (by simp)
 replace Bt : Box W6 (w.heap.size) [.int .i64 T.A.x, .int .i64 T.A.y, .int .i64 T.B.x, .int .i64 T.B.y, .int .i64 T.C.x, .int .i64 T.C.y] 38 := by rw [hW]; exact ((Bt).old _).old _
 replace Ba : Box W6 (w.heap.size + 1) [.int .i64 a.x, .int .i64 a.y] 30 := by rw [hW]; exact ((Ba).old _).old _
 replace Bb : Box W6 (w.heap.size + 1 + 1) [.int .i64 b.x, .int .i64 b.y] 30 := by rw [hW]; exact ((Bb).old _).old _
 replace hw : Below w.heap.size w W6 := by have hl := hw.size; rw [hW]; go_grown
 clear hW hbp1
 refine (m1 _).mono ?_
 rintro e w7 ⟨rfl, hb⟩
 clear Ft Fa Fb
 replace Bt := Bt.ee hb
 replace Ba := Ba.ee hb
 replace Bb := Bb.ee hb
 replace Bp1 := Bp1.ee hb
 replace Bq1 := Bq1.ee hb
 replace hw := upB hw hb
 clear hb
 clear Bp1
 clear Bq1
 have Ft := Bt.facts
 have Fa := Ba.facts
 have Fb := Bb.facts
 go_wp2_with fail
 try rw [rounds_succ]
 go_wp2_with fail
 refine (e2 _).mono ?_
 rintro e w8 ⟨rfl, hb⟩
 clear Ft Fa Fb
 replace Bt := Bt.ee hb
 replace Ba := Ba.ee hb
 replace Bb := Bb.ee hb
 replace hw := upB hw hb
 clear hb
 have Ft := Bt.facts
 have Fa := Ba.facts
 have Fb := Bb.facts
 go_wp2_with fail
 refine zA1 fun W9 hW => ?_
 obtain ⟨bkp2, hbp2⟩ : ∃ b, w8.heap.size = b := ⟨_, rfl⟩
 rw [hbp2]
 have ltp2 := Bt.lt
 rw [hbp2] at ltp2
 have lap2 := Ba.lt
 rw [hbp2] at lap2
 have lbp2 := Bb.lt
 rw [hbp2] at lbp2
 have fp2 := hw.size
 rw [hbp2] at fp2
 have Bp2 : Box W9 (bkp2) [.int .i64 T.C.x, .int .i64 T.C.y] 30 := by rw [hW, ← hbp2]; exact (Box.new rfl).old _
 have Bq2 : Box W9 (bkp2 + 1) [.int .i64 T.A.x, .int .i64 T.A.y] 30 := by rw [hW, ← hbp2]; exact Box.new (by simp)
 replace Bt : Box W9 (w.heap.size) [.int .i64 T.A.x, .int .i64 T.A.y, .int .i64 T.B.x, .int .i64 T.B.y, .int .i64 T.C.x, .int .i64 T.C.y] 38 := by rw [hW]; exact ((Bt).old _).old _
 replace Ba : Box W9 (w.heap.size + 1) [.int .i64 a.x, .int .i64 a.y] 30 := by rw [hW]; exact ((Ba).old _).old _
 replace Bb : Box W9 (w.heap.size + 1 + 1) [.int .i64 b.x, .int .i64 b.y] 30 := by rw [hW]; exact ((Bb).old _).old _
 replace hw : Below w.heap.size w W9 := by have hl := hw.size; rw [hW]; go_grown
 clear hW hbp2
 refine (m2 _).mono ?_
 rintro e w10 ⟨rfl, hb⟩
 clear Ft Fa Fb
 replace Bt := Bt.ee hb
 replace Ba := Ba.ee hb
 replace Bb := Bb.ee hb
 replace Bp2 := Bp2.ee hb
 replace Bq2 := Bq2.ee hb
 replace hw := upB hw hb
 clear hb
 clear Bp2
 clear Bq2
 have Ft := Bt.facts
 have Fa := Ba.facts
 have Fb := Bb.facts
 go_wp2_with fail
 try rw [rounds_succ]
 go_wp2
 go_ret
 exact ⟨rfl, by have hl := hw.size; go_grown⟩
theorem zGj (T : Tri3) (a b : Pt) (w : World) :
    Calls Tryz.prog 105 #[.agg #[.int .i64 T.A.x, .int .i64 T.A.y, .int .i64 T.B.x, .int .i64 T.B.y, .int .i64 T.C.x, .int .i64 T.C.y], .agg #[.int .i64 a.x, .int .i64 a.y], .agg #[.int .i64 b.x, .int .i64 b.y]] w fun e w' => e = .returned (.bool (oed T a b)) ∧ Below w.heap.size w w' := by
 unfold oed
 cases h0 : (meetS a b T.A T.B == 3) with
 | true => exact oed_0 T a b h0 w
 | false => cases h1 : (meetS a b T.B T.C == 3) with
  | true => exact oed_1 T a b h0 h1 w
  | false => cases h2 : (meetS a b T.C T.A == 3) with
   | true => exact oed_2 T a b h0 h1 h2 w
   | false => exact oed_3 T a b h0 h1 h2 w
def alg (T : Tri3) (a b : Pt) : Bool := valT T && (vld a && (vld b && (thr T a b || oed T a b)))
theorem alg_0 (T : Tri3) (a b : Pt) (h0 : valT T = false) (w : World) :
    Calls Tryz.prog 61 #[.agg #[.int .i64 T.A.x, .int .i64 T.A.y, .int .i64 T.B.x, .int .i64 T.B.y, .int .i64 T.C.x, .int .i64 T.C.y], .agg #[.int .i64 a.x, .int .i64 a.y], .agg #[.int .i64 b.x, .int .i64 b.y]] w fun e w' => e = .returned (.bool false) ∧ Below w.heap.size w w' := by
 have c0 := zB8 T
 have c1 := zA3 a
 have c2 := zA3 b
 have c3 := zG7 T a b
 have c4 := zGj T a b
 rw [h0] at c0
 clear h0
 generalize oed T a b = m at *
 go_enter Tryz.func61, Tryz.ntmps61
 go_wp2_with fail
 refine zA1 fun W1 hW => ?_
 have Bt : Box W1 (w.heap.size) [.int .i64 T.A.x, .int .i64 T.A.y, .int .i64 T.B.x, .int .i64 T.B.y, .int .i64 T.C.x, .int .i64 T.C.y] 38 := by rw [hW]; exact ((Box.new rfl).old _).old _
 have Ba : Box W1 (w.heap.size + 1) [.int .i64 a.x, .int .i64 a.y] 30 := by rw [hW]; exact (Box.new (by simp)).old _
 have Bb : Box W1 (w.heap.size + 1 + 1) [.int .i64 b.x, .int .i64 b.y] 30 := by rw [hW]; exact Box.new (by simp)
 have hw : Below w.heap.size w W1 := by rw [hW]; go_grown
 clear hW
 refine (c0 _).mono ?_
 rintro e w2 ⟨rfl, hb⟩
 replace Bt := Bt.ee hb
 replace Ba := Ba.ee hb
 replace Bb := Bb.ee hb
 replace hw := upB hw hb
 clear hb
 have Ft := Bt.facts
 have Fa := Ba.facts
 have Fb := Bb.facts
 go_wp2
 go_ret
 exact ⟨rfl, by have hl := hw.size; go_grown⟩
theorem alg_1 (T : Tri3) (a b : Pt) (h0 : valT T = true) (h1 : vld a = false) (w : World) :
    Calls Tryz.prog 61 #[.agg #[.int .i64 T.A.x, .int .i64 T.A.y, .int .i64 T.B.x, .int .i64 T.B.y, .int .i64 T.C.x, .int .i64 T.C.y], .agg #[.int .i64 a.x, .int .i64 a.y], .agg #[.int .i64 b.x, .int .i64 b.y]] w fun e w' => e = .returned (.bool false) ∧ Below w.heap.size w w' := by
 have c0 := zB8 T
 have c1 := zA3 a
 have c2 := zA3 b
 have c3 := zG7 T a b
 have c4 := zGj T a b
 rw [h0] at c0
 rw [h1] at c1
 clear h0 h1
 generalize oed T a b = m at *
 go_enter Tryz.func61, Tryz.ntmps61
 go_wp2_with fail
 refine zA1 fun W1 hW => ?_
 have Bt : Box W1 (w.heap.size) [.int .i64 T.A.x, .int .i64 T.A.y, .int .i64 T.B.x, .int .i64 T.B.y, .int .i64 T.C.x, .int .i64 T.C.y] 38 := by rw [hW]; exact ((Box.new rfl).old _).old _
 have Ba : Box W1 (w.heap.size + 1) [.int .i64 a.x, .int .i64 a.y] 30 := by rw [hW]; exact (Box.new (by simp)).old _
 have Bb : Box W1 (w.heap.size + 1 + 1) [.int .i64 b.x, .int .i64 b.y] 30 := by rw [hW]; exact Box.new (by simp)
 have hw : Below w.heap.size w W1 := by rw [hW]; go_grown
 clear hW
 refine (c0 _).mono ?_
 rintro e w2 ⟨rfl, hb⟩
 replace Bt := Bt.ee hb
 replace Ba := Ba.ee hb
 replace Bb := Bb.ee hb
 replace hw := upB hw hb
 clear hb
 have Ft := Bt.facts
 have Fa := Ba.facts
 have Fb := Bb.facts
 go_wp2_with fail
 refine (c1 _).mono ?_
 rintro e w3 ⟨rfl, hb⟩
 clear Ft Fa Fb
 replace Bt := Bt.ee hb
 replace Ba := Ba.ee hb
 replace Bb := Bb.ee hb
 replace hw := upB hw hb
 clear hb
 have Ft := Bt.facts
 have Fa := Ba.facts
 have Fb := Bb.facts
 go_wp2
 go_ret
 exact ⟨rfl, by have hl := hw.size; go_grown⟩
theorem alg_2 (T : Tri3) (a b : Pt) (h0 : valT T = true) (h1 : vld a = true) (h2 : vld b = false) (w : World) :
    Calls Tryz.prog 61 #[.agg #[.int .i64 T.A.x, .int .i64 T.A.y, .int .i64 T.B.x, .int .i64 T.B.y, .int .i64 T.C.x, .int .i64 T.C.y], .agg #[.int .i64 a.x, .int .i64 a.y], .agg #[.int .i64 b.x, .int .i64 b.y]] w fun e w' => e = .returned (.bool false) ∧ Below w.heap.size w w' := by
 have c0 := zB8 T
 have c1 := zA3 a
 have c2 := zA3 b
 have c3 := zG7 T a b
 have c4 := zGj T a b
 rw [h0] at c0
 rw [h1] at c1
 rw [h2] at c2
 clear h0 h1 h2
 generalize oed T a b = m at *
 go_enter Tryz.func61, Tryz.ntmps61
 go_wp2_with fail
 refine zA1 fun W1 hW => ?_
 have Bt : Box W1 (w.heap.size) [.int .i64 T.A.x, .int .i64 T.A.y, .int .i64 T.B.x, .int .i64 T.B.y, .int .i64 T.C.x, .int .i64 T.C.y] 38 := by rw [hW]; exact ((Box.new rfl).old _).old _
 have Ba : Box W1 (w.heap.size + 1) [.int .i64 a.x, .int .i64 a.y] 30 := by rw [hW]; exact (Box.new (by simp)).old _
 have Bb : Box W1 (w.heap.size + 1 + 1) [.int .i64 b.x, .int .i64 b.y] 30 := by rw [hW]; exact Box.new (by simp)
 have hw : Below w.heap.size w W1 := by rw [hW]; go_grown
 clear hW
 refine (c0 _).mono ?_
 rintro e w2 ⟨rfl, hb⟩
 replace Bt := Bt.ee hb
 replace Ba := Ba.ee hb
 replace Bb := Bb.ee hb
 replace hw := upB hw hb
 clear hb
 have Ft := Bt.facts
 have Fa := Ba.facts
 have Fb := Bb.facts
 go_wp2_with fail
 refine (c1 _).mono ?_
 rintro e w3 ⟨rfl, hb⟩
 clear Ft Fa Fb
 replace Bt := Bt.ee hb
 replace Ba := Ba.ee hb
 replace Bb := Bb.ee hb
 replace hw := upB hw hb
 clear hb
 have Ft := Bt.facts
 have Fa := Ba.facts
 have Fb := Bb.facts
 go_wp2_with fail
 refine (c2 _).mono ?_
 rintro e w4 ⟨rfl, hb⟩
 clear Ft Fa Fb
 replace Bt := Bt.ee hb
 replace Ba := Ba.ee hb
 replace Bb := Bb.ee hb
 replace hw := upB hw hb
 clear hb
 have Ft := Bt.facts
 have Fa := Ba.facts
 have Fb := Bb.facts
 go_wp2
 go_ret
 exact ⟨rfl, by have hl := hw.size; go_grown⟩
theorem alg_3 (T : Tri3) (a b : Pt) (h0 : valT T = true) (h1 : vld a = true) (h2 : vld b = true) (h3 : thr T a b = true) (w : World) :
    Calls Tryz.prog 61 #[.agg #[.int .i64 T.A.x, .int .i64 T.A.y, .int .i64 T.B.x, .int .i64 T.B.y, .int .i64 T.C.x, .int .i64 T.C.y], .agg #[.int .i64 a.x, .int .i64 a.y], .agg #[.int .i64 b.x, .int .i64 b.y]] w fun e w' => e = .returned (.bool true) ∧ Below w.heap.size w w' := by
 have c0 := zB8 T
 have c1 := zA3 a
 have c2 := zA3 b
 have c3 := zG7 T a b
 have c4 := zGj T a b
 rw [h0] at c0
 rw [h1] at c1
 rw [h2] at c2
 rw [h3] at c3
 clear h0 h1 h2 h3
 generalize oed T a b = m at *
 go_enter Tryz.func61, Tryz.ntmps61
 go_wp2_with fail
 refine zA1 fun W1 hW => ?_
 have Bt : Box W1 (w.heap.size) [.int .i64 T.A.x, .int .i64 T.A.y, .int .i64 T.B.x, .int .i64 T.B.y, .int .i64 T.C.x, .int .i64 T.C.y] 38 := by rw [hW]; exact ((Box.new rfl).old _).old _
 have Ba : Box W1 (w.heap.size + 1) [.int .i64 a.x, .int .i64 a.y] 30 := by rw [hW]; exact (Box.new (by simp)).old _
 have Bb : Box W1 (w.heap.size + 1 + 1) [.int .i64 b.x, .int .i64 b.y] 30 := by rw [hW]; exact Box.new (by simp)
 have hw : Below w.heap.size w W1 := by rw [hW]; go_grown
 clear hW
 refine (c0 _).mono ?_
 rintro e w2 ⟨rfl, hb⟩
 replace Bt := Bt.ee hb
 replace Ba := Ba.ee hb
 replace Bb := Bb.ee hb
 replace hw := upB hw hb
 clear hb
 have Ft := Bt.facts
 have Fa := Ba.facts
 have Fb := Bb.facts
 go_wp2_with fail
 refine (c1 _).mono ?_
 rintro e w3 ⟨rfl, hb⟩
 clear Ft Fa Fb
 replace Bt := Bt.ee hb
 replace Ba := Ba.ee hb
 replace Bb := Bb.ee hb
 replace hw := upB hw hb
 clear hb
 have Ft := Bt.facts
 have Fa := Ba.facts
 have Fb := Bb.facts
 go_wp2_with fail
 refine (c2 _).mono ?_
 rintro e w4 ⟨rfl, hb⟩
 clear Ft Fa Fb
 replace Bt := Bt.ee hb
 replace Ba := Ba.ee hb
 replace Bb := Bb.ee hb
 replace hw := upB hw hb
 clear hb
 have Ft := Bt.facts
 have Fa := Ba.facts
 have Fb := Bb.facts
 go_wp2_with fail
 refine (c3 _).mono ?_
 rintro e w5 ⟨rfl, hb⟩
 clear Ft Fa Fb
 replace Bt := Bt.ee hb
 replace Ba := Ba.ee hb
 replace Bb := Bb.ee hb
 replace hw := upB hw hb
 clear hb
 have Ft := Bt.facts
 have Fa := Ba.facts
 have Fb := Bb.facts
 go_wp2
 go_ret
 exact ⟨rfl, by have hl := hw.size; go_grown⟩
theorem alg_4 (T : Tri3) (a b : Pt) (h0 : valT T = true) (h1 : vld a = true) (h2 : vld b = true) (h3 : thr T a b = false) (w : World) :
    Calls Tryz.prog 61 #[.agg #[.int .i64 T.A.x, .int .i64 T.A.y, .int .i64 T.B.x, .int .i64 T.B.y, .int .i64 T.C.x, .int .i64 T.C.y], .agg #[.int .i64 a.x, .int .i64 a.y], .agg #[.int .i64 b.x, .int .i64 b.y]] w fun e w' => e = .returned (.bool (oed T a b)) ∧ Below w.heap.size w w' := by
 have c0 := zB8 T
 have c1 := zA3 a
 have c2 := zA3 b
 have c3 := zG7 T a b
 have c4 := zGj T a b
 rw [h0] at c0
 rw [h1] at c1
 rw [h2] at c2
 rw [h3] at c3
 clear h0 h1 h2 h3
 generalize oed T a b = m at *
 go_enter Tryz.func61, Tryz.ntmps61
 go_wp2_with fail
 refine zA1 fun W1 hW => ?_
 have Bt : Box W1 (w.heap.size) [.int .i64 T.A.x, .int .i64 T.A.y, .int .i64 T.B.x, .int .i64 T.B.y, .int .i64 T.C.x, .int .i64 T.C.y] 38 := by rw [hW]; exact ((Box.new rfl).old _).old _
 have Ba : Box W1 (w.heap.size + 1) [.int .i64 a.x, .int .i64 a.y] 30 := by rw [hW]; exact (Box.new (by simp)).old _
 have Bb : Box W1 (w.heap.size + 1 + 1) [.int .i64 b.x, .int .i64 b.y] 30 := by rw [hW]; exact Box.new (by simp)
 have hw : Below w.heap.size w W1 := by rw [hW]; go_grown
 clear hW
 refine (c0 _).mono ?_
 rintro e w2 ⟨rfl, hb⟩
 replace Bt := Bt.ee hb
 replace Ba := Ba.ee hb
 replace Bb := Bb.ee hb
 replace hw := upB hw hb
 clear hb
 have Ft := Bt.facts
 have Fa := Ba.facts
 have Fb := Bb.facts
 go_wp2_with fail
 refine (c1 _).mono ?_
 rintro e w3 ⟨rfl, hb⟩
 clear Ft Fa Fb
 replace Bt := Bt.ee hb
 replace Ba := Ba.ee hb
 replace Bb := Bb.ee hb
 replace hw := upB hw hb
 clear hb
 have Ft := Bt.facts
 have Fa := Ba.facts
 have Fb := Bb.facts
 go_wp2_with fail
 refine (c2 _).mono ?_
 rintro e w4 ⟨rfl, hb⟩
 clear Ft Fa Fb
 replace Bt := Bt.ee hb
 replace Ba := Ba.ee hb
 replace Bb := Bb.ee hb
 replace hw := upB hw hb
 clear hb
 have Ft := Bt.facts
 have Fa := Ba.facts
 have Fb := Bb.facts
 go_wp2_with fail
 refine (c3 _).mono ?_
 rintro e w5 ⟨rfl, hb⟩
 clear Ft Fa Fb
 replace Bt := Bt.ee hb
 replace Ba := Ba.ee hb
 replace Bb := Bb.ee hb
 replace hw := upB hw hb
 clear hb
 have Ft := Bt.facts
 have Fa := Ba.facts
 have Fb := Bb.facts
 go_wp2_with fail
 refine (c4 _).mono ?_
 rintro e w6 ⟨rfl, hb⟩
 clear Ft Fa Fb
 replace Bt := Bt.ee hb
 replace Ba := Ba.ee hb
 replace Bb := Bb.ee hb
 replace hw := upB hw hb
 clear hb
 have Ft := Bt.facts
 have Fa := Ba.facts
 have Fb := Bb.facts
 go_wp2
 go_ret
 exact ⟨rfl, by have hl := hw.size; go_grown⟩
theorem alg_any (T : Tri3) (a b : Pt) (w : World) :
    Calls Tryz.prog 61 #[.agg #[.int .i64 T.A.x, .int .i64 T.A.y, .int .i64 T.B.x, .int .i64 T.B.y, .int .i64 T.C.x, .int .i64 T.C.y], .agg #[.int .i64 a.x, .int .i64 a.y], .agg #[.int .i64 b.x, .int .i64 b.y]] w fun e w' => e = .returned (.bool (alg T a b)) ∧ Below w.heap.size w w' := by
 unfold alg
 cases h0 : valT T with
 | false => exact alg_0 T a b h0 w
 | true => cases h1 : vld a with
  | false => exact alg_1 T a b h0 h1 w
  | true => cases h2 : vld b with
   | false => exact alg_2 T a b h0 h1 h2 w
   | true => cases h3 : thr T a b with
    | true => exact alg_3 T a b h0 h1 h2 h3 w
    | false => exact alg_4 T a b h0 h1 h2 h3 w
end Go.Proofs.YtmobnmjjmafibaaGreat
namespace Go.Proofs.YtmobnmjjmafibaaGreat
open Go.RowKit Go.Sort
attribute [local go_sem] rOper rAt rUpon cell_set sg_i64 sg_u64 alloc_cell alloc_frozen
attribute [local go_sem 10000] pt_eql pt_neq tri_eql
attribute [local irreducible] rWalk
def qway : Nat → Pt × Pt
 | 0 => (⟨0, 0⟩, ⟨2, 0⟩)
 | 1 => (⟨2, 0⟩, ⟨2, 2⟩)
 | 2 => (⟨2, 2⟩, ⟨0, 2⟩)
 | _ => (⟨0, 2⟩, ⟨0, 0⟩)
def five : List Pt := [⟨0, 0⟩, ⟨2, 0⟩, ⟨2, 2⟩, ⟨0, 2⟩, ⟨1, 1⟩]
def quart (i : Nat) : List Tri3 := [⟨(qway i).1, (qway i).2, ⟨1, 1⟩⟩, ⟨(qway i).2, ⟨1, 1⟩, (qway i).1⟩, ⟨⟨1, 1⟩, (qway i).1, (qway i).2⟩]
def isQ (i : Nat) (T : Tri3) : Bool := (quart i).contains T
theorem twelve : ∀ a ∈ five, ∀ b ∈ five, ∀ d ∈ five, 0 < det a b d → ((0 ≤ det a b ⟨1, 1⟩ ∧ 0 ≤ det b d ⟨1, 1⟩ ∧ 0 ≤ det d a ⟨1, 1⟩) → (⟨1, 1⟩ : Pt) = a ∨ (⟨1, 1⟩ : Pt) = b ∨ (⟨1, 1⟩ : Pt) = d) → (⟨a, b, d⟩ : Tri3) ∈ quart 0 ++ quart 1 ++ quart 2 ++ quart 3 := by
 decide +kernel
def quarters : List Tri3 := (quart 0 ++ quart 1 ++ quart 2 ++ quart 3).filter valT
theorem quarts {E : Es} {L : List Tri3} (g : Good E L) (t : Tiles 2 2 L) (hc : ∀ q, someC L q ↔ PutPt 2 [4] q) {T : Tri3} (hT : T ∈ L) : T ∈ quarters := by
 have hs : spt 2 4 = ⟨1, 1⟩ := by decide
 have h5 : ∀ q, someC L q → q ∈ five := fun q hq => by
  rcases (hc q).1 hq with (h | h | h | h) | ⟨x, hx, h⟩
  ·rw [h]; decide
  ·rw [h]; decide
  ·rw [h]; decide
  ·rw [h]; decide
  ·rw [List.mem_singleton] at hx; rw [h, hx, hs]; decide
 have hm : someC L ⟨1, 1⟩ := (hc _).2 (.inr ⟨4, by simp, hs.symm⟩)
 obtain ⟨S, hS, hcS⟩ := hm
 refine List.mem_filter.2 ⟨twelve T.A (h5 _ ⟨T, hT, .inl rfl⟩) T.B (h5 _ ⟨T, hT, .inr (.inl rfl)⟩) T.C (h5 _ ⟨T, hT, .inr (.inr rfl)⟩) (t.pos T hT) (fun h => t.cnr_all hS hT hcS h), g.val T hT⟩
theorem zB1 : ∀ T ∈ quarters, det T.A T.B T.C = 2 ∧ isCb ⟨1, 1⟩ T = true ∧ hasP T ⟨1, 0⟩ = isQ 0 T ∧ alg T ⟨0, 0⟩ ⟨1, 1⟩ = (isQ 0 T || isQ 3 T) ∧ alg T ⟨1, 1⟩ ⟨1, 1⟩ = false ∧
    (if isQ 0 T then 1 else 0) + (if isQ 1 T then 1 else 0) + (if isQ 2 T then 1 else 0) + (if isQ 3 T then 1 else 0) = 1 ∧ (∀ i, i < 4 → isQ i T = true → qway i ∈ ways T) := by
 decide +kernel
theorem zIc : ∀ (L : List Tri3), (∀ T ∈ L, det T.A T.B T.C = 2) → sumA L = 2 * (L.length : Int)
 | [], _ => rfl
 | T :: L, h => by
  unfold sumA
  rw [h T (by simp), zIc L (fun S hS => h S (by simp [hS]))]
  simp; omega
theorem zGr : ∀ (L : List Tri3), (∀ T ∈ L, T ∈ quarters) → (L.filter (isQ 0)).length + (L.filter (isQ 1)).length + (L.filter (isQ 2)).length + (L.filter (isQ 3)).length = L.length
 | [], _ => rfl
 | T :: L, h => by
  have k := zGr L (fun S hS => h S (by simp [hS]))
  have q := (zB1 T (h T (by simp))).2.2.2.2.2.1
  simp only [List.filter_cons]
  cases h0 : isQ 0 T <;> cases h1 : isQ 1 T <;> cases h2 : isQ 2 T <;> cases h3 : isQ 3 T <;> simp [h0, h1, h2, h3] at q ⊢ <;> omega
theorem zEb {L : List Tri3} (hn : (L.flatMap ways).Nodup) (hq : ∀ T ∈ L, T ∈ quarters) {i : Nat} (hi : i < 4) : (L.filter (isQ i)).length ≤ 1 := by
 have nd : (L.filter (isQ i)).Nodup := (zGn hn).sublist List.filter_sublist
 match hF : L.filter (isQ i), nd with
 | [], _ => simp
 | [_], _ => simp
 | S :: T :: M, nd =>
  exfalso
  have hS := List.mem_filter.1 (show S ∈ L.filter (isQ i) by rw [hF]; simp)
  have hT := List.mem_filter.1 (show T ∈ L.filter (isQ i) by rw [hF]; simp)
  have e := zJ1 hn hS.1 hT.1 ((zB1 S (hq S hS.1)).2.2.2.2.2.2 i hi hS.2) ((zB1 T (hq T hT.1)).2.2.2.2.2.2 i hi hT.2)
  rw [e] at nd
  simp at nd
theorem two_facts {E : Es} {L : List Tri3} (g : Good E L) (t : Tiles 2 2 L) (hc : ∀ q, someC L q ↔ PutPt 2 [4] q) :
    (atE E ⟨1, 1⟩).length = 4 ∧ (starW E ⟨1, 1⟩).length = 4 ∧ (atE E ⟨1, 0⟩).length = 1 ∧ (srt cmpT (heads (fun T => alg T ⟨0, 0⟩ ⟨1, 1⟩) E)).length = 2 ∧ (srt cmpT (heads (fun T => alg T ⟨1, 1⟩ ⟨1, 1⟩) E)).length = 0 ∧ closedW E ⟨1, 1⟩ = true ∧ closedW E ⟨0, 0⟩ = false := by
 have hq := fun T (hT : T ∈ L) => quarts g t hc hT
 have hm : someC L ⟨1, 1⟩ := (hc _).2 (.inr ⟨4, by simp, by decide⟩)
 have h0 : someC L ⟨0, 0⟩ := (hc _).2 (.inl (.inl rfl))
 have hl : L.length = 4 := by
  have a := t.area
  rw [zIc L (fun T hT => (zB1 T (hq T hT)).1)] at a
  omega
 have c4 := zGr L hq
 have c0 := zEb t.once hq (i := 0) (by omega)
 have c1 := zEb t.once hq (i := 1) (by omega)
 have c2 := zEb t.once hq (i := 2) (by omega)
 have c3 := zEb t.once hq (i := 3) (by omega)
 have len : ∀ f : Tri3 → Bool, (srt cmpT (heads f E)).length = (L.filter f).length := fun f => by rw [(zAd _).length_eq, (zAy g f).length_eq]
 have hst : (starW E ⟨1, 1⟩).length = 4 := by
  unfold starW
  rw [len, List.filter_eq_self.2 (fun T hT => (zB1 T (hq T hT)).2.1), hl]
 refine ⟨?_, hst, ?_, ?_, ?_, ?_, ?_⟩
 ·rw [zK4 g t (by decide) (by decide) (by unfold inBox; decide) hm, hst]
 ·unfold atE
  rw [len, List.filter_congr (fun T hT => (zB1 T (hq T hT)).2.2.1)]
  omega
 ·rw [len, List.filter_congr (fun T hT => (zB1 T (hq T hT)).2.2.2.1)]
  have s : ∀ M : List Tri3, (∀ T ∈ M, T ∈ quarters) → (M.filter fun T => isQ 0 T || isQ 3 T).length = (M.filter (isQ 0)).length + (M.filter (isQ 3)).length := fun M => by
   induction M with
   | nil => intro _; rfl
   | cons T M ih =>
    intro h
    have k := ih (fun S hS => h S (by simp [hS]))
    have q := (zB1 T (h T (by simp))).2.2.2.2.2.1
    simp only [List.filter_cons]
    cases h0 : isQ 0 T <;> cases h1 : isQ 1 T <;> cases h2 : isQ 2 T <;> cases h3 : isQ 3 T <;> simp [h0, h1, h2, h3] at q ⊢ <;> omega
  rw [s L hq]
  omega
 ·rw [len, List.filter_eq_nil_iff.2 (fun T hT => by rw [(zB1 T (hq T hT)).2.2.2.2.1]; decide)]
  rfl
 ·rw [zDj g t hm]; unfold atRim; decide
 ·rw [← Bool.not_eq_true, zDj g t h0]; unfold atRim; decide
theorem nthose (f : Value) (w : World) : Calls Tryz.prog 53 #[.pointer none, f] w fun e w' => e = .returned (.slice none 0 0) ∧ Below w.heap.size w w' := by
 go_enter Tryz.func53, Tryz.ntmps53
 go_wp2
 go_ret
 exact ⟨rfl, by go_grown⟩
theorem nstar (p : Pt) (w : World) : Calls Tryz.prog 16 #[.pointer none, .agg #[.int .i64 p.x, .int .i64 p.y]] w fun e w' => e = .returned (.slice none 0 0) ∧ Below w.heap.size w w' := by
 go_enter Tryz.func16, Tryz.ntmps16
 go_wp2_with fail
 refine zA1 fun W1 hW => ?_
 have hw : Below w.heap.size w W1 := by rw [hW]; go_grown
 clear hW
 refine (nthose _ _).mono ?_
 rintro e w2 ⟨rfl, hb⟩
 have hw2 := (upB hw hb)
 go_wp2
 go_ret
 exact ⟨rfl, hw2⟩
theorem nclosed (p : Pt) (w : World) : Calls Tryz.prog 18 #[.pointer none, .agg #[.int .i64 p.x, .int .i64 p.y]] w fun e w' => e = .returned (.bool false) ∧ Below w.heap.size w w' := by
 go_enter Tryz.func18, Tryz.ntmps18
 go_wp2_with fail
 refine zA1 fun W1 hW => ?_
 have hw : Below w.heap.size w W1 := by rw [hW]; go_grown
 clear hW
 refine (nstar p _).mono ?_
 rintro e w2 ⟨rfl, hb⟩
 have hw2 := (upB hw hb)
 clear hb hw
 go_wp2_with fail
 refine wp_loop_rounds 1 ?_
 try rw [rounds_succ]
 go_wp2_with fail
 go_ret
 exact ⟨rfl, hw2⟩
theorem trCl (T : Tri3) (p q : Pt) (pb qb : Nat) (w : World) (Bp : Box w pb [.int .i64 p.x, .int .i64 p.y] 30) (Bq : Box w qb [.int .i64 q.x, .int .i64 q.y] 30) : Calls Tryz.prog 60 #[.agg #[.int .i64 T.A.x, .int .i64 T.A.y, .int .i64 T.B.x, .int .i64 T.B.y, .int .i64 T.C.x, .int .i64 T.C.y], .pointer (some ⟨pb, 0, none⟩), .pointer (some ⟨qb, 0, none⟩)] w fun e w' => e = .returned (.bool (alg T p q)) ∧ Below w.heap.size w w' := by
 have ch := alg_any T p q
 generalize alg T p q = z at *
 have Fp := Bp.facts
 have Fq := Bq.facts
 go_enter Tryz.func60, Tryz.ntmps60
 go_wp2_with fail
 refine zA1 fun W1 hW => ?_
 have hw : Below w.heap.size w W1 := by rw [hW]; go_grown
 clear hW
 refine (ch _).mono ?_
 rintro e w2 ⟨rfl, hb⟩
 have hw2 := (upB hw hb)
 clear hb hw ch Fp Fq
 go_wp2
 go_ret
 exact ⟨rfl, hw2⟩
theorem trEnter : ∀ args w, (callFunc 60 args).run Tryz.prog w = .ok (.enter 60 args) w := enters_of Tryz.func60 (by kernel_rfl) rfl
theorem zD9 (mb b : Nat) (E : Es) (p q : Pt) (hE : E.length ≤ 1000000) (w : World) (Bm : Box w mb [.map (some b)] 89) (Hm : HoldsMap eW eT okW w b E) :
    Calls Tryz.prog 22 #[.pointer (some ⟨mb, 0, none⟩), .agg #[.int .i64 p.x, .int .i64 p.y], .agg #[.int .i64 q.x, .int .i64 q.y]] w fun e w' => ∃ a cap, e = .returned (.slice a (srt cmpT (heads (fun T => alg T p q) E)).length cap) ∧ RowAt cT 6 w' a (srt cmpT (heads (fun T => alg T p q) E)) ∧ Below w.heap.size w w' := by
 obtain ⟨f, ef⟩ : ∃ f : Tri3 → Bool, f = (fun T => alg T p q) := ⟨_, rfl⟩
 rw [← ef]
 have cc : ∀ (T : Tri3) (pb qb : Nat) (W : World), Box W pb [.int .i64 p.x, .int .i64 p.y] 30 → Box W qb [.int .i64 q.x, .int .i64 q.y] 30 → Calls Tryz.prog 60 #[.agg #[.int .i64 T.A.x, .int .i64 T.A.y, .int .i64 T.B.x, .int .i64 T.B.y, .int .i64 T.C.x, .int .i64 T.C.y], .pointer (some ⟨pb, 0, none⟩), .pointer (some ⟨qb, 0, none⟩)] W fun e w' => e = .returned (.bool (f T)) ∧ Below W.heap.size W w' := fun T pb qb W B B2 => by rw [ef]; exact trCl T p q pb qb W B B2
 clear ef
 go_enter Tryz.func22, Tryz.ntmps22
 go_wp2_with fail
 refine zA1 fun W1 hW => ?_
 have Bp : Box W1 w.heap.size [.int .i64 p.x, .int .i64 p.y] 30 := by rw [hW]; exact (Box.new rfl).old _
 have Bq : Box W1 (w.heap.size + 1) [.int .i64 q.x, .int .i64 q.y] 30 := by rw [hW]; exact Box.new (by simp)
 have hw : Below w.heap.size w W1 := by rw [hW]; go_grown
 clear hW
 refine (zFc mb b E 60 #[.pointer (some ⟨w.heap.size, 0, none⟩), .pointer (some ⟨w.heap.size + 1, 0, none⟩)] f hE W1 (Bm.ee hw) (Hm.ee hw) trEnter (fun T W hW => cc T _ _ W (Bp.ee hW) (Bq.ee hW))).mono ?_
 rintro e w2 ⟨a, cap, rfl, hr, hb⟩
 have hw2 := (upB hw hb)
 go_wp2
 go_ret
 exact ⟨a, cap, rfl, hr, hw2⟩
theorem row_one {w : World} {b : Nat} {x : Int} {T : TypeId} (h : Box w b [.int .i64 x] T) : RowAt cI 1 w (some ⟨b, 0, none⟩) [x] := fun j y hy => by
 match j, hy with
 | 0, hy =>
  simp only [List.getElem?_cons_zero, Option.some.injEq] at hy
  subst hy
  refine ⟨_, rfl, h.lt, fun i u hu => ?_⟩
  have := h.facts.1 i
  rw [Addr.add_lit, Addr.add_lit]
  simpa [cI] using this.trans hu
 | j + 1, hy => simp at hy
theorem zBk (w : World) : Calls Tryz.prog 12 #[] w fun e w' => e = .returned (.bool true) ∧ Below w.heap.size w w' := by
 go_enter Tryz.func12, Tryz.ntmps12
 go_wp2_with fail
 refine zA1 fun W1 hW => ?_
 have BI : Box W1 w.heap.size [.int .i64 4] 3 := by rw [hW]; exact Box.new rfl
 have hw1 : Below w.heap.size w W1 := by rw [hW]; go_grown
 clear hW
 refine (zDl 2 (by decide) (by decide) _ 1 1 0 [4] (Lib.hid rfl) (by decide) _ (row_one BI)).mono ?_
 rintro e w2 ⟨m2, b2, cb, mb, b, db, v, E, E0, L, D, rfl, B2, H2, G2, S, hI, hC, hl, _, hb, _, _, _, _, _, _⟩
 have hb0 := (upB hw1 hb)
 have F := two_facts G2 hI.fix.tiles hC
 have hE : E.length ≤ 1000000 := by rw [G2.len]; have : L.length ≤ 2 + 2 * 1 := hl; omega
 have hok : ∀ p T, T ∈ starW E p → okT T := fun p T h => zBz (G2.val T ((zB9 G2).1 h).1)
 obtain ⟨F1, F2, F3, F4, F5, F6, F7⟩ := F
 have c1 := fun W B H => zH2 m2 b2 E ⟨1, 1⟩ hE W B H
 have c2 := fun W B H => zE3 m2 b2 E ⟨1, 1⟩ hE W B H
 have c3 := fun W B H => zDk m2 b2 E ⟨1, 1⟩ hE (hok _) W B H
 have c4 := fun W B H => zDk m2 b2 E ⟨0, 0⟩ hE (hok _) W B H
 have c5 := fun W B H => zH2 m2 b2 E ⟨1, 0⟩ hE W B H
 have c6 := fun W B H => zD9 m2 b2 E ⟨0, 0⟩ ⟨1, 1⟩ hE W B H
 have c7 := fun W B H => zD9 m2 b2 E ⟨1, 1⟩ ⟨1, 1⟩ hE W B H
 unfold atE at F1 F3
 unfold starW at F2
 rw [F1] at c1
 rw [F2] at c2
 rw [F6] at c3
 rw [F7] at c4
 rw [F3] at c5
 rw [F4] at c6
 rw [F5] at c7
 have c8 := nstar ⟨1, 1⟩
 have c9 := nclosed ⟨1, 1⟩
 clear F1 F2 F3 F4 F5 F6 F7 hok hE hl hI hC S G2 BI hw1 hb
 have hw : Below w2.heap.size w2 w2 := Below.refl _ _
 go_wp2_with fail
 refine zA1 fun W11 hW => ?_
 obtain ⟨bkp, hbp⟩ : ∃ b, w2.heap.size = b := ⟨_, rfl⟩
 rw [hbp]
 have fp := hw.size
 rw [hbp] at fp
 have Bp : Box W11 bkp [.int .i64 1, .int .i64 1] 30 := by rw [hW]; exact Box.new hbp.symm
 replace hw : Below w2.heap.size w2 W11 := by have hl := hw.size; rw [hW]; go_grown
 clear hW hbp
 refine (c1 _ (B2.ee hw) (H2.ee hw)).mono ?_
 rintro e w12 ⟨a, cap, rfl, _, hb⟩
 replace Bp := Bp.ee hb
 replace hw := upB hw hb
 clear hb
 have Fp := Bp.facts
 go_wp2_with fail
 refine (c2 _ (B2.ee hw) (H2.ee hw)).mono ?_
 rintro e w13 ⟨a, cap, rfl, _, hb⟩
 clear Fp
 replace Bp := Bp.ee hb
 replace hw := upB hw hb
 clear hb
 have Fp := Bp.facts
 go_wp2_with fail
 refine (c3 _ (B2.ee hw) (H2.ee hw)).mono ?_
 rintro e w14 ⟨rfl, hb⟩
 clear Fp
 replace Bp := Bp.ee hb
 replace hw := upB hw hb
 clear hb
 have Fp := Bp.facts
 go_wp2_with fail
 refine (c4 _ (B2.ee hw) (H2.ee hw)).mono ?_
 rintro e w15 ⟨rfl, hb⟩
 clear Fp
 replace Bp := Bp.ee hb
 replace hw := upB hw hb
 clear hb
 have Fp := Bp.facts
 go_wp2_with fail
 refine (c5 _ (B2.ee hw) (H2.ee hw)).mono ?_
 rintro e w16 ⟨a, cap, rfl, _, hb⟩
 clear Fp
 replace Bp := Bp.ee hb
 replace hw := upB hw hb
 clear hb
 have Fp := Bp.facts
 go_wp2_with fail
 refine (c6 _ (B2.ee hw) (H2.ee hw)).mono ?_
 rintro e w17 ⟨a, cap, rfl, _, hb⟩
 clear Fp
 replace Bp := Bp.ee hb
 replace hw := upB hw hb
 clear hb
 have Fp := Bp.facts
 go_wp2_with fail
 refine (c7 _ (B2.ee hw) (H2.ee hw)).mono ?_
 rintro e w18 ⟨a, cap, rfl, _, hb⟩
 clear Fp
 replace Bp := Bp.ee hb
 replace hw := upB hw hb
 clear hb
 have Fp := Bp.facts
 go_wp2_with fail
 refine (c8 _).mono ?_
 rintro e w19 ⟨rfl, hb⟩
 clear Fp
 replace Bp := Bp.ee hb
 replace hw := upB hw hb
 clear hb
 have Fp := Bp.facts
 go_wp2_with fail
 refine (c9 _).mono ?_
 rintro e w20 ⟨rfl, hb⟩
 clear Fp
 replace Bp := Bp.ee hb
 replace hw := upB hw hb
 clear hb
 have Fp := Bp.facts
 go_wp2_with fail
 go_ret
 exact ⟨rfl, (upB hb0 hw)⟩
theorem zD5 (s : Int) (a0 a1 : Option Addr) (n m c0 c1 : Nat) (w : World) : Calls Tryz.prog 11 #[.int .i64 s, .slice a0 n c0, .slice a1 m c1] w fun e w' => e = .returned (.bool (decide (1 ≤ s) && (decide (s ≤ 40) && (decide (n ≤ 25) && decide (m ≤ 12))))) ∧ Below w.heap.size w w' := by
 have e1 : decide (1 ≤ s) = decide ((1 : Int) ≤ s) := rfl
 have e3 : decide (n ≤ 25) = decide ((n : Int) ≤ 25) := by simp; omega
 have e4 : decide (m ≤ 12) = decide ((m : Int) ≤ 12) := by simp; omega
 rw [e3, e4]
 clear e1 e3 e4
 cases h1 : decide ((1 : Int) ≤ s) <;> cases h2 : decide (s ≤ 40) <;> cases h3 : decide ((n : Int) ≤ 25) <;> cases h4 : decide ((m : Int) ≤ 12)
 all_goals
  go_enter Tryz.func11, Tryz.ntmps11
  go_wp2
  go_ret
  exact ⟨rfl, by go_grown⟩
def rimB (s : Int) (q : Pt) : Bool := q.x == 0 || (q.y == 0 || (q.x == s || q.y == s))
def outB (s : Int) (q : Pt) : Bool := decide (q.x < 0) || (decide (q.y < 0) || (decide (s < q.x) || decide (s < q.y)))
theorem zFi {s : Int} {q : Pt} : rimB s q = true ↔ atRim s s q := by
 unfold rimB atRim; simp [Bool.or_eq_true, beq_iff_eq]
theorem outB_iff {s : Int} {q : Pt} : outB s q = true ↔ ¬ inBox s s q := by
 unfold outB inBox; simp only [Bool.or_eq_true, decide_eq_true_eq]; omega
theorem wc_facts {s : Int} {E : Es} {L : List Tri3} (hs : 0 < s) (hs2 : s ≤ 60) (G : Good E L) (t : Tiles s s L) {q : Pt} (hq : inBox s s q) :
    (0 < (starW E q).length ∧ atE E q = starW E q ∧ closedW E q = !(rimB s q)) ∨ (starW E q = [] ∧ ∃ T, atE E q = [T] ∧ (insP T q = true ∨ rimB s q = true)) ∨ (starW E q = [] ∧ (atE E q).length = 2 ∧ rimB s q = false) := by
 by_cases hc : someC L q
 ·refine .inl ⟨?_, zK4 G t (by omega) (by omega) hq hc, ?_⟩
  ·obtain ⟨T, hT, hcT⟩ := hc
   exact List.length_pos_of_mem ((zB9 G).2 ⟨hT, zC1.2 hcT⟩)
  ·have h := zDj G t hc
   rw [← zFi] at h
   cases e1 : closedW E q <;> cases e2 : rimB s q <;> simp [e1, e2] at h ⊢
 ·right
  have hn := (star_none G hc).1
  rcases at_rest G t (by omega) (by omega) hs hs hq hc with ⟨T, hT, hA, h⟩ | ⟨hl, h⟩
  ·refine .inl ⟨hn, T, hA, ?_⟩
   rcases h with h | h
   ·left
    have vq : vld q = true := by rw [zAm]; unfold inBox at hq; omega
    exact (insP_iff (G.val T hT) vq).2 h
   ·exact .inr (zFi.2 h)
  ·refine .inr ⟨hn, hl, ?_⟩
   cases e : rimB s q with
   | false => rfl
   | true => exact absurd (zFi.1 e) h
theorem wc_no (s : Int) (a0 : Option Addr) (n c0 : Nat) (p x y : Int) (hf : (decide (1 ≤ s) && (decide (s ≤ 40) && (decide (n ≤ 25) && decide (0 ≤ 12)))) = false) (w : World) :
    Calls Tryz.prog 3 #[.int .i64 s, .slice a0 n c0, .int .i64 p, .int .i64 x, .int .i64 y] w fun e w' => e = .returned (.bool true) ∧ Below w.heap.size w w' := by
 have cf := zD5 s a0 none n 0 c0 0
 simp only [hf] at cf
 clear hf
 go_enter Tryz.func3, Tryz.ntmps3
 go_wp2_with fail
 refine (cf _).mono ?_
 rintro e w1 ⟨rfl, hb1⟩
 clear cf
 go_wp2_with fail
 refine (zBk _).mono ?_
 rintro e w2 ⟨rfl, hb2⟩
 go_wp2
 go_ret
 exact ⟨rfl, (upB hb1 hb2)⟩
theorem wc_yes (s : Int) (hs : 0 < s) (hs2 : s ≤ 40) (a0 : Option Addr) (n c0 : Nat) (hn : n ≤ 25) (P : List Int) (hP : Hid (P.length = n)) (p x y : Int) (w : World) (h0 : RowAt cI 1 w a0 P) :
    Calls Tryz.prog 3 #[.int .i64 s, .slice a0 n c0, .int .i64 p, .int .i64 x, .int .i64 y] w fun e w' => e = .returned (.bool true) ∧ Below w.heap.size w w' := by
 have cf := zD5 s a0 none n 0 c0 0
 have hf : (decide (1 ≤ s) && (decide (s ≤ 40) && (decide (n ≤ 25) && decide (0 ≤ 12)))) = true := by simp; omega
 simp only [hf] at cf
 have HN := Lib.hid hn
 have HS := Lib.hid hs
 have HS2 := Lib.hid hs2
 have csp := zFe s p hs (by omega)
 have hin := Lib.hid (zGa hs p)
 generalize spt s p = q at csp hin
 clear hf hn hs hs2
 go_enter Tryz.func3, Tryz.ntmps3
 go_wp2_with fail
 refine (cf _).mono ?_
 rintro e w1 ⟨rfl, hb1⟩
 clear cf
 go_wp2_with fail
 refine (zDl s HS.out (by have := HS2.out; omega) a0 n c0 0 P hP (by have := HN.out; omega) _ (h0.ee hb1)).mono ?_
 rintro e w2 ⟨m2, b2, cb, mb, b, db, v, E, E0, L, D, rfl, B2, H2, G2, S, hI, hC, hl, _, hb, _, _, _, _, _, _⟩
 have hb0 := (upB hb1 hb)
 have ht : Tiles s s L := hI.fix.tiles
 have hF := Lib.hid (wc_facts HS.out (by have := HS2.out; omega) G2 ht hin.out)
 have hO := Lib.hid (show ((atE E ⟨x, y⟩).length == 0) = outB s ⟨x, y⟩ from by
  have h1 := at_out (p := ⟨x, y⟩) G2 ht (by have := HS2.out; omega) (by have := HS2.out; omega) HS.out HS.out
  have h2 := outB_iff (s := s) (q := ⟨x, y⟩)
  rw [← h1] at h2
  rw [Bool.eq_iff_iff, h2]
  simp)
 have hlL : L.length ≤ 100 := by have := HN.out; have := hP.out; omega
 have hE : E.length ≤ 1000000 := by rw [G2.len]; omega
 have hE3 := Lib.hid G2.len
 have hlL2 : L.length ≤ 1000000 := by omega
 have hE03 := Lib.hid hI.good.len
 have hok : ∀ p T, T ∈ starW E p → okT T := fun p T h => zBz (G2.val T ((zB9 G2).1 h).1)
 have c1 := fun W B H => zH2 m2 b2 E q hE W B H
 have c2 := fun W B H => zE3 m2 b2 E q hE W B H
 have c3 := fun W B H => zDk m2 b2 E q hE (hok _) W B H
 have c6 := fun W B H => zH2 m2 b2 E ⟨x, y⟩ hE W B H
 have hP1 := Lib.hid (show (atE E q).length ≤ 1000000 from by
  unfold atE; rw [(zAd _).length_eq]; exact Nat.le_trans (zBe _ _) hE)
 unfold atE at hF hO hP1
 unfold starW at hF
 generalize srt cmpT (heads (fun T => hasP T q) E) = P1 at c1 hF hP1
 generalize srt cmpT (heads (isCb q) E) = P2 at c2 hF
 generalize closedW E q = CL at c3 hF
 generalize srt cmpT (heads (fun T => hasP T ⟨x, y⟩) E) = P6 at c6 hO
 have hM := Lib.hid H2
 have hD := Lib.hid S.map
 have BN := B2
 have BC := S.box
 have BM := S.mesh
 clear B2 H2 S hI hC hl hb hb1 G2 ht hlL hE hok h0
 have hw : Below w2.heap.size w2 w2 := Below.refl _ _
 go_wp2_with fail
 refine (csp _).mono ?_
 rintro e w11 ⟨rfl, hb⟩
 replace BN := BN.ee hb
 replace BC := BC.ee hb
 replace BM := BM.ee hb
 replace hw := upB hw hb
 clear hb
 obtain ⟨xN, yN, zN, vN⟩ := BN.facts
 obtain ⟨xC, yC, zC, vC⟩ := BC.facts
 obtain ⟨xM, yM, zM, vM⟩ := BM.facts
 go_wp2_with fail
 refine zA2 fun W12 hW => ?_
 obtain ⟨bkQ, hbQ⟩ : ∃ b, w11.heap.size = b := ⟨_, rfl⟩
 rw [hbQ]
 have lNQ := BN.lt
 rw [hbQ] at lNQ
 have lCQ := BC.lt
 rw [hbQ] at lCQ
 have lMQ := BM.lt
 rw [hbQ] at lMQ
 have fQ := hw.size
 rw [hbQ] at fQ
 have BQ : Box W12 bkQ [.int .i64 q.x, .int .i64 q.y] 30 := by rw [hW]; exact Box.new hbQ.symm
 replace BN : Box W12 (m2) [.map (some b2)] 89 := by rw [hW]; exact BN.old _
 replace BC : Box W12 (cb) [.int .i64 s, .int .i64 s, .pointer (some ⟨mb, 0, none⟩), .pointer (some ⟨db, 0, none⟩)] 45 := by rw [hW]; exact BC.old _
 replace BM : Box W12 (mb) [.map (some b)] 41 := by rw [hW]; exact BM.old _
 replace hw : Below w2.heap.size w2 W12 := by have hl := hw.size; rw [hW]; go_grown
 clear hW hbQ
 have gQ := BQ.cells
 have hcB : ∀ w', (∃ p : Regrown, w' = grow (redrawn W12 p.d) p.os) → Below W12.heap.size W12 w' := fun w' h => by obtain ⟨p, rfl⟩ := h; exact below_regrown _ _ _
 refine FT.wp_region_flow 6 (.run 0 (.run 1 (.run 3 (.run 4 (.alt 2 (.alt 5 .tail .stop) .stop))))) rfl (by kernel_rfl) (fun _ x _ _ _ h => by cases x <;> exact h) (C := fun w' => ∃ p : Regrown, w' = grow (redrawn W12 p.d) p.os) rgB hcB ?_
 have hC : ∀ x y, Ext x y → (∃ p : Regrown, x = grow (redrawn W12 p.d) p.os) → (∃ p : Regrown, y = grow (redrawn W12 p.d) p.os) := fun x y h1 h2 => regrown_of_below ((hcB x h2).trans (h1.mono (hcB x h2).size))
 iterate 4 (refine FT.flow_run rfl (fun K hK => ?_); go_simp; first | (refine hK _ ?_; clear hK K) | (apply Exists.intro; refine ⟨fun _ => ?_, hK _ ?_⟩; rotate_left; clear hK K))
 refine FT.flow_at hC rfl trivial (fun wa hwa K hK => ?_)
 go_simp
 refine (c1 wa (BN.ee hwa) ((hM.out.ee hw).ee hwa)).mono ?_
 rintro e wb ⟨a7, c7, rfl, hr7, hb7⟩
 have hbb := Below.trans hwa (hb7.mono (Below.size hwa))
 go_simp
 refine hK _ _ (regrown_of_below hbb) ?_
 clear hK K hb7 hwa
 refine FT.flow_at hC rfl trivial (fun wd hwd K hK => ?_)
 have hbd := (upB hbb hwd)
 go_simp
 refine (c2 wd (BN.ee hbd) ((hM.out.ee hw).ee hbd)).mono ?_
 rintro e we ⟨a8, c8, rfl, hr8, hb8⟩
 have hbe := (upB hbd hb8)
 go_simp
 refine hK _ _ (regrown_of_below hbe) ?_
 clear hK K
 intro wz hwz
 have hbz := (upB hbe hwz)
 have hr7z := Lib.hid (((hr7.ee hwd).ee hb8).ee hwz)
 have hr8z := Lib.hid (hr8.ee hwz)
 clear hr7 hr8 hwd hb8 hwz hbb hbd hbe hcB hC c1 c2 gQ
 replace BN := BN.ee hbz
 replace BC := BC.ee hbz
 replace BM := BM.ee hbz
 replace BQ := BQ.ee hbz
 replace hw := upB hw hbz
 clear hbz
 obtain ⟨R, hR⟩ : ∃ R, rimB s q = R := ⟨_, rfl⟩
 have HR := Lib.hid hR
 rw [hR] at hF
 clear hR
 obtain ⟨xN, yN, zN, vN⟩ := BN.facts
 obtain ⟨xC, yC, zC, vC⟩ := BC.facts
 obtain ⟨xM, yM, zM, vM⟩ := BM.facts
 obtain ⟨xQ, yQ, zQ, vQ⟩ := BQ.facts
 go_upto_region 8 with fail
 go_cut [16] from 19 (fun s16 wx => s16 = .bool R ∧ wz = wx)
 case first =>
  cases e1 : (q.x == 0) <;> cases e2 : (q.y == 0) <;> cases e3 : (q.x == s) <;> cases e4 : (q.y == s)
  all_goals
   go_wp2_with fail
   go_meet
   exact ⟨by rw [← HR.out]; simp [rimB, e1, e2, e3, e4], rfl⟩
 case rest =>
  obtain ⟨hu16, rfl⟩ := hcut
  subst hu16
  clear xQ yQ zQ vQ xN yN zN vN xC yC zC vC xM yM zM vM
  go_upto_block 0 with fail
  go_cut [] from 19 (fun wx => Below wz.heap.size wz wx)
  case first =>
   rcases hF.out with ⟨hp2, hp1, hcl⟩ | ⟨hp2, T, hp1, hcl⟩ | ⟨hp2, hp1, hcl⟩
   ·subst hp1 hcl
    have ca := zK6 a7 a8 c7 c8 P1 P1 wz hr7z.out hr8z.out hP1.out
    rw [decide_eq_true rfl] at ca
    have hM' := hM.out.ee hw
    have hq1 : (0 : Int) < (P1.length : Int) := by omega
    generalize P1.length = k1 at *
    cases R
    all_goals
     go_wp2_with fail
     refine ca.mono ?_
     rintro e wf ⟨rfl, hbf⟩
     obtain ⟨xQ, yQ, zQ, vQ⟩ := (BQ.ee hbf).facts
     go_wp2_with fail
     refine (c3 _ (BN.ee hbf) (hM'.ee hbf)).mono ?_
     rintro e wg ⟨rfl, hbg⟩
     go_wp2_with fail
     go_meet
     exact (upB hbf hbg)
   ·subst hp1 hp2
    have hr := hr7z.out
    obtain ⟨ad, A, ea, eA, hA6⟩ := hr.six (j := 0) (by simp)
    subst ea
    simp only [List.getElem_cons_zero, Nat.zero_mul] at hA6 eA
    have gA := hA6.cells
    have ci := rins_any T q
    have hi : insP T q = true ∨ (insP T q = false ∧ R = true) := by
     cases h : insP T q
     ·right; refine ⟨rfl, ?_⟩; rw [h] at hcl; simpa using hcl
     ·exact .inl rfl
    have gQ := BQ.cells
    clear hcl
    go_wp2_with fail
    rcases hi with hi | ⟨hi, hR1⟩
    all_goals
     rw [hi] at ci
     try subst hR1
     refine wp_region_tail 9 (by kernel_rfl) (by kernel_rfl) (C := fun w' => ∃ p : Regrown, w' = grow (redrawn wz p.d) p.os) rgB ?_
     simp only [tK1, tK0, dP1, dP0]
     repeat (first | (refine zA0 (Eq.refl false) ?_; simp only [Act.put, sT2, sT1, sT0]) | (refine rWalk_step (fun K hK => ?_); go_simp; first | (refine hK _ ?_; clear hK K) | (apply Exists.intro; refine ⟨fun _ => ?_, hK _ ?_⟩; (first | with_reducible exact toExt ci _); clear hK K)))
     refine rWalk_nil ?_
     intro wq hbq
     go_wp2_with fail
     go_meet
     exact hbq
   ·subst hp2
    generalize P1.length = k1 at *
    subst hp1 hcl
    go_wp2_with fail
    go_meet
    exact Below.refl _ _
  case rest =>
   replace hw := upB hw hcut
   replace BN := BN.ee hcut
   replace BC := BC.ee hcut
   replace BM := BM.ee hcut
   replace BQ := BQ.ee hcut
   clear hcut hr7z hr8z hF c3 hP1
   obtain ⟨xN, yN, zN, vN⟩ := BN.facts
   obtain ⟨xC, yC, zC, vC⟩ := BC.facts
   obtain ⟨xM, yM, zM, vM⟩ := BM.facts
   obtain ⟨xQ, yQ, zQ, vQ⟩ := BQ.facts
   go_upto_region 18 with fail
   refine zA2 fun W13 hW => ?_
   obtain ⟨bkO, hbO⟩ : ∃ b, wc.heap.size = b := ⟨_, rfl⟩
   rw [hbO]
   have lNO := BN.lt
   rw [hbO] at lNO
   have lCO := BC.lt
   rw [hbO] at lCO
   have lMO := BM.lt
   rw [hbO] at lMO
   have lQO := BQ.lt
   rw [hbO] at lQO
   have fO := hw.size
   rw [hbO] at fO
   have BO : Box W13 bkO [.int .i64 x, .int .i64 y] 30 := by rw [hW]; exact Box.new hbO.symm
   replace BN : Box W13 (m2) [.map (some b2)] 89 := by rw [hW]; exact BN.old _
   replace BC : Box W13 (cb) [.int .i64 s, .int .i64 s, .pointer (some ⟨mb, 0, none⟩), .pointer (some ⟨db, 0, none⟩)] 45 := by rw [hW]; exact BC.old _
   replace BM : Box W13 (mb) [.map (some b)] 41 := by rw [hW]; exact BM.old _
   replace BQ : Box W13 (bkQ) [.int .i64 q.x, .int .i64 q.y] 30 := by rw [hW]; exact BQ.old _
   replace hw : Below w2.heap.size w2 W13 := by have hl := hw.size; rw [hW]; go_grown
   clear hW hbO
   obtain ⟨xN, yN, zN, vN⟩ := BN.facts
   obtain ⟨xC, yC, zC, vC⟩ := BC.facts
   obtain ⟨xM, yM, zM, vM⟩ := BM.facts
   obtain ⟨xQ, yQ, zQ, vQ⟩ := BQ.facts
   obtain ⟨xO, yO, zO, vO⟩ := BO.facts
   go_cut [18] from 19 (fun s18 wx => s18 = .bool (outB s ⟨x, y⟩) ∧ W13 = wx)
   case first =>
    cases e1 : decide (x < 0) <;> cases e2 : decide (y < 0) <;> cases e3 : decide (s < x) <;> cases e4 : decide (s < y)
    all_goals
     go_wp2_with fail
     go_meet
     exact ⟨by simp [outB, e1, e2, e3, e4], rfl⟩
   case rest =>
    obtain ⟨hu18, rfl⟩ := hcut
    subst hu18
    have hO2 : ((P6.length : Int) == 0) = outB s ⟨x, y⟩ := by rw [← hO.out]; rw [Bool.eq_iff_iff]; simp
    have c7 := fun W B H => zIm m2 b2 E L.length hE3 hlL2 W B H
    generalize P6.length = k6 at *
    generalize L.length = lL at *
    have e1 : wrap64 (3 * (lL : Int)) = 3 * (lL : Int) := (by rw [w64]; omega)
    have e2 : (((3 * lL : Nat) : Int) == 3 * (lL : Int)) = true := by simp
    clear hO HS HS2 HN HR xQ yQ zQ vQ xN yN zN vN xC yC zC vC xM yM zM vM
    cases hob : outB s ⟨x, y⟩
    case' true => (obtain rfl : k6 = 0 := by rw [hob] at hO2; simpa using hO2)
    all_goals
     try rw [hob] at hO2
     clear hob
     go_wp2_with fail
     refine (c6 _ BN (hM.out.ee hw)).mono ?_
     rintro e wf ⟨a6, c6', rfl, _, hb6⟩
     replace BN := BN.ee hb6
     replace BC := BC.ee hb6
     replace BM := BM.ee hb6
     replace hw := upB hw hb6
     have hlen := ((hD.out.ee hw)).len (ty := 3) kvR
     rw [hE03.out] at hlen
     obtain ⟨xC2, yC2, zC2, vC2⟩ := BC.facts
     obtain ⟨xM2, yM2, zM2, vM2⟩ := BM.facts
     clear hb6
     go_wp2_with fail
     refine (c7 _ BN (hM.out.ee hw)).mono ?_
     rintro e wg ⟨rfl, hb7⟩
     replace hw := upB hw hb7
     clear xC2 yC2 zC2 vC2 xM2 yM2 zM2 vM2 hlen
     go_wp2_with fail
     refine (zBk _).mono ?_
     rintro e wh ⟨rfl, hb8⟩
     replace hw := upB hw hb8
     go_wp2
     go_ret
     exact ⟨rfl, (upB hb0 hw)⟩
structure Clp where
 (ln ld hn hd : Int)
def stp (f g : Int) (s : Clp) : Clp :=
 ⟨if f < 0 ∧ 0 < -f * s.ld - s.ln * (g - f) then -f else s.ln, if f < 0 ∧ 0 < -f * s.ld - s.ln * (g - f) then g - f else s.ld,
  if g < 0 ∧ f * s.hd - s.hn * (f - g) < 0 then f else s.hn, if g < 0 ∧ f * s.hd - s.hn * (f - g) < 0 then f - g else s.hd⟩
def edF (T : Tri3) (p : Pt) (n : Nat) : Int := det (crn T n) (crn T (n + 1)) p
def clp (T : Tri3) (a b : Pt) : Nat → Clp
 | 0 => ⟨0, 1, 1, 1⟩
 | n + 1 => stp (edF T a n) (edF T b n) (clp T a b n)
def bth (T : Tri3) (a b : Pt) (n : Nat) : Bool := decide (edF T a n < 0) && decide (edF T b n < 0)
def lst (s : Clp) : Bool := decide (sgn (s.ln * s.hd - s.hn * s.ld) < 0)
def sal (T : Tri3) (a b : Pt) : Bool := !bth T a b 0 && (!bth T a b 1 && (!bth T a b 2 && lst (clp T a b 3)))
def ralg (T : Tri3) (a b : Pt) : Bool := valT T && (vld a && (vld b && (!peqI a.x a.y b.x b.y && sal T a b)))
end Go.Proofs.YtmobnmjjmafibaaGreat
namespace Go.Proofs.YtmobnmjjmafibaaGreat
open Go.RowKit
theorem frle {a b c d e f : Int} (hd : 0 < d) (hb : 0 < b) (hf : 0 < f) (h1 : a * d ≤ c * b) (h2 : c * f ≤ e * d) : a * f ≤ e * b := by
 have e1 : a * d * f ≤ c * b * f := Int.mul_le_mul_of_nonneg_right h1 (by omega)
 have e2 : c * f * b ≤ e * d * b := Int.mul_le_mul_of_nonneg_right h2 (by omega)
 have e3 : d * (a * f) ≤ d * (e * b) := by grind
 exact Int.le_of_mul_le_mul_left e3 hd
theorem frlt {a b c d e f : Int} (hd : 0 < d) (hb : 0 < b) (hf : 0 < f) (h1 : a * d ≤ c * b) (h2 : c * f < e * d) : a * f < e * b := by
 have e1 : a * d * f ≤ c * b * f := Int.mul_le_mul_of_nonneg_right h1 (by omega)
 have e2 : c * f * b < e * d * b := Int.mul_lt_mul_of_pos_right h2 hb
 have e3 : d * (a * f) < d * (e * b) := by grind
 exact Int.lt_of_mul_lt_mul_left e3 (by omega)
theorem frlt2 {a b c d e f : Int} (hd : 0 < d) (hb : 0 < b) (hf : 0 < f) (h1 : a * d < c * b) (h2 : c * f ≤ e * d) : a * f < e * b := by
 have e1 : a * d * f < c * b * f := Int.mul_lt_mul_of_pos_right h1 hf
 have e2 : c * f * b ≤ e * d * b := Int.mul_le_mul_of_nonneg_right h2 (by omega)
 have e3 : d * (a * f) < d * (e * b) := by grind
 exact Int.lt_of_mul_lt_mul_left e3 (by omega)
structure ClpInv (F G : Nat → Int) (n : Nat) (s : Clp) : Prop where
 ln0 : 0 ≤ s.ln
 ld0 : 0 < s.ld
 hd0 : 0 < s.hd
 hn1 : s.hn ≤ s.hd
 lo : ∀ i, i < n → F i < 0 → -F i * s.ld ≤ s.ln * (G i - F i)
 loE : (s.ln = 0 ∧ s.ld = 1) ∨ ∃ i, i < n ∧ F i < 0 ∧ s.ln = -F i ∧ s.ld = G i - F i
 hi : ∀ i, i < n → G i < 0 → s.hn * (F i - G i) ≤ F i * s.hd
 hiE : (s.hn = 1 ∧ s.hd = 1) ∨ ∃ i, i < n ∧ G i < 0 ∧ s.hn = F i ∧ s.hd = F i - G i
theorem stp_inv {F G : Nat → Int} {n : Nat} {s : Clp} (h : ClpInv F G n s) (hb : ∀ i, i < n + 1 → ¬ (F i < 0 ∧ G i < 0)) : ClpInv F G (n + 1) (stp (F n) (G n) s) := by
 obtain ⟨ln0, ld0, hd0, hn1, lo, loE, hi, hiE⟩ := h
 have hbn := hb n (by omega)
 obtain ⟨ln, ld, hn, hd⟩ := s
 simp only at *
 have LE := Lib.hid loE
 have HE := Lib.hid hiE
 clear loE hiE
 have A : ∃ x y, (stp (F n) (G n) ⟨ln, ld, hn, hd⟩).ln = x ∧ (stp (F n) (G n) ⟨ln, ld, hn, hd⟩).ld = y ∧ 0 ≤ x ∧ 0 < y ∧ (∀ i, i < n + 1 → F i < 0 → -F i * y ≤ x * (G i - F i)) ∧ ((x = 0 ∧ y = 1) ∨ ∃ i, i < n + 1 ∧ F i < 0 ∧ x = -F i ∧ y = G i - F i) := by
  by_cases hc : F n < 0 ∧ 0 < -F n * ld - ln * (G n - F n)
  ·refine ⟨-F n, G n - F n, if_pos hc, if_pos hc, by omega, by omega, fun i hi hF => ?_, .inr ⟨n, by omega, hc.1, rfl, rfl⟩⟩
   by_cases e : i = n
   ·rw [e]; exact Int.le_refl _
   ·have := hb i hi
    exact frle ld0 (by omega) (by omega) (lo i (by omega) hF) (by omega)
  ·refine ⟨ln, ld, if_neg hc, if_neg hc, ln0, ld0, fun i hi hF => ?_, ?_⟩
   ·by_cases e : i = n
    ·rw [e] at hF ⊢
     have : ¬ 0 < -F n * ld - ln * (G n - F n) := fun k => hc ⟨hF, k⟩
     omega
    ·exact lo i (by omega) hF
   ·rcases LE.out with h | ⟨i, h1, h2⟩
    ·exact .inl h
    ·exact .inr ⟨i, by omega, h2⟩
 have AA := Lib.hid A
 clear A
 have B : ∃ x y, (stp (F n) (G n) ⟨ln, ld, hn, hd⟩).hn = x ∧ (stp (F n) (G n) ⟨ln, ld, hn, hd⟩).hd = y ∧ 0 < y ∧ x ≤ y ∧ (∀ i, i < n + 1 → G i < 0 → x * (F i - G i) ≤ F i * y) ∧ ((x = 1 ∧ y = 1) ∨ ∃ i, i < n + 1 ∧ G i < 0 ∧ x = F i ∧ y = F i - G i) := by
  by_cases hc : G n < 0 ∧ F n * hd - hn * (F n - G n) < 0
  ·refine ⟨F n, F n - G n, if_pos hc, if_pos hc, by omega, by omega, fun i hi' hF => ?_, .inr ⟨n, by omega, hc.1, rfl, rfl⟩⟩
   by_cases e : i = n
   ·rw [e]; exact Int.le_refl _
   ·have := hb i hi'
    exact frle hd0 (by omega) (by omega) (by omega) (hi i (by omega) hF)
  ·refine ⟨hn, hd, if_neg hc, if_neg hc, hd0, hn1, fun i hi' hF => ?_, ?_⟩
   ·by_cases e : i = n
    ·rw [e] at hF ⊢
     have : ¬ F n * hd - hn * (F n - G n) < 0 := fun k => hc ⟨hF, k⟩
     omega
    ·exact hi i (by omega) hF
   ·rcases HE.out with h | ⟨i, h1, h2⟩
    ·exact .inl h
    ·exact .inr ⟨i, by omega, h2⟩
 obtain ⟨x, y, ex, ey, a1, a2, a3, a4⟩ := AA.out
 obtain ⟨x', y', ex', ey', b1, b2, b3, b4⟩ := B
 generalize stp (F n) (G n) ⟨ln, ld, hn, hd⟩ = s at *
 subst ex ey ex' ey'
 exact ⟨a1, a2, b1, b2, a3, a4, b3, b4⟩
theorem zHx (T : Tri3) (a b : Pt) : ∀ n, (∀ i, i < n → ¬ (edF T a i < 0 ∧ edF T b i < 0)) → ClpInv (edF T a) (edF T b) n (clp T a b n)
 | 0, _ => ⟨by simp [clp], by simp [clp], by simp [clp], by simp [clp], fun i h => absurd h (by omega), .inl ⟨rfl, rfl⟩, fun i h => absurd h (by omega), .inl ⟨rfl, rfl⟩⟩
 | n + 1, h => by
  have := zHx T a b n (fun i hi => h i (by omega))
  exact stp_inv this h
def PPr (f g : Int) : Prop := 0 < f ∨ 0 < g ∨ (f = 0 ∧ g = 0)
def QQr (f g f' g' : Int) : Prop := f < 0 → g' < 0 → 0 < f' * g - f * g'
structure AL (f0 f1 f2 g0 g1 g2 : Int) : Prop where
 p0 : PPr f0 g0
 p1 : PPr f1 g1
 p2 : PPr f2 g2
 q01 : QQr f0 g0 f1 g1
 q02 : QQr f0 g0 f2 g2
 q10 : QQr f1 g1 f0 g0
 q12 : QQr f1 g1 f2 g2
 q20 : QQr f2 g2 f0 g0
 q21 : QQr f2 g2 f1 g1
theorem lst_iff (s : Clp) : lst s = true ↔ s.ln * s.hd < s.hn * s.ld := by
 unfold lst
 have := zAj (s.ln * s.hd - s.hn * s.ld)
 rw [decide_eq_true_eq]; omega
theorem bth_iff (T : Tri3) (a b : Pt) (n : Nat) : bth T a b n = false ↔ ¬ (edF T a n < 0 ∧ edF T b n < 0) := by
 unfold bth; rw [← Bool.not_eq_true, Bool.and_eq_true, decide_eq_true_eq, decide_eq_true_eq]
theorem zH4 (T : Tri3) (a b : Pt) : sal T a b = true ↔ (∀ i, i < 3 → ¬ (edF T a i < 0 ∧ edF T b i < 0)) ∧ (clp T a b 3).ln * (clp T a b 3).hd < (clp T a b 3).hn * (clp T a b 3).ld := by
 unfold sal
 simp only [Bool.and_eq_true, Bool.not_eq_true', bth_iff, lst_iff]
 constructor
 ·rintro ⟨h0, h1, h2, h3⟩
  refine ⟨fun i hi => ?_, h3⟩
  have : i = 0 ∨ i = 1 ∨ i = 2 := by omega
  rcases this with rfl | rfl | rfl
  ·exact h0
  ·exact h1
  ·exact h2
 ·rintro ⟨h, h3⟩
  exact ⟨h 0 (by omega), h 1 (by omega), h 2 (by omega), h3⟩
theorem al_pq {F G : Nat → Int} (hp : ∀ i, i < 3 → PPr (F i) (G i)) (hq : ∀ i j, i < 3 → j < 3 → i ≠ j → QQr (F i) (G i) (F j) (G j)) : AL (F 0) (F 1) (F 2) (G 0) (G 1) (G 2) :=
 ⟨hp 0 (by omega), hp 1 (by omega), hp 2 (by omega), hq 0 1 (by omega) (by omega) (by omega), hq 0 2 (by omega) (by omega) (by omega), hq 1 0 (by omega) (by omega) (by omega), hq 1 2 (by omega) (by omega) (by omega), hq 2 0 (by omega) (by omega) (by omega), hq 2 1 (by omega) (by omega) (by omega)⟩
theorem AL.p {F G : Nat → Int} (h : AL (F 0) (F 1) (F 2) (G 0) (G 1) (G 2)) (i : Nat) (hi : i < 3) : PPr (F i) (G i) := by
 have : i = 0 ∨ i = 1 ∨ i = 2 := by omega
 rcases this with rfl | rfl | rfl
 ·exact h.p0
 ·exact h.p1
 ·exact h.p2
theorem AL.q {F G : Nat → Int} (h : AL (F 0) (F 1) (F 2) (G 0) (G 1) (G 2)) (i j : Nat) (hi : i < 3) (hj : j < 3) : F i < 0 → G j < 0 → i ≠ j ∧ 0 < F j * G i - F i * G j := by
 intro hF hG
 have hn : i ≠ j := by
  intro e; subst e
  have := h.p i hi
  unfold PPr at this; omega
 refine ⟨hn, ?_⟩
 have h1 : i = 0 ∨ i = 1 ∨ i = 2 := by omega
 have h2 : j = 0 ∨ j = 1 ∨ j = 2 := by omega
 rcases h1 with rfl | rfl | rfl <;> rcases h2 with rfl | rfl | rfl <;> first
  | exact absurd rfl hn
  | exact h.q01 hF hG
  | exact h.q02 hF hG
  | exact h.q10 hF hG
  | exact h.q12 hF hG
  | exact h.q20 hF hG
  | exact h.q21 hF hG
theorem zJo (T : Tri3) (a b : Pt) : sal T a b = true ↔ AL (edF T a 0) (edF T a 1) (edF T a 2) (edF T b 0) (edF T b 1) (edF T b 2) := by
 rw [zH4]
 constructor
 ·rintro ⟨hb, hl⟩
  have I := zHx T a b 3 hb
  generalize clp T a b 3 = s at *
  obtain ⟨ln0, ld0, hd0, hn1, lo, loE, hi, hiE⟩ := I
  generalize edF T a = F at *
  generalize edF T b = G at *
  refine al_pq (fun i hi3 => ?_) (fun i j hi3 hj3 hij => ?_)
  ·have hbi := hb i hi3
   unfold PPr
   rcases Int.lt_trichotomy (F i) 0 with hF | hF | hF
   ·rcases Int.lt_trichotomy (G i) 0 with hG | hG | hG
    ·omega
    ·exfalso
     have h1 := lo i hi3 hF
     rw [hG] at h1
     have h2 : s.ld ≤ s.ln := by
      have e : -F i * s.ld ≤ -F i * s.ln := by rw [Int.mul_comm (-F i) s.ln]; simpa using h1
      exact Int.le_of_mul_le_mul_left e (by omega)
     have h3 : s.ld * s.hd ≤ s.ln * s.hd := Int.mul_le_mul_of_nonneg_right h2 (by omega)
     have h4 : s.hn * s.ld ≤ s.hd * s.ld := Int.mul_le_mul_of_nonneg_right hn1 (by omega)
     rw [Int.mul_comm s.hd s.ld] at h4
     omega
    ·omega
   ·rcases Int.lt_trichotomy (G i) 0 with hG | hG | hG
    ·exfalso
     have h1 := hi i hi3 hG
     rw [hF] at h1
     simp only [Int.zero_mul, Int.zero_sub] at h1
     have h2 : s.hn ≤ 0 := by
      rcases Int.lt_or_le 0 s.hn with k | k
      ·have := Int.mul_pos k (show 0 < -G i by omega)
       omega
      ·exact k
     have h3 : 0 ≤ s.ln * s.hd := Int.mul_nonneg ln0 (by omega)
     have h4 : s.hn * s.ld ≤ 0 := Int.mul_nonpos_of_nonpos_of_nonneg h2 (by omega)
     omega
    ·omega
    ·omega
   ·omega
  ·intro hF hG
   have hbi := hb i hi3
   have hbj := hb j hj3
   have h1 := frlt ld0 (show 0 < G i - F i by omega) hd0 (lo i hi3 hF) hl
   have h2 := frlt2 hd0 (show 0 < G i - F i by omega) (show 0 < F j - G j by omega) h1 (hi j hj3 hG)
   grind
 ·intro h
  have hb : ∀ i, i < 3 → ¬ (edF T a i < 0 ∧ edF T b i < 0) := fun i hi => by
   have := AL.p (F := edF T a) (G := edF T b) h i hi
   unfold PPr at this; omega
  refine ⟨hb, ?_⟩
  have I := zHx T a b 3 hb
  generalize clp T a b 3 = s at *
  obtain ⟨ln0, ld0, hd0, hn1, lo, loE, hi, hiE⟩ := I
  have P := AL.p (F := edF T a) (G := edF T b) h
  have Q := AL.q (F := edF T a) (G := edF T b) h
  clear h
  generalize edF T a = F at *
  generalize edF T b = G at *
  rcases loE with ⟨e1, e2⟩ | ⟨i, i3, hF, e1, e2⟩ <;> rcases hiE with ⟨e3, e4⟩ | ⟨j, j3, hG, e3, e4⟩ <;> rw [e1, e2, e3, e4]
  ·omega
  ·have := P j j3
   unfold PPr at this; omega
  ·have := P i i3
   unfold PPr at this; omega
  ·have := (Q i j i3 j3 hF hG).2
   grind
theorem al_mid {T : Tri3} {a b : Pt} (h : sal T a b = true) : ∃ r s : Int, 0 < r ∧ 0 < s ∧ ∀ i, i < 3 → ¬ (edF T a i = 0 ∧ edF T b i = 0) → 0 < r * edF T a i + s * edF T b i := by
 obtain ⟨hb, hl⟩ := (zH4 T a b).1 h
 have I := zHx T a b 3 hb
 generalize clp T a b 3 = s at *
 obtain ⟨ln0, ld0, hd0, hn1, lo, _, hi, _⟩ := I
 generalize edF T a = F at *
 generalize edF T b = G at *
 clear h
 obtain ⟨ln, ld, hn, hd⟩ := s
 simp only at *
 have k1 : 0 ≤ ln * hd := Int.mul_nonneg ln0 (by omega)
 have k2 : hn * ld ≤ hd * ld := Int.mul_le_mul_of_nonneg_right hn1 (by omega)
 refine ⟨2 * (hd * ld) - (ln * hd + hn * ld), ln * hd + hn * ld, by omega, by omega, fun i i3 hn0 => ?_⟩
 have hbi := hb i i3
 have lo := lo i i3
 have hi := hi i i3
 generalize F i = f at *
 generalize G i = g at *
 rcases Int.lt_or_le f 0 with hF | hF
 ·have h1 := lo hF
  have h2 : -f * ld * hd ≤ ln * (g - f) * hd := Int.mul_le_mul_of_nonneg_right h1 (by omega)
  have h3 : ln * hd * (g - f) < hn * ld * (g - f) := Int.mul_lt_mul_of_pos_right hl (by omega)
  grind
 ·rcases Int.lt_or_le g 0 with hG | hG
  ·have h1 := hi hG
   have h2 : hn * (f - g) * ld ≤ f * hd * ld := Int.mul_le_mul_of_nonneg_right h1 (by omega)
   have h3 : ln * hd * (f - g) < hn * ld * (f - g) := Int.mul_lt_mul_of_pos_right hl (by omega)
   grind
  ·have hr : 0 < 2 * (hd * ld) - (ln * hd + hn * ld) := by omega
   have hs : 0 < ln * hd + hn * ld := by omega
   generalize 2 * (hd * ld) - (ln * hd + hn * ld) = r at *
   generalize ln * hd + hn * ld = s at *
   rcases Int.lt_or_le 0 f with k | k
   ·have := Int.mul_pos hr k
    have := Int.mul_nonneg (show 0 ≤ s by omega) hG
    omega
   ·have hf0 : f = 0 := by omega
    have := Int.mul_pos hs (show 0 < g by omega)
    rw [hf0, Int.mul_zero]; omega
end Go.Proofs.YtmobnmjjmafibaaGreat
