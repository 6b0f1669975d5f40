/- A point in a triangle cuts it into three, whose areas are together its own; one on an edge into two: the law TriParts of package hectarelaw3 answers true at every input; no conditions. -/
import Derived.Test.YtbbmcbkmfehidaaRows
import Derived.Test.YtbbmcbkmfehidaaTrF
import Derived.Test.YtbbmcbkmfehidaaTrN
import Derived.Test.YtbbmcbkmfehidaaPost
import Derived.WalkKit
import Derived.WalkSpells
import Derived.WalkLawsBesides
import Derived.Deep.QuietTactic
import Derived.BigQuiet
import Derived.Lib.Hide
import Derived.Handy
import Derived.LoopTactic
import Derived.ProofKit
import Derived.Lib.SmallJoins
namespace Go.Proofs.Ytbbmcbkmfehidaa
open Go.RowKit Go.Sort Go.ChangeShapes Go.WideShapes Go.ChangeAt
attribute [local go_sem] rOper rAt rUpon cell_set sg_i64 sg_u64 alloc_cell alloc_frozen
attribute [local go_sem 10000] pt_eql pt_neq tri_eql
attribute [local irreducible] rWalk

theorem wrap_small2 {n : Int} {k : Nat} (h : 0 ≤ n ∧ n ≤ k) (h3 : k ≤ 1000) : wrap64 (n + 1) = n + 1 ∧ IntKind.i64.wrap (n + 1) = n + 1 := by
  rw [IntKind.wrap_i64, w64]; omega
theorem wrap_next2 (k : Nat) (h3 : k ≤ 1000) : wrap64 ((k : Int) + 1) = ((k + 1 : Nat) : Int) ∧ IntKind.i64.wrap ((k : Int) + 1) = ((k + 1 : Nat) : Int) := by
  rw [IntKind.wrap_i64, w64]; omega
theorem wrap_sum {n z : Int} {k : Nat} (h : 0 ≤ n ∧ n ≤ k * 562949886312450) (h2 : 0 ≤ z ∧ z ≤ 562949886312450) (h3 : k ≤ 1000) : wrap64 (n + z) = n + z ∧ IntKind.i64.wrap (n + z) = n + z := by
  rw [IntKind.wrap_i64, w64]; omega
set_option maxHeartbeats 1000000 in
theorem tpa_0 (a b c p : Pt) (h0 : (!decide (ori a b c = 0)) = false) (w : World) :
    Calls Try.prog 5 #[.agg #[.int .i64 a.x, .int .i64 a.y], .agg #[.int .i64 b.x, .int .i64 b.y], .agg #[.int .i64 c.x, .int .i64 c.y], .agg #[.int .i64 p.x, .int .i64 p.y]] w fun e w' => e = .returned (.bool true) ∧ Below w.heap.size w w' := by
  have cm := tmake_any a b c
  rw [h0] at cm
  clear h0
  generalize mk a b c = M at *
  go_enter Try.func5, Try.ntmps5
  go_wp2_with fail
  refine at_call fun W1 hW => ?_
  have Ba : Box W1 (w.heap.size) [.int .i64 a.x, .int .i64 a.y] 23 := by rw [hW]; exact (((Box.new rfl).old _).old _).old _
  have Bb : Box W1 (w.heap.size + 1) [.int .i64 b.x, .int .i64 b.y] 23 := by rw [hW]; exact ((Box.new (by simp)).old _).old _
  have Bc : Box W1 (w.heap.size + 1 + 1) [.int .i64 c.x, .int .i64 c.y] 23 := by rw [hW]; exact (Box.new (by simp)).old _
  have Bp : Box W1 (w.heap.size + 1 + 1 + 1) [.int .i64 p.x, .int .i64 p.y] 23 := by rw [hW]; exact Box.new (by simp)
  have hw : Below w.heap.size w W1 := by rw [hW]; go_grown
  clear hW
  refine (cm _).mono ?_
  rintro e w2 ⟨rfl, hb⟩
  replace Ba := Ba.ext hb rfl
  replace Bb := Bb.ext hb rfl
  replace Bc := Bc.ext hb rfl
  replace Bp := Bp.ext hb rfl
  replace hw := hw.trans (hb.mono hw.size)
  clear hb
  obtain ⟨xa, ya, za, va⟩ := Ba.facts
  obtain ⟨xb, yb, zb, vb⟩ := Bb.facts
  obtain ⟨xc, yc, zc, vc⟩ := Bc.facts
  obtain ⟨xp, yp, zp, vp⟩ := Bp.facts
  go_wp2_with fail
  refine at_call fun W3 hW => ?_
  obtain ⟨bkt, hbt⟩ : ∃ b, w2.heap.size = b := ⟨_, rfl⟩
  rw [hbt]
  have lat := Ba.lt
  rw [hbt] at lat
  have lbt := Bb.lt
  rw [hbt] at lbt
  have lct := Bc.lt
  rw [hbt] at lct
  have lpt := Bp.lt
  rw [hbt] at lpt
  have ft := hw.size
  rw [hbt] at ft
  have Bt : Box W3 bkt [.int .i64 M.A.x, .int .i64 M.A.y, .int .i64 M.B.x, .int .i64 M.B.y, .int .i64 M.C.x, .int .i64 M.C.y] 25 := by rw [hW]; exact Box.new hbt.symm
  replace Ba : Box W3 (w.heap.size) [.int .i64 a.x, .int .i64 a.y] 23 := by rw [hW]; exact Ba.old _
  replace Bb : Box W3 (w.heap.size + 1) [.int .i64 b.x, .int .i64 b.y] 23 := by rw [hW]; exact Bb.old _
  replace Bc : Box W3 (w.heap.size + 1 + 1) [.int .i64 c.x, .int .i64 c.y] 23 := by rw [hW]; exact Bc.old _
  replace Bp : Box W3 (w.heap.size + 1 + 1 + 1) [.int .i64 p.x, .int .i64 p.y] 23 := by rw [hW]; exact Bp.old _
  replace hw : Below w.heap.size w W3 := by have hl := hw.size; rw [hW]; go_grown
  clear hW hbt
  refine (awake_any _).mono ?_
  rintro e w4 ⟨rfl, hb⟩
  clear xa ya za va xb yb zb vb xc yc zc vc xp yp zp vp
  replace Ba := Ba.ext hb rfl
  replace Bb := Bb.ext hb rfl
  replace Bc := Bc.ext hb rfl
  replace Bp := Bp.ext hb rfl
  replace Bt := Bt.ext hb rfl
  replace hw := hw.trans (hb.mono hw.size)
  clear hb
  go_wp2
  go_ret
  exact ⟨rfl, hw⟩

set_option maxHeartbeats 1000000 in
theorem tpa_1 (a b c p : Pt) (h0 : (!decide (ori a b c = 0)) = true) (h1 : hasP (mk a b c) p = false) (w : World) :
    Calls Try.prog 5 #[.agg #[.int .i64 a.x, .int .i64 a.y], .agg #[.int .i64 b.x, .int .i64 b.y], .agg #[.int .i64 c.x, .int .i64 c.y], .agg #[.int .i64 p.x, .int .i64 p.y]] w fun e w' => e = .returned (.bool true) ∧ Below w.heap.size w w' := by
  have cm := tmake_any a b c
  rw [h0] at cm
  have ch := has_any (mk a b c) p
  rw [has_eq, h1] at ch
  clear h0 h1
  generalize mk a b c = M at *
  go_enter Try.func5, Try.ntmps5
  go_wp2_with fail
  refine at_call fun W1 hW => ?_
  have Ba : Box W1 (w.heap.size) [.int .i64 a.x, .int .i64 a.y] 23 := by rw [hW]; exact (((Box.new rfl).old _).old _).old _
  have Bb : Box W1 (w.heap.size + 1) [.int .i64 b.x, .int .i64 b.y] 23 := by rw [hW]; exact ((Box.new (by simp)).old _).old _
  have Bc : Box W1 (w.heap.size + 1 + 1) [.int .i64 c.x, .int .i64 c.y] 23 := by rw [hW]; exact (Box.new (by simp)).old _
  have Bp : Box W1 (w.heap.size + 1 + 1 + 1) [.int .i64 p.x, .int .i64 p.y] 23 := by rw [hW]; exact Box.new (by simp)
  have hw : Below w.heap.size w W1 := by rw [hW]; go_grown
  clear hW
  refine (cm _).mono ?_
  rintro e w2 ⟨rfl, hb⟩
  replace Ba := Ba.ext hb rfl
  replace Bb := Bb.ext hb rfl
  replace Bc := Bc.ext hb rfl
  replace Bp := Bp.ext hb rfl
  replace hw := hw.trans (hb.mono hw.size)
  clear hb
  obtain ⟨xa, ya, za, va⟩ := Ba.facts
  obtain ⟨xb, yb, zb, vb⟩ := Bb.facts
  obtain ⟨xc, yc, zc, vc⟩ := Bc.facts
  obtain ⟨xp, yp, zp, vp⟩ := Bp.facts
  go_wp2_with fail
  refine at_call fun W3 hW => ?_
  obtain ⟨bkt, hbt⟩ : ∃ b, w2.heap.size = b := ⟨_, rfl⟩
  rw [hbt]
  have lat := Ba.lt
  rw [hbt] at lat
  have lbt := Bb.lt
  rw [hbt] at lbt
  have lct := Bc.lt
  rw [hbt] at lct
  have lpt := Bp.lt
  rw [hbt] at lpt
  have ft := hw.size
  rw [hbt] at ft
  have Bt : Box W3 bkt [.int .i64 M.A.x, .int .i64 M.A.y, .int .i64 M.B.x, .int .i64 M.B.y, .int .i64 M.C.x, .int .i64 M.C.y] 25 := by rw [hW]; exact Box.new hbt.symm
  replace Ba : Box W3 (w.heap.size) [.int .i64 a.x, .int .i64 a.y] 23 := by rw [hW]; exact Ba.old _
  replace Bb : Box W3 (w.heap.size + 1) [.int .i64 b.x, .int .i64 b.y] 23 := by rw [hW]; exact Bb.old _
  replace Bc : Box W3 (w.heap.size + 1 + 1) [.int .i64 c.x, .int .i64 c.y] 23 := by rw [hW]; exact Bc.old _
  replace Bp : Box W3 (w.heap.size + 1 + 1 + 1) [.int .i64 p.x, .int .i64 p.y] 23 := by rw [hW]; exact Bp.old _
  replace hw : Below w.heap.size w W3 := by have hl := hw.size; rw [hW]; go_grown
  clear hW hbt
  refine (ch _).mono ?_
  rintro e w4 ⟨rfl, hb⟩
  clear xa ya za va xb yb zb vb xc yc zc vc xp yp zp vp
  replace Ba := Ba.ext hb rfl
  replace Bb := Bb.ext hb rfl
  replace Bc := Bc.ext hb rfl
  replace Bp := Bp.ext hb rfl
  replace Bt := Bt.ext hb rfl
  replace hw := hw.trans (hb.mono hw.size)
  clear hb
  obtain ⟨xa, ya, za, va⟩ := Ba.facts
  obtain ⟨xb, yb, zb, vb⟩ := Bb.facts
  obtain ⟨xc, yc, zc, vc⟩ := Bc.facts
  obtain ⟨xp, yp, zp, vp⟩ := Bp.facts
  obtain ⟨xt, yt, zt, vt⟩ := Bt.facts
  go_wp2_with fail
  refine (awake_any _).mono ?_
  rintro e w5 ⟨rfl, hb⟩
  clear xa ya za va xb yb zb vb xc yc zc vc xp yp zp vp xt yt zt vt
  replace Ba := Ba.ext hb rfl
  replace Bb := Bb.ext hb rfl
  replace Bc := Bc.ext hb rfl
  replace Bp := Bp.ext hb rfl
  replace Bt := Bt.ext hb rfl
  replace hw := hw.trans (hb.mono hw.size)
  clear hb
  go_wp2
  go_ret
  exact ⟨rfl, hw⟩

set_option maxRecDepth 100000 in
set_option maxHeartbeats 4000000 in
theorem tpa_2 (a b c p : Pt) (h0 : (!decide (ori a b c = 0)) = true) (h1 : hasP (mk a b c) p = true) (w : World) :
    Calls Try.prog 5 #[.agg #[.int .i64 a.x, .int .i64 a.y], .agg #[.int .i64 b.x, .int .i64 b.y], .agg #[.int .i64 c.x, .int .i64 c.y], .agg #[.int .i64 p.x, .int .i64 p.y]] w fun e w' => e = .returned (.bool true) ∧ Below w.heap.size w w' := by
  have cm := tmake_any a b c
  rw [h0] at cm
  have ch := has_any (mk a b c) p
  rw [has_eq, h1] at ch
  have HF := Lib.hid (parts_fin h1).1
  have HS := Lib.hid (parts_fin h1).2
  clear h0 h1
  generalize mk a b c = M at *
  go_enter Try.func5, Try.ntmps5
  go_wp2_with fail
  refine at_call fun W1 hW => ?_
  have Ba : Box W1 (w.heap.size) [.int .i64 a.x, .int .i64 a.y] 23 := by rw [hW]; exact (((Box.new rfl).old _).old _).old _
  have Bb : Box W1 (w.heap.size + 1) [.int .i64 b.x, .int .i64 b.y] 23 := by rw [hW]; exact ((Box.new (by simp)).old _).old _
  have Bc : Box W1 (w.heap.size + 1 + 1) [.int .i64 c.x, .int .i64 c.y] 23 := by rw [hW]; exact (Box.new (by simp)).old _
  have Bp : Box W1 (w.heap.size + 1 + 1 + 1) [.int .i64 p.x, .int .i64 p.y] 23 := by rw [hW]; exact Box.new (by simp)
  have hw : Below w.heap.size w W1 := by rw [hW]; go_grown
  clear hW
  refine (cm _).mono ?_
  rintro e w2 ⟨rfl, hb⟩
  replace Ba := Ba.ext hb rfl
  replace Bb := Bb.ext hb rfl
  replace Bc := Bc.ext hb rfl
  replace Bp := Bp.ext hb rfl
  replace hw := hw.trans (hb.mono hw.size)
  clear hb
  obtain ⟨xa, ya, za, va⟩ := Ba.facts
  obtain ⟨xb, yb, zb, vb⟩ := Bb.facts
  obtain ⟨xc, yc, zc, vc⟩ := Bc.facts
  obtain ⟨xp, yp, zp, vp⟩ := Bp.facts
  go_wp2_with fail
  refine at_call fun W3 hW => ?_
  obtain ⟨bkt, hbt⟩ : ∃ b, w2.heap.size = b := ⟨_, rfl⟩
  rw [hbt]
  have lat := Ba.lt
  rw [hbt] at lat
  have lbt := Bb.lt
  rw [hbt] at lbt
  have lct := Bc.lt
  rw [hbt] at lct
  have lpt := Bp.lt
  rw [hbt] at lpt
  have ft := hw.size
  rw [hbt] at ft
  have Bt : Box W3 bkt [.int .i64 M.A.x, .int .i64 M.A.y, .int .i64 M.B.x, .int .i64 M.B.y, .int .i64 M.C.x, .int .i64 M.C.y] 25 := by rw [hW]; exact Box.new hbt.symm
  replace Ba : Box W3 (w.heap.size) [.int .i64 a.x, .int .i64 a.y] 23 := by rw [hW]; exact Ba.old _
  replace Bb : Box W3 (w.heap.size + 1) [.int .i64 b.x, .int .i64 b.y] 23 := by rw [hW]; exact Bb.old _
  replace Bc : Box W3 (w.heap.size + 1 + 1) [.int .i64 c.x, .int .i64 c.y] 23 := by rw [hW]; exact Bc.old _
  replace Bp : Box W3 (w.heap.size + 1 + 1 + 1) [.int .i64 p.x, .int .i64 p.y] 23 := by rw [hW]; exact Bp.old _
  replace hw : Below w.heap.size w W3 := by have hl := hw.size; rw [hW]; go_grown
  clear hW hbt
  refine (ch _).mono ?_
  rintro e w4 ⟨rfl, hb⟩
  clear xa ya za va xb yb zb vb xc yc zc vc xp yp zp vp
  replace Ba := Ba.ext hb rfl
  replace Bb := Bb.ext hb rfl
  replace Bc := Bc.ext hb rfl
  replace Bp := Bp.ext hb rfl
  replace Bt := Bt.ext hb rfl
  replace hw := hw.trans (hb.mono hw.size)
  clear hb
  obtain ⟨xa, ya, za, va⟩ := Ba.facts
  obtain ⟨xb, yb, zb, vb⟩ := Bb.facts
  obtain ⟨xc, yc, zc, vc⟩ := Bc.facts
  obtain ⟨xp, yp, zp, vp⟩ := Bp.facts
  obtain ⟨xt, yt, zt, vt⟩ := Bt.facts
  go_wp2_with fail
  refine at_world fun W9 hW => ?_
  replace hw : Below w.heap.size w W9 := by rw [hW]; exact hw
  replace Ba : Box W9 (w.heap.size) [.int .i64 a.x, .int .i64 a.y] 23 := by rw [hW]; exact Ba
  replace Bb : Box W9 (w.heap.size + 1) [.int .i64 b.x, .int .i64 b.y] 23 := by rw [hW]; exact Bb
  replace Bc : Box W9 (w.heap.size + 1 + 1) [.int .i64 c.x, .int .i64 c.y] 23 := by rw [hW]; exact Bc
  replace Bp : Box W9 (w.heap.size + 1 + 1 + 1) [.int .i64 p.x, .int .i64 p.y] 23 := by rw [hW]; exact Bp
  replace Bt : Box W9 (bkt) [.int .i64 M.A.x, .int .i64 M.A.y, .int .i64 M.B.x, .int .i64 M.B.y, .int .i64 M.C.x, .int .i64 M.C.y] 25 := by rw [hW]; exact Bt
  clear hW
  clear xa ya za va xb yb zb vb xc yc zc vc xp yp zp vp xt yt zt vt
  go_loopw [11, 12, 13] (fun u n i wr => ∃ k : Nat, k ≤ 3 ∧ u = .int .i64 (sumP M p k) ∧ n = .int .i64 (cntP M p k) ∧ i = .int .i64 k ∧ Below w.heap.size w wr ∧ Box wr (w.heap.size) [.int .i64 a.x, .int .i64 a.y] 23 ∧ Box wr (w.heap.size + 1) [.int .i64 b.x, .int .i64 b.y] 23 ∧ Box wr (w.heap.size + 1 + 1) [.int .i64 c.x, .int .i64 c.y] 23 ∧ Box wr (w.heap.size + 1 + 1 + 1) [.int .i64 p.x, .int .i64 p.y] 23 ∧ Box wr (bkt) [.int .i64 M.A.x, .int .i64 M.A.y, .int .i64 M.B.x, .int .i64 M.B.y, .int .i64 M.C.x, .int .i64 M.C.y] 25) (fun _ _ i _ => 3 - (intOf i).toNat)
  case atStart => exact ⟨0, by omega, rfl, rfl, rfl, hw, Ba, Bb, Bc, Bp, Bt⟩
  case round =>
    obtain ⟨k, k3, rfl, rfl, rfl, hw', Ca, Cb, Cc, Cp, Ct⟩ := hrel
    clear hw Ba Bb Bc Bp Bt
    have hw := hw'
    clear hw'
    have Ba := Ca
    clear Ca
    have Bb := Cb
    clear Cb
    have Bc := Cc
    clear Cc
    have Bp := Cp
    clear Cp
    have Bt := Ct
    clear Ct
    by_cases hk : k < 3
    · have hd : decide ((k : Int) < 3) = true := by simp; omega
      have ce := edge_any M k
      have co := tmake_any (crn M k) (crn M (k + 1)) p
      have cz := twi_any (mk (crn M k) (crn M (k + 1)) p)
      have eN : cntP M p (k + 1) = cntP M p k + (if ori (crn M k) (crn M (k + 1)) p = 0 then 0 else 1) := rfl
      have eS : sumP M p (k + 1) = sumP M p k + (if ori (crn M k) (crn M (k + 1)) p = 0 then 0 else twi (mk (crn M k) (crn M (k + 1)) p)) := rfl
      obtain ⟨wN, wN2⟩ := wrap_small2 (cntP_bd M p k) (by omega)
      obtain ⟨wS, wS2⟩ := wrap_sum (sumP_bd M p k) (twi_bd (mk (crn M k) (crn M (k + 1)) p)) (by omega)
      obtain ⟨wI, wI2⟩ := wrap_next2 k (by omega)
      generalize crn M (k + 1) = Y at *
      generalize crn M k = X at *
      cases hq : (!decide (ori X Y p = 0))
      · rw [if_pos (by simpa using hq)] at eN
        rw [if_pos (by simpa using hq)] at eS
        rw [hq] at co
        generalize ori X Y p = o at *
        clear hq
        generalize mk X Y p = R at *
        generalize cntP M p k = N at *
        generalize sumP M p k = S at *
        generalize twi R = Z at *
        have EN := Lib.hid eN
        have ES := Lib.hid eS
        clear eN eS
        as_aux_lemma =>
          obtain ⟨xa, ya, za, va⟩ := Ba.facts
          obtain ⟨xb, yb, zb, vb⟩ := Bb.facts
          obtain ⟨xc, yc, zc, vc⟩ := Bc.facts
          obtain ⟨xp, yp, zp, vp⟩ := Bp.facts
          obtain ⟨xt, yt, zt, vt⟩ := Bt.facts
          go_wp2_with fail
          refine (ce _).mono ?_
          rintro e w5 ⟨rfl, hb⟩
          clear xa ya za va xb yb zb vb xc yc zc vc xp yp zp vp xt yt zt vt
          replace Ba := Ba.ext hb rfl
          replace Bb := Bb.ext hb rfl
          replace Bc := Bc.ext hb rfl
          replace Bp := Bp.ext hb rfl
          replace Bt := Bt.ext hb rfl
          replace hw := hw.trans (hb.mono hw.size)
          clear hb
          obtain ⟨xa, ya, za, va⟩ := Ba.facts
          obtain ⟨xb, yb, zb, vb⟩ := Bb.facts
          obtain ⟨xc, yc, zc, vc⟩ := Bc.facts
          obtain ⟨xp, yp, zp, vp⟩ := Bp.facts
          obtain ⟨xt, yt, zt, vt⟩ := Bt.facts
          go_wp2_with fail
          refine at_call fun W6 hW => ?_
          obtain ⟨bkx, hbx⟩ : ∃ b, w5.heap.size = b := ⟨_, rfl⟩
          rw [hbx]
          have lax := Ba.lt
          rw [hbx] at lax
          have lbx := Bb.lt
          rw [hbx] at lbx
          have lcx := Bc.lt
          rw [hbx] at lcx
          have lpx := Bp.lt
          rw [hbx] at lpx
          have ltx := Bt.lt
          rw [hbx] at ltx
          have fx := hw.size
          rw [hbx] at fx
          have Bx : Box W6 (bkx) [.int .i64 X.x, .int .i64 X.y] 23 := by rw [hW, ← hbx]; exact (Box.new rfl).old _
          have By : Box W6 (bkx + 1) [.int .i64 Y.x, .int .i64 Y.y] 23 := by rw [hW, ← hbx]; exact Box.new (by simp)
          replace Ba : Box W6 (w.heap.size) [.int .i64 a.x, .int .i64 a.y] 23 := by rw [hW]; exact ((Ba).old _).old _
          replace Bb : Box W6 (w.heap.size + 1) [.int .i64 b.x, .int .i64 b.y] 23 := by rw [hW]; exact ((Bb).old _).old _
          replace Bc : Box W6 (w.heap.size + 1 + 1) [.int .i64 c.x, .int .i64 c.y] 23 := by rw [hW]; exact ((Bc).old _).old _
          replace Bp : Box W6 (w.heap.size + 1 + 1 + 1) [.int .i64 p.x, .int .i64 p.y] 23 := by rw [hW]; exact ((Bp).old _).old _
          replace Bt : Box W6 (bkt) [.int .i64 M.A.x, .int .i64 M.A.y, .int .i64 M.B.x, .int .i64 M.B.y, .int .i64 M.C.x, .int .i64 M.C.y] 25 := by rw [hW]; exact ((Bt).old _).old _
          replace hw : Below w.heap.size w W6 := by have hl := hw.size; rw [hW]; go_grown
          clear hW hbx
          refine (co _).mono ?_
          rintro e w7 ⟨rfl, hb⟩
          clear xa ya za va xb yb zb vb xc yc zc vc xp yp zp vp xt yt zt vt
          replace Ba := Ba.ext hb rfl
          replace Bb := Bb.ext hb rfl
          replace Bc := Bc.ext hb rfl
          replace Bp := Bp.ext hb rfl
          replace Bt := Bt.ext hb rfl
          replace Bx := Bx.ext hb rfl
          replace By := By.ext hb rfl
          replace hw := hw.trans (hb.mono hw.size)
          clear hb
          obtain ⟨xa, ya, za, va⟩ := Ba.facts
          obtain ⟨xb, yb, zb, vb⟩ := Bb.facts
          obtain ⟨xc, yc, zc, vc⟩ := Bc.facts
          obtain ⟨xp, yp, zp, vp⟩ := Bp.facts
          obtain ⟨xt, yt, zt, vt⟩ := Bt.facts
          obtain ⟨xx, yx, zx, vx⟩ := Bx.facts
          obtain ⟨xy, yy, zy, vy⟩ := By.facts
          go_wp2_with fail
          go_roundw
          case rel => exact ⟨k + 1, by omega, by rw [ES.out]; simp, by rw [EN.out]; simp, rfl, by have hl := hw.size; go_grown, Ba.old _, Bb.old _, Bc.old _, Bp.old _, Bt.old _⟩
          case measure => simp [intOf]; omega
      · rw [if_neg (by simpa using hq)] at eN
        rw [if_neg (by simpa using hq)] at eS
        rw [hq] at co
        generalize ori X Y p = o at *
        clear hq
        generalize mk X Y p = R at *
        generalize cntP M p k = N at *
        generalize sumP M p k = S at *
        generalize twi R = Z at *
        have EN := Lib.hid eN
        have ES := Lib.hid eS
        clear eN eS
        as_aux_lemma =>
          obtain ⟨xa, ya, za, va⟩ := Ba.facts
          obtain ⟨xb, yb, zb, vb⟩ := Bb.facts
          obtain ⟨xc, yc, zc, vc⟩ := Bc.facts
          obtain ⟨xp, yp, zp, vp⟩ := Bp.facts
          obtain ⟨xt, yt, zt, vt⟩ := Bt.facts
          go_wp2_with fail
          refine (ce _).mono ?_
          rintro e w5 ⟨rfl, hb⟩
          clear xa ya za va xb yb zb vb xc yc zc vc xp yp zp vp xt yt zt vt
          replace Ba := Ba.ext hb rfl
          replace Bb := Bb.ext hb rfl
          replace Bc := Bc.ext hb rfl
          replace Bp := Bp.ext hb rfl
          replace Bt := Bt.ext hb rfl
          replace hw := hw.trans (hb.mono hw.size)
          clear hb
          obtain ⟨xa, ya, za, va⟩ := Ba.facts
          obtain ⟨xb, yb, zb, vb⟩ := Bb.facts
          obtain ⟨xc, yc, zc, vc⟩ := Bc.facts
          obtain ⟨xp, yp, zp, vp⟩ := Bp.facts
          obtain ⟨xt, yt, zt, vt⟩ := Bt.facts
          go_wp2_with fail
          refine at_call fun W6 hW => ?_
          obtain ⟨bkx, hbx⟩ : ∃ b, w5.heap.size = b := ⟨_, rfl⟩
          rw [hbx]
          have lax := Ba.lt
          rw [hbx] at lax
          have lbx := Bb.lt
          rw [hbx] at lbx
          have lcx := Bc.lt
          rw [hbx] at lcx
          have lpx := Bp.lt
          rw [hbx] at lpx
          have ltx := Bt.lt
          rw [hbx] at ltx
          have fx := hw.size
          rw [hbx] at fx
          have Bx : Box W6 (bkx) [.int .i64 X.x, .int .i64 X.y] 23 := by rw [hW, ← hbx]; exact (Box.new rfl).old _
          have By : Box W6 (bkx + 1) [.int .i64 Y.x, .int .i64 Y.y] 23 := by rw [hW, ← hbx]; exact Box.new (by simp)
          replace Ba : Box W6 (w.heap.size) [.int .i64 a.x, .int .i64 a.y] 23 := by rw [hW]; exact ((Ba).old _).old _
          replace Bb : Box W6 (w.heap.size + 1) [.int .i64 b.x, .int .i64 b.y] 23 := by rw [hW]; exact ((Bb).old _).old _
          replace Bc : Box W6 (w.heap.size + 1 + 1) [.int .i64 c.x, .int .i64 c.y] 23 := by rw [hW]; exact ((Bc).old _).old _
          replace Bp : Box W6 (w.heap.size + 1 + 1 + 1) [.int .i64 p.x, .int .i64 p.y] 23 := by rw [hW]; exact ((Bp).old _).old _
          replace Bt : Box W6 (bkt) [.int .i64 M.A.x, .int .i64 M.A.y, .int .i64 M.B.x, .int .i64 M.B.y, .int .i64 M.C.x, .int .i64 M.C.y] 25 := by rw [hW]; exact ((Bt).old _).old _
          replace hw : Below w.heap.size w W6 := by have hl := hw.size; rw [hW]; go_grown
          clear hW hbx
          refine (co _).mono ?_
          rintro e w7 ⟨rfl, hb⟩
          clear xa ya za va xb yb zb vb xc yc zc vc xp yp zp vp xt yt zt vt
          replace Ba := Ba.ext hb rfl
          replace Bb := Bb.ext hb rfl
          replace Bc := Bc.ext hb rfl
          replace Bp := Bp.ext hb rfl
          replace Bt := Bt.ext hb rfl
          replace Bx := Bx.ext hb rfl
          replace By := By.ext hb rfl
          replace hw := hw.trans (hb.mono hw.size)
          clear hb
          obtain ⟨xa, ya, za, va⟩ := Ba.facts
          obtain ⟨xb, yb, zb, vb⟩ := Bb.facts
          obtain ⟨xc, yc, zc, vc⟩ := Bc.facts
          obtain ⟨xp, yp, zp, vp⟩ := Bp.facts
          obtain ⟨xt, yt, zt, vt⟩ := Bt.facts
          obtain ⟨xx, yx, zx, vx⟩ := Bx.facts
          obtain ⟨xy, yy, zy, vy⟩ := By.facts
          go_wp2_with fail
          refine at_call fun W8 hW => ?_
          obtain ⟨bks, hbs⟩ : ∃ b, w7.heap.size = b := ⟨_, rfl⟩
          rw [hbs]
          have las := Ba.lt
          rw [hbs] at las
          have lbs := Bb.lt
          rw [hbs] at lbs
          have lcs := Bc.lt
          rw [hbs] at lcs
          have lps := Bp.lt
          rw [hbs] at lps
          have lts := Bt.lt
          rw [hbs] at lts
          have lxs := Bx.lt
          rw [hbs] at lxs
          have lys := By.lt
          rw [hbs] at lys
          have fs := hw.size
          rw [hbs] at fs
          have Bs : Box W8 bks [.int .i64 R.A.x, .int .i64 R.A.y, .int .i64 R.B.x, .int .i64 R.B.y, .int .i64 R.C.x, .int .i64 R.C.y] 25 := by rw [hW]; exact Box.new hbs.symm
          replace Ba : Box W8 (w.heap.size) [.int .i64 a.x, .int .i64 a.y] 23 := by rw [hW]; exact Ba.old _
          replace Bb : Box W8 (w.heap.size + 1) [.int .i64 b.x, .int .i64 b.y] 23 := by rw [hW]; exact Bb.old _
          replace Bc : Box W8 (w.heap.size + 1 + 1) [.int .i64 c.x, .int .i64 c.y] 23 := by rw [hW]; exact Bc.old _
          replace Bp : Box W8 (w.heap.size + 1 + 1 + 1) [.int .i64 p.x, .int .i64 p.y] 23 := by rw [hW]; exact Bp.old _
          replace Bt : Box W8 (bkt) [.int .i64 M.A.x, .int .i64 M.A.y, .int .i64 M.B.x, .int .i64 M.B.y, .int .i64 M.C.x, .int .i64 M.C.y] 25 := by rw [hW]; exact Bt.old _
          replace Bx : Box W8 (bkx) [.int .i64 X.x, .int .i64 X.y] 23 := by rw [hW]; exact Bx.old _
          replace By : Box W8 (bkx + 1) [.int .i64 Y.x, .int .i64 Y.y] 23 := by rw [hW]; exact By.old _
          replace hw : Below w.heap.size w W8 := by have hl := hw.size; rw [hW]; go_grown
          clear hW hbs
          refine (cz _).mono ?_
          rintro e w9 ⟨rfl, hb⟩
          clear xa ya za va xb yb zb vb xc yc zc vc xp yp zp vp xt yt zt vt xx yx zx vx xy yy zy vy
          replace Ba := Ba.ext hb rfl
          replace Bb := Bb.ext hb rfl
          replace Bc := Bc.ext hb rfl
          replace Bp := Bp.ext hb rfl
          replace Bt := Bt.ext hb rfl
          replace Bx := Bx.ext hb rfl
          replace By := By.ext hb rfl
          replace Bs := Bs.ext hb rfl
          replace hw := hw.trans (hb.mono hw.size)
          clear hb
          obtain ⟨xa, ya, za, va⟩ := Ba.facts
          obtain ⟨xb, yb, zb, vb⟩ := Bb.facts
          obtain ⟨xc, yc, zc, vc⟩ := Bc.facts
          obtain ⟨xp, yp, zp, vp⟩ := Bp.facts
          obtain ⟨xt, yt, zt, vt⟩ := Bt.facts
          obtain ⟨xx, yx, zx, vx⟩ := Bx.facts
          obtain ⟨xy, yy, zy, vy⟩ := By.facts
          obtain ⟨xs, ys, zs, vs⟩ := Bs.facts
          go_wp2_with fail
          go_roundw
          case rel => exact ⟨k + 1, by omega, by rw [ES.out], by rw [EN.out], rfl, hw, Ba, Bb, Bc, Bp, Bt⟩
          case measure => simp [intOf]; omega
    · obtain rfl : k = 3 := by omega
      have hd : decide (((3 : Nat) : Int) < 3) = false := by decide
      have ci := ins_any M p
      have cw := twi_any M
      rw [ins_eq] at ci
      have hf := HF.out
      rw [← HS.out] at cw
      clear HF HS
      unfold PartsFin at hf
      generalize cntP M p 3 = N at *
      generalize sumP M p 3 = S at *
      rcases hf with ⟨hI, g1, g2, g3, g4⟩ | ⟨hI, g1, g2, g3, g4⟩ | ⟨hI, g1, g2⟩ | ⟨hI, g1, g2, g3⟩ | ⟨hI, g1, g2, g3, g4⟩
      · rw [hI] at ci
        clear hI
        as_aux_lemma =>
          obtain ⟨xa, ya, za, va⟩ := Ba.facts
          obtain ⟨xb, yb, zb, vb⟩ := Bb.facts
          obtain ⟨xc, yc, zc, vc⟩ := Bc.facts
          obtain ⟨xp, yp, zp, vp⟩ := Bp.facts
          obtain ⟨xt, yt, zt, vt⟩ := Bt.facts
          go_wp2_with fail
          refine (ci _).mono ?_
          rintro e w5 ⟨rfl, hb⟩
          clear xa ya za va xb yb zb vb xc yc zc vc xp yp zp vp xt yt zt vt
          replace Ba := Ba.ext hb rfl
          replace Bb := Bb.ext hb rfl
          replace Bc := Bc.ext hb rfl
          replace Bp := Bp.ext hb rfl
          replace Bt := Bt.ext hb rfl
          replace hw := hw.trans (hb.mono hw.size)
          clear hb
          obtain ⟨xa, ya, za, va⟩ := Ba.facts
          obtain ⟨xb, yb, zb, vb⟩ := Bb.facts
          obtain ⟨xc, yc, zc, vc⟩ := Bc.facts
          obtain ⟨xp, yp, zp, vp⟩ := Bp.facts
          obtain ⟨xt, yt, zt, vt⟩ := Bt.facts
          go_wp2_with fail
          refine (cw _).mono ?_
          rintro e w6 ⟨rfl, hb⟩
          clear xa ya za va xb yb zb vb xc yc zc vc xp yp zp vp xt yt zt vt
          replace Ba := Ba.ext hb rfl
          replace Bb := Bb.ext hb rfl
          replace Bc := Bc.ext hb rfl
          replace Bp := Bp.ext hb rfl
          replace Bt := Bt.ext hb rfl
          replace hw := hw.trans (hb.mono hw.size)
          clear hb
          obtain ⟨xa, ya, za, va⟩ := Ba.facts
          obtain ⟨xb, yb, zb, vb⟩ := Bb.facts
          obtain ⟨xc, yc, zc, vc⟩ := Bc.facts
          obtain ⟨xp, yp, zp, vp⟩ := Bp.facts
          obtain ⟨xt, yt, zt, vt⟩ := Bt.facts
          go_wp2_with fail
          refine (awake_any _).mono ?_
          rintro e w7 ⟨rfl, hb⟩
          clear xa ya za va xb yb zb vb xc yc zc vc xp yp zp vp xt yt zt vt
          replace Ba := Ba.ext hb rfl
          replace Bb := Bb.ext hb rfl
          replace Bc := Bc.ext hb rfl
          replace Bp := Bp.ext hb rfl
          replace Bt := Bt.ext hb rfl
          replace hw := hw.trans (hb.mono hw.size)
          clear hb
          go_wp2
          go_ret
          exact ⟨rfl, hw⟩
      · rw [hI] at ci
        clear hI
        as_aux_lemma =>
          obtain ⟨xa, ya, za, va⟩ := Ba.facts
          obtain ⟨xb, yb, zb, vb⟩ := Bb.facts
          obtain ⟨xc, yc, zc, vc⟩ := Bc.facts
          obtain ⟨xp, yp, zp, vp⟩ := Bp.facts
          obtain ⟨xt, yt, zt, vt⟩ := Bt.facts
          go_wp2_with fail
          refine (ci _).mono ?_
          rintro e w5 ⟨rfl, hb⟩
          clear xa ya za va xb yb zb vb xc yc zc vc xp yp zp vp xt yt zt vt
          replace Ba := Ba.ext hb rfl
          replace Bb := Bb.ext hb rfl
          replace Bc := Bc.ext hb rfl
          replace Bp := Bp.ext hb rfl
          replace Bt := Bt.ext hb rfl
          replace hw := hw.trans (hb.mono hw.size)
          clear hb
          obtain ⟨xa, ya, za, va⟩ := Ba.facts
          obtain ⟨xb, yb, zb, vb⟩ := Bb.facts
          obtain ⟨xc, yc, zc, vc⟩ := Bc.facts
          obtain ⟨xp, yp, zp, vp⟩ := Bp.facts
          obtain ⟨xt, yt, zt, vt⟩ := Bt.facts
          go_wp2_with fail
          refine (cw _).mono ?_
          rintro e w6 ⟨rfl, hb⟩
          clear xa ya za va xb yb zb vb xc yc zc vc xp yp zp vp xt yt zt vt
          replace Ba := Ba.ext hb rfl
          replace Bb := Bb.ext hb rfl
          replace Bc := Bc.ext hb rfl
          replace Bp := Bp.ext hb rfl
          replace Bt := Bt.ext hb rfl
          replace hw := hw.trans (hb.mono hw.size)
          clear hb
          obtain ⟨xa, ya, za, va⟩ := Ba.facts
          obtain ⟨xb, yb, zb, vb⟩ := Bb.facts
          obtain ⟨xc, yc, zc, vc⟩ := Bc.facts
          obtain ⟨xp, yp, zp, vp⟩ := Bp.facts
          obtain ⟨xt, yt, zt, vt⟩ := Bt.facts
          go_wp2_with fail
          refine (awake_any _).mono ?_
          rintro e w7 ⟨rfl, hb⟩
          clear xa ya za va xb yb zb vb xc yc zc vc xp yp zp vp xt yt zt vt
          replace Ba := Ba.ext hb rfl
          replace Bb := Bb.ext hb rfl
          replace Bc := Bc.ext hb rfl
          replace Bp := Bp.ext hb rfl
          replace Bt := Bt.ext hb rfl
          replace hw := hw.trans (hb.mono hw.size)
          clear hb
          go_wp2
          go_ret
          exact ⟨rfl, hw⟩
      · rw [hI] at ci
        clear hI
        as_aux_lemma =>
          obtain ⟨xa, ya, za, va⟩ := Ba.facts
          obtain ⟨xb, yb, zb, vb⟩ := Bb.facts
          obtain ⟨xc, yc, zc, vc⟩ := Bc.facts
          obtain ⟨xp, yp, zp, vp⟩ := Bp.facts
          obtain ⟨xt, yt, zt, vt⟩ := Bt.facts
          go_wp2_with fail
          refine (ci _).mono ?_
          rintro e w5 ⟨rfl, hb⟩
          clear xa ya za va xb yb zb vb xc yc zc vc xp yp zp vp xt yt zt vt
          replace Ba := Ba.ext hb rfl
          replace Bb := Bb.ext hb rfl
          replace Bc := Bc.ext hb rfl
          replace Bp := Bp.ext hb rfl
          replace Bt := Bt.ext hb rfl
          replace hw := hw.trans (hb.mono hw.size)
          clear hb
          obtain ⟨xa, ya, za, va⟩ := Ba.facts
          obtain ⟨xb, yb, zb, vb⟩ := Bb.facts
          obtain ⟨xc, yc, zc, vc⟩ := Bc.facts
          obtain ⟨xp, yp, zp, vp⟩ := Bp.facts
          obtain ⟨xt, yt, zt, vt⟩ := Bt.facts
          go_wp2_with fail
          refine (cw _).mono ?_
          rintro e w6 ⟨rfl, hb⟩
          clear xa ya za va xb yb zb vb xc yc zc vc xp yp zp vp xt yt zt vt
          replace Ba := Ba.ext hb rfl
          replace Bb := Bb.ext hb rfl
          replace Bc := Bc.ext hb rfl
          replace Bp := Bp.ext hb rfl
          replace Bt := Bt.ext hb rfl
          replace hw := hw.trans (hb.mono hw.size)
          clear hb
          obtain ⟨xa, ya, za, va⟩ := Ba.facts
          obtain ⟨xb, yb, zb, vb⟩ := Bb.facts
          obtain ⟨xc, yc, zc, vc⟩ := Bc.facts
          obtain ⟨xp, yp, zp, vp⟩ := Bp.facts
          obtain ⟨xt, yt, zt, vt⟩ := Bt.facts
          go_wp2_with fail
          refine (awake_any _).mono ?_
          rintro e w7 ⟨rfl, hb⟩
          clear xa ya za va xb yb zb vb xc yc zc vc xp yp zp vp xt yt zt vt
          replace Ba := Ba.ext hb rfl
          replace Bb := Bb.ext hb rfl
          replace Bc := Bc.ext hb rfl
          replace Bp := Bp.ext hb rfl
          replace Bt := Bt.ext hb rfl
          replace hw := hw.trans (hb.mono hw.size)
          clear hb
          go_wp2
          go_ret
          exact ⟨rfl, hw⟩
      · rw [hI] at ci
        clear hI
        as_aux_lemma =>
          obtain ⟨xa, ya, za, va⟩ := Ba.facts
          obtain ⟨xb, yb, zb, vb⟩ := Bb.facts
          obtain ⟨xc, yc, zc, vc⟩ := Bc.facts
          obtain ⟨xp, yp, zp, vp⟩ := Bp.facts
          obtain ⟨xt, yt, zt, vt⟩ := Bt.facts
          go_wp2_with fail
          refine (ci _).mono ?_
          rintro e w5 ⟨rfl, hb⟩
          clear xa ya za va xb yb zb vb xc yc zc vc xp yp zp vp xt yt zt vt
          replace Ba := Ba.ext hb rfl
          replace Bb := Bb.ext hb rfl
          replace Bc := Bc.ext hb rfl
          replace Bp := Bp.ext hb rfl
          replace Bt := Bt.ext hb rfl
          replace hw := hw.trans (hb.mono hw.size)
          clear hb
          obtain ⟨xa, ya, za, va⟩ := Ba.facts
          obtain ⟨xb, yb, zb, vb⟩ := Bb.facts
          obtain ⟨xc, yc, zc, vc⟩ := Bc.facts
          obtain ⟨xp, yp, zp, vp⟩ := Bp.facts
          obtain ⟨xt, yt, zt, vt⟩ := Bt.facts
          go_wp2_with fail
          refine (cw _).mono ?_
          rintro e w6 ⟨rfl, hb⟩
          clear xa ya za va xb yb zb vb xc yc zc vc xp yp zp vp xt yt zt vt
          replace Ba := Ba.ext hb rfl
          replace Bb := Bb.ext hb rfl
          replace Bc := Bc.ext hb rfl
          replace Bp := Bp.ext hb rfl
          replace Bt := Bt.ext hb rfl
          replace hw := hw.trans (hb.mono hw.size)
          clear hb
          obtain ⟨xa, ya, za, va⟩ := Ba.facts
          obtain ⟨xb, yb, zb, vb⟩ := Bb.facts
          obtain ⟨xc, yc, zc, vc⟩ := Bc.facts
          obtain ⟨xp, yp, zp, vp⟩ := Bp.facts
          obtain ⟨xt, yt, zt, vt⟩ := Bt.facts
          go_wp2_with fail
          refine (awake_any _).mono ?_
          rintro e w7 ⟨rfl, hb⟩
          clear xa ya za va xb yb zb vb xc yc zc vc xp yp zp vp xt yt zt vt
          replace Ba := Ba.ext hb rfl
          replace Bb := Bb.ext hb rfl
          replace Bc := Bc.ext hb rfl
          replace Bp := Bp.ext hb rfl
          replace Bt := Bt.ext hb rfl
          replace hw := hw.trans (hb.mono hw.size)
          clear hb
          go_wp2
          go_ret
          exact ⟨rfl, hw⟩
      · rw [hI] at ci
        clear hI
        as_aux_lemma =>
          obtain ⟨xa, ya, za, va⟩ := Ba.facts
          obtain ⟨xb, yb, zb, vb⟩ := Bb.facts
          obtain ⟨xc, yc, zc, vc⟩ := Bc.facts
          obtain ⟨xp, yp, zp, vp⟩ := Bp.facts
          obtain ⟨xt, yt, zt, vt⟩ := Bt.facts
          go_wp2_with fail
          refine (ci _).mono ?_
          rintro e w5 ⟨rfl, hb⟩
          clear xa ya za va xb yb zb vb xc yc zc vc xp yp zp vp xt yt zt vt
          replace Ba := Ba.ext hb rfl
          replace Bb := Bb.ext hb rfl
          replace Bc := Bc.ext hb rfl
          replace Bp := Bp.ext hb rfl
          replace Bt := Bt.ext hb rfl
          replace hw := hw.trans (hb.mono hw.size)
          clear hb
          obtain ⟨xa, ya, za, va⟩ := Ba.facts
          obtain ⟨xb, yb, zb, vb⟩ := Bb.facts
          obtain ⟨xc, yc, zc, vc⟩ := Bc.facts
          obtain ⟨xp, yp, zp, vp⟩ := Bp.facts
          obtain ⟨xt, yt, zt, vt⟩ := Bt.facts
          go_wp2_with fail
          refine (cw _).mono ?_
          rintro e w6 ⟨rfl, hb⟩
          clear xa ya za va xb yb zb vb xc yc zc vc xp yp zp vp xt yt zt vt
          replace Ba := Ba.ext hb rfl
          replace Bb := Bb.ext hb rfl
          replace Bc := Bc.ext hb rfl
          replace Bp := Bp.ext hb rfl
          replace Bt := Bt.ext hb rfl
          replace hw := hw.trans (hb.mono hw.size)
          clear hb
          obtain ⟨xa, ya, za, va⟩ := Ba.facts
          obtain ⟨xb, yb, zb, vb⟩ := Bb.facts
          obtain ⟨xc, yc, zc, vc⟩ := Bc.facts
          obtain ⟨xp, yp, zp, vp⟩ := Bp.facts
          obtain ⟨xt, yt, zt, vt⟩ := Bt.facts
          go_wp2_with fail
          refine (awake_any _).mono ?_
          rintro e w7 ⟨rfl, hb⟩
          clear xa ya za va xb yb zb vb xc yc zc vc xp yp zp vp xt yt zt vt
          replace Ba := Ba.ext hb rfl
          replace Bb := Bb.ext hb rfl
          replace Bc := Bc.ext hb rfl
          replace Bp := Bp.ext hb rfl
          replace Bt := Bt.ext hb rfl
          replace hw := hw.trans (hb.mono hw.size)
          clear hb
          go_wp2
          go_ret
          exact ⟨rfl, hw⟩

theorem tpa_law (a b c p : Pt) (w : World) :
    Calls Try.prog 5 #[.agg #[.int .i64 a.x, .int .i64 a.y], .agg #[.int .i64 b.x, .int .i64 b.y], .agg #[.int .i64 c.x, .int .i64 c.y], .agg #[.int .i64 p.x, .int .i64 p.y]] w fun e w' => e = .returned (.bool true) ∧ Below w.heap.size w w' := by
  cases h0 : (!decide (ori a b c = 0)) with
  | false => exact tpa_0 a b c p h0 w
  | true => cases h1 : hasP (mk a b c) p with
    | false => exact tpa_1 a b c p h0 h1 w
    | true => exact tpa_2 a b c p h0 h1 w
set_option maxRecDepth 100000 in
theorem triParts_lifted (os : Os) (started : os.Started) (H : Type) (enc : TypeId × Value → H) :
    ReturnsInHanded {} Try.checked os 5 .any (Rows.triPartsSpec.pre6 enc Try.prog Try.f5 Rows.triPartsRow.domain false) (Rows.triPartsSpec.post enc Try.prog Try.f5 false true false false) := by
  refine returnsInHanded_of_change (C := Try.checked) Try.own started (by kernel_rfl) Try.func5
    (ChangeSpec.witness6 (enc := enc) (C := Try.checked) false ⟨#[], #[.agg #[.int .i64 0, .int .i64 0], .agg #[.int .i64 0, .int .i64 0], .agg #[.int .i64 0, .int .i64 0], .agg #[.int .i64 0, .int .i64 0]], []⟩ 8 (by kernel_rfl) (by kernel_rfl) (by kernel_rfl) (by kernel_rfl)) ?_
  intro W base args ds gs before hval0 hW hcnd _
  have hval : ∀ (j : Nat) t v, Try.f5.params[j]? = some t → args[j]? = some v → Value.okWide Try.prog W .any base t v := hval0
  have hW' := hW
  obtain ⟨p, q, hA0, hV, rfl, hfz, hnd⟩ := hW
  have hA : DataW.TrodAll enc Try.prog W 0 (fun _ => true) true Try.f5.params.toList args.toList ds p := hA0
  rw [Try.params5] at hA hval
  obtain ⟨v0, v1, v2, v3, d0, d1, d2, d3, q0, q1, q2, q3, rfl, rfl, rfl, p0, p1, p2, p3⟩ := trodAll_four hA
  obtain ⟨rfl, rfl⟩ := trodVars_none hV
  obtain ⟨c0, e0, y0, z0, m0, rfl, rfl, rfl, hy0, hz0⟩ := Joins.open_agg2 Try.underlying23 (by kernel_rfl) (by kernel_rfl) (hval 0 23 v0 rfl rfl) p0
  obtain ⟨xa, f0, rfl, wxa⟩ := DataW.trod_int Try.underlying3 hy0
  obtain ⟨ya, g0, rfl, wya⟩ := DataW.trod_int Try.underlying3 hz0
  simp at f0 g0
  subst f0 g0
  obtain ⟨c1, e1, y1, z1, m1, rfl, rfl, rfl, hy1, hz1⟩ := Joins.open_agg2 Try.underlying23 (by kernel_rfl) (by kernel_rfl) (hval 1 23 v1 rfl rfl) p1
  obtain ⟨xb, f1, rfl, wxb⟩ := DataW.trod_int Try.underlying3 hy1
  obtain ⟨yb, g1, rfl, wyb⟩ := DataW.trod_int Try.underlying3 hz1
  simp at f1 g1
  subst f1 g1
  obtain ⟨c2, e2, y2, z2, m2, rfl, rfl, rfl, hy2, hz2⟩ := Joins.open_agg2 Try.underlying23 (by kernel_rfl) (by kernel_rfl) (hval 2 23 v2 rfl rfl) p2
  obtain ⟨xc, f2, rfl, wxc⟩ := DataW.trod_int Try.underlying3 hy2
  obtain ⟨yc, g2, rfl, wyc⟩ := DataW.trod_int Try.underlying3 hz2
  simp at f2 g2
  subst f2 g2
  obtain ⟨c3, e3, y3, z3, m3, rfl, rfl, rfl, hy3, hz3⟩ := Joins.open_agg2 Try.underlying23 (by kernel_rfl) (by kernel_rfl) (hval 3 23 v3 rfl rfl) p3
  obtain ⟨xp, f3, rfl, wxp⟩ := DataW.trod_int Try.underlying3 hy3
  obtain ⟨yp, g3, rfl, wyp⟩ := DataW.trod_int Try.underlying3 hz3
  simp at f3 g3
  subst f3 g3
  clear hA0 hval0
  simp only [List.append_nil] at hW'
  refine (tpa_law ⟨xa, ya⟩ ⟨xb, yb⟩ ⟨xc, yc⟩ ⟨xp, yp⟩ W).mono fun e W' ⟨he, hb⟩ => ?_
  subst he
  exact ⟨_, rfl, post_of_below (pa := []) (pv := []) hW' (fun _ _ _ => trodAll_mk1 (shut_bool Try.underlying4 true)) (fun sp _ => trodAll_mk4 (Joins.shut_agg2 (y0 := (.lit (.int .i64 xa), [])) (y1 := (.lit (.int .i64 ya), [])) Try.underlying23 (by kernel_rfl) (by kernel_rfl) ⟨1, by simp [DataW.trod, Try.underlying3, wxa]⟩ ⟨1, by simp [DataW.trod, Try.underlying3, wya]⟩) (Joins.shut_agg2 (y0 := (.lit (.int .i64 xb), [])) (y1 := (.lit (.int .i64 yb), [])) Try.underlying23 (by kernel_rfl) (by kernel_rfl) ⟨1, by simp [DataW.trod, Try.underlying3, wxb]⟩ ⟨1, by simp [DataW.trod, Try.underlying3, wyb]⟩) (Joins.shut_agg2 (y0 := (.lit (.int .i64 xc), [])) (y1 := (.lit (.int .i64 yc), [])) Try.underlying23 (by kernel_rfl) (by kernel_rfl) ⟨1, by simp [DataW.trod, Try.underlying3, wxc]⟩ ⟨1, by simp [DataW.trod, Try.underlying3, wyc]⟩) (Joins.shut_agg2 (y0 := (.lit (.int .i64 xp), [])) (y1 := (.lit (.int .i64 yp), [])) Try.underlying23 (by kernel_rfl) (by kernel_rfl) ⟨1, by simp [DataW.trod, Try.underlying3, wxp]⟩ ⟨1, by simp [DataW.trod, Try.underlying3, wyp]⟩)) (fun _ _ => rfl) rfl hb (ok_one (by kernel_rfl) rfl (okWide_bool_mk Try.underlying4 true))⟩
/-- The law TriParts holds of every input. -/
theorem triParts_holds : Rows.TriPartsSaid :=
  OpenClaim.holds_of_wide 5 Try.f5 rfl rfl rfl rfl rfl rfl rfl ⟨rfl, rfl, rfl, rfl, rfl⟩ rfl rfl rfl rfl rfl (by kernel_rfl) Try.func5 (by kernel_rfl)
    (of_decide_eq_true (by kernel_rfl)) (by unfold Func.isWrapper; rw [if_neg (of_decide_eq_false (by kernel_rfl))]; exact ⟨rfl, rfl⟩)
    (fun os started H enc _ => triParts_lifted os started H enc)
end Go.Proofs.Ytbbmcbkmfehidaa
