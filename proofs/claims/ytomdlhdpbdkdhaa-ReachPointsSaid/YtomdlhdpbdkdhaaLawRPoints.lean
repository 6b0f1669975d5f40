/- A window with a point of a triangle overlaps it; a greater window, too; one that is ahead of all its points does not: the law ReachPoints of package hectarelaw4 answers true at every input; no conditions. -/
import Derived.Test.YtomdlhdpbdkdhaaRows
import Derived.Test.YtomdlhdpbdkdhaaReF
import Derived.Test.YtomdlhdpbdkdhaaReO
import Derived.Test.YtomdlhdpbdkdhaaReP
import Derived.Test.YtomdlhdpbdkdhaaPost
import Derived.WalkKit
import Derived.WalkSpells
import Derived.WalkLawsBesides
import Derived.Deep.QuietTactic
import Derived.BigQuiet
import Derived.Lib.Hide
import Derived.Handy
import Derived.Carry
import Derived.ProofKit
import Derived.Lib.SmallJoins
namespace Go.Proofs.Ytomdlhdpbdkdhaa
open Go.RowKit Go.Sort Go.ChangeShapes Go.WideShapes Go.ChangeAt
attribute [local go_sem] rOper rAt rUpon cell_set sg_i64 sg_u64 alloc_cell alloc_frozen
attribute [local go_sem 10000] run_mnA run_mxA run_mn2 run_mx2 pt_eql pt_neq tri_eql
attribute [local irreducible] rWalk

theorem wrap_in {n : Int} (h : -9223372036854775808 ≤ n ∧ n ≤ 9223372036854775807) : wrap64 n = n ∧ IntKind.i64.wrap n = n := by
  rw [IntKind.wrap_i64, w64]; omega
/-- What the law asks of a triangle of three corners and a point. -/
theorem points_fin {a b c p : Pt} {g : Int} (h0 : ¬ ori a b c = 0) (hp : vld p = true) (g0 : 0 ≤ g) (g1 : g < 50) :
    ovl (mk a b c) ⟨p.x, p.y, p.x, p.y⟩ = hasP (mk a b c) p ∧ (hasP (mk a b c) p = true → ovl (mk a b c) ⟨mx2 (p.x - g) 0, mx2 (p.y - g) 0, mn2 (p.x + g) 16777215, mn2 (p.y + g) 16777215⟩ = true) ∧
    ovl (mk a b c) ⟨0, 0, 16777215, 16777215⟩ = true ∧ ovl (mk a b c) ⟨mxA a.x b.x c.x + 1, 0, 16777215, 16777215⟩ = false ∧ ovl (mk a b c) ⟨mxA a.x b.x c.x, 0, 16777215, 16777215⟩ = true ∧ (0 ≤ mxA a.x b.x c.x ∧ mxA a.x b.x c.x < 16777216) := by
  obtain ⟨hT, hm⟩ := mk_ok h0
  obtain ⟨va, vb, vc⟩ := ori_vld h0
  have hx : mxA a.x b.x c.x = mxA (mk a b c).A.x (mk a b c).B.x (mk a b c).C.x := by
    rcases hm with e | e | e | e | e | e <;> rw [e] <;> simp only <;> unfold mxA <;> (repeat' split) <;> omega
  have hb : 0 ≤ mxA a.x b.x c.x ∧ mxA a.x b.x c.x < 16777216 := by
    rw [vld_iff] at va vb vc
    unfold mxA; (repeat' split) <;> omega
  obtain ⟨cA, cB, cC⟩ := corner_has hT
  obtain ⟨uA, uB, uC⟩ := valT_vld hT
  have hp' := hp
  rw [vld_iff] at hp'
  have kA := uA
  have kB := uB
  have kC := uC
  rw [vld_iff] at kA kB kC
  refine ⟨one_has hT hp, fun h => ?_, ?_, ?_, ?_, hb⟩
  · refine has_ov hT hp ?_ h ?_ ?_
    · rw [win_iff]; simp only; unfold mx2 mn2; (repeat' split) <;> omega
    · simp only; unfold mx2 mn2; (repeat' split) <;> omega
    · simp only; unfold mx2 mn2; (repeat' split) <;> omega
  · exact has_ov hT uA (by rw [win_iff]; simp only; omega) cA (by simp only; omega) (by simp only; omega)
  · rw [hx]
    unfold ovl mts
    simp only
    rw [show decide (mxA (mk a b c).A.x (mk a b c).B.x (mk a b c).C.x + 1 ≤ mxA (mk a b c).A.x (mk a b c).B.x (mk a b c).C.x) = false from decide_eq_false (by omega)]
    simp
  · have hw : win ⟨mxA a.x b.x c.x, 0, 16777215, 16777215⟩ = true := by rw [win_iff]; simp only; omega
    have hc : mxA a.x b.x c.x = (mk a b c).A.x ∨ mxA a.x b.x c.x = (mk a b c).B.x ∨ mxA a.x b.x c.x = (mk a b c).C.x := by
      rw [hx]; unfold mxA; (repeat' split) <;> omega
    rcases hc with e | e | e
    · exact has_ov hT uA hw cA (by simp only; omega) (by simp only; omega)
    · exact has_ov hT uB hw cB (by simp only; omega) (by simp only; omega)
    · exact has_ov hT uC hw cC (by simp only; omega) (by simp only; omega)
set_option maxHeartbeats 1000000 in
theorem rpts_0 (a b c p : Pt) (grow_ : Int) (h0 : (!decide (ori a b c = 0)) = false) (w : World) :
    Calls Try.prog 4 #[.agg #[.int .i64 a.x, .int .i64 a.y], .agg #[.int .i64 b.x, .int .i64 b.y], .agg #[.int .i64 c.x, .int .i64 c.y], .agg #[.int .i64 p.x, .int .i64 p.y], .int .i64 grow_] w fun e w' => e = .returned (.bool true) ∧ Below w.heap.size w w' := by
  have cm := rmake_any a b c
  rw [h0] at cm
  clear h0
  generalize mk a b c = M at *
  go_enter Try.func4, Try.ntmps4
  go_wp2_with fail
  refine at_call fun W1 hW => ?_
  have Ba : Box W1 (w.heap.size) [.int .i64 a.x, .int .i64 a.y] 23 := by rw [hW]; exact (((Box.new rfl).old _).old _).old _
  have Bb : Box W1 (w.heap.size + 1) [.int .i64 b.x, .int .i64 b.y] 23 := by rw [hW]; exact ((Box.new (by simp)).old _).old _
  have Bc : Box W1 (w.heap.size + 1 + 1) [.int .i64 c.x, .int .i64 c.y] 23 := by rw [hW]; exact (Box.new (by simp)).old _
  have Bp : Box W1 (w.heap.size + 1 + 1 + 1) [.int .i64 p.x, .int .i64 p.y] 23 := by rw [hW]; exact Box.new (by simp)
  have hw : Below w.heap.size w W1 := by rw [hW]; go_grown
  clear hW
  refine (cm _).mono ?_
  rintro e w2 ⟨rfl, hb⟩
  replace Ba := Ba.ext hb rfl
  replace Bb := Bb.ext hb rfl
  replace Bc := Bc.ext hb rfl
  replace Bp := Bp.ext hb rfl
  replace hw := hw.trans (hb.mono hw.size)
  clear hb
  obtain ⟨xa, ya, za, va⟩ := Ba.facts
  obtain ⟨xb, yb, zb, vb⟩ := Bb.facts
  obtain ⟨xc, yc, zc, vc⟩ := Bc.facts
  obtain ⟨xp, yp, zp, vp⟩ := Bp.facts
  go_wp2_with fail
  refine at_call fun W3 hW => ?_
  obtain ⟨bkt, hbt⟩ : ∃ b, w2.heap.size = b := ⟨_, rfl⟩
  rw [hbt]
  have lat := Ba.lt
  rw [hbt] at lat
  have lbt := Bb.lt
  rw [hbt] at lbt
  have lct := Bc.lt
  rw [hbt] at lct
  have lpt := Bp.lt
  rw [hbt] at lpt
  have ft := hw.size
  rw [hbt] at ft
  have Bt : Box W3 bkt [.int .i64 M.A.x, .int .i64 M.A.y, .int .i64 M.B.x, .int .i64 M.B.y, .int .i64 M.C.x, .int .i64 M.C.y] 25 := by rw [hW]; exact Box.new hbt.symm
  replace Ba : Box W3 (w.heap.size) [.int .i64 a.x, .int .i64 a.y] 23 := by rw [hW]; exact Ba.old _
  replace Bb : Box W3 (w.heap.size + 1) [.int .i64 b.x, .int .i64 b.y] 23 := by rw [hW]; exact Bb.old _
  replace Bc : Box W3 (w.heap.size + 1 + 1) [.int .i64 c.x, .int .i64 c.y] 23 := by rw [hW]; exact Bc.old _
  replace Bp : Box W3 (w.heap.size + 1 + 1 + 1) [.int .i64 p.x, .int .i64 p.y] 23 := by rw [hW]; exact Bp.old _
  replace hw : Below w.heap.size w W3 := by have hl := hw.size; rw [hW]; go_grown
  clear hW hbt
  refine (awake4_any _).mono ?_
  rintro e w4 ⟨rfl, hb⟩
  clear xa ya za va xb yb zb vb xc yc zc vc xp yp zp vp
  replace Ba := Ba.ext hb rfl
  replace Bb := Bb.ext hb rfl
  replace Bc := Bc.ext hb rfl
  replace Bp := Bp.ext hb rfl
  replace Bt := Bt.ext hb rfl
  replace hw := hw.trans (hb.mono hw.size)
  clear hb
  go_wp2
  go_ret
  exact ⟨rfl, hw⟩

set_option maxHeartbeats 1000000 in
theorem rpts_1 (a b c p : Pt) (grow_ : Int) (h0 : (!decide (ori a b c = 0)) = true) (h1 : vld p = false) (w : World) :
    Calls Try.prog 4 #[.agg #[.int .i64 a.x, .int .i64 a.y], .agg #[.int .i64 b.x, .int .i64 b.y], .agg #[.int .i64 c.x, .int .i64 c.y], .agg #[.int .i64 p.x, .int .i64 p.y], .int .i64 grow_] w fun e w' => e = .returned (.bool true) ∧ Below w.heap.size w w' := by
  have cm := rmake_any a b c
  rw [h0] at cm
  have cv := rvalid_any p
  rw [h1] at cv
  clear h0 h1
  generalize mk a b c = M at *
  go_enter Try.func4, Try.ntmps4
  go_wp2_with fail
  refine at_call fun W1 hW => ?_
  have Ba : Box W1 (w.heap.size) [.int .i64 a.x, .int .i64 a.y] 23 := by rw [hW]; exact (((Box.new rfl).old _).old _).old _
  have Bb : Box W1 (w.heap.size + 1) [.int .i64 b.x, .int .i64 b.y] 23 := by rw [hW]; exact ((Box.new (by simp)).old _).old _
  have Bc : Box W1 (w.heap.size + 1 + 1) [.int .i64 c.x, .int .i64 c.y] 23 := by rw [hW]; exact (Box.new (by simp)).old _
  have Bp : Box W1 (w.heap.size + 1 + 1 + 1) [.int .i64 p.x, .int .i64 p.y] 23 := by rw [hW]; exact Box.new (by simp)
  have hw : Below w.heap.size w W1 := by rw [hW]; go_grown
  clear hW
  refine (cm _).mono ?_
  rintro e w2 ⟨rfl, hb⟩
  replace Ba := Ba.ext hb rfl
  replace Bb := Bb.ext hb rfl
  replace Bc := Bc.ext hb rfl
  replace Bp := Bp.ext hb rfl
  replace hw := hw.trans (hb.mono hw.size)
  clear hb
  obtain ⟨xa, ya, za, va⟩ := Ba.facts
  obtain ⟨xb, yb, zb, vb⟩ := Bb.facts
  obtain ⟨xc, yc, zc, vc⟩ := Bc.facts
  obtain ⟨xp, yp, zp, vp⟩ := Bp.facts
  go_wp2_with fail
  refine at_call fun W3 hW => ?_
  obtain ⟨bkt, hbt⟩ : ∃ b, w2.heap.size = b := ⟨_, rfl⟩
  rw [hbt]
  have lat := Ba.lt
  rw [hbt] at lat
  have lbt := Bb.lt
  rw [hbt] at lbt
  have lct := Bc.lt
  rw [hbt] at lct
  have lpt := Bp.lt
  rw [hbt] at lpt
  have ft := hw.size
  rw [hbt] at ft
  have Bt : Box W3 bkt [.int .i64 M.A.x, .int .i64 M.A.y, .int .i64 M.B.x, .int .i64 M.B.y, .int .i64 M.C.x, .int .i64 M.C.y] 25 := by rw [hW]; exact Box.new hbt.symm
  replace Ba : Box W3 (w.heap.size) [.int .i64 a.x, .int .i64 a.y] 23 := by rw [hW]; exact Ba.old _
  replace Bb : Box W3 (w.heap.size + 1) [.int .i64 b.x, .int .i64 b.y] 23 := by rw [hW]; exact Bb.old _
  replace Bc : Box W3 (w.heap.size + 1 + 1) [.int .i64 c.x, .int .i64 c.y] 23 := by rw [hW]; exact Bc.old _
  replace Bp : Box W3 (w.heap.size + 1 + 1 + 1) [.int .i64 p.x, .int .i64 p.y] 23 := by rw [hW]; exact Bp.old _
  replace hw : Below w.heap.size w W3 := by have hl := hw.size; rw [hW]; go_grown
  clear hW hbt
  refine (cv _).mono ?_
  rintro e w4 ⟨rfl, hb⟩
  clear xa ya za va xb yb zb vb xc yc zc vc xp yp zp vp
  replace Ba := Ba.ext hb rfl
  replace Bb := Bb.ext hb rfl
  replace Bc := Bc.ext hb rfl
  replace Bp := Bp.ext hb rfl
  replace Bt := Bt.ext hb rfl
  replace hw := hw.trans (hb.mono hw.size)
  clear hb
  obtain ⟨xa, ya, za, va⟩ := Ba.facts
  obtain ⟨xb, yb, zb, vb⟩ := Bb.facts
  obtain ⟨xc, yc, zc, vc⟩ := Bc.facts
  obtain ⟨xp, yp, zp, vp⟩ := Bp.facts
  obtain ⟨xt, yt, zt, vt⟩ := Bt.facts
  go_wp2_with fail
  refine (awake4_any _).mono ?_
  rintro e w5 ⟨rfl, hb⟩
  clear xa ya za va xb yb zb vb xc yc zc vc xp yp zp vp xt yt zt vt
  replace Ba := Ba.ext hb rfl
  replace Bb := Bb.ext hb rfl
  replace Bc := Bc.ext hb rfl
  replace Bp := Bp.ext hb rfl
  replace Bt := Bt.ext hb rfl
  replace hw := hw.trans (hb.mono hw.size)
  clear hb
  go_wp2
  go_ret
  exact ⟨rfl, hw⟩

set_option maxRecDepth 100000 in
set_option maxHeartbeats 2000000 in
theorem rpts_00 (a b c p : Pt) (grow_ : Int) (h0 : (!decide (ori a b c = 0)) = true) (h1 : vld p = true) (h2 : hasP (mk a b c) p = false) (h3 : decide (mxA a.x b.x c.x + 1 < 16777216) = false) (w : World) :
    Calls Try.prog 4 #[.agg #[.int .i64 a.x, .int .i64 a.y], .agg #[.int .i64 b.x, .int .i64 b.y], .agg #[.int .i64 c.x, .int .i64 c.y], .agg #[.int .i64 p.x, .int .i64 p.y], .int .i64 grow_] w fun e w' => e = .returned (.bool true) ∧ Below w.heap.size w w' := by
  have hf := points_fin (a := a) (b := b) (c := c) (p := p) (g := grow_ % 50) (by simpa using h0) h1 (Int.emod_nonneg _ (by omega)) (Int.emod_lt_of_pos _ (by omega))
  have cm := rmake_any a b c
  rw [h0] at cm
  have cv := rvalid_any p
  rw [h1] at cv
  have cr := round_gen (i := grow_) (n := 50) (by omega) (by omega)
  have k0 : 0 ≤ grow_ % 50 := Int.emod_nonneg _ (by omega)
  have k1 : grow_ % 50 < 50 := Int.emod_lt_of_pos _ (by omega)
  have hp := vld_iff.1 h1
  generalize grow_ % 50 = K at *
  obtain ⟨f1, f2, f3, f4, f5, f6⟩ := hf
  obtain ⟨X, hX⟩ : ∃ X, mxA a.x b.x c.x = X := ⟨_, rfl⟩
  rw [hX] at f4 f5 f6 h3
  obtain ⟨wA, wA2⟩ := wrap_in (n := p.x - K) (by omega)
  obtain ⟨wB, wB2⟩ := wrap_in (n := p.y - K) (by omega)
  obtain ⟨wC, wC2⟩ := wrap_in (n := p.x + K) (by omega)
  obtain ⟨wD, wD2⟩ := wrap_in (n := p.y + K) (by omega)
  obtain ⟨wE, wE2⟩ := wrap_in (n := X + 1) (by omega)
  have co := ovl_any (mk a b c) ⟨p.x, p.y, p.x, p.y⟩
  have ch := rhasP_any (mk a b c) p
  have cg := ovl_any (mk a b c) ⟨mx2 (p.x - K) 0, mx2 (p.y - K) 0, mn2 (p.x + K) 16777215, mn2 (p.y + K) 16777215⟩
  have cl := ovl_any (mk a b c) ⟨0, 0, 16777215, 16777215⟩
  have c1 := ovl_any (mk a b c) ⟨X + 1, 0, 16777215, 16777215⟩
  have c2 := ovl_any (mk a b c) ⟨X, 0, 16777215, 16777215⟩
  simp only at co cg cl c1 c2
  rw [f1, h2] at co
  rw [h2] at ch
  rw [f3] at cl
  rw [f4] at c1
  rw [f5] at c2
  clear f1 f2 f3 f4 f5 k0 k1 hp h0 h1 h2
  obtain ⟨g1, e1⟩ : ∃ x, mx2 (p.x - K) 0 = x := ⟨_, rfl⟩
  obtain ⟨g2, e2⟩ : ∃ x, mx2 (p.y - K) 0 = x := ⟨_, rfl⟩
  obtain ⟨g3, e3⟩ : ∃ x, mn2 (p.x + K) 16777215 = x := ⟨_, rfl⟩
  obtain ⟨g4, e4⟩ : ∃ x, mn2 (p.y + K) 16777215 = x := ⟨_, rfl⟩
  rw [e1, e2, e3, e4] at cg
  clear f6
  generalize mk a b c = M at *
  go_enter Try.func4, Try.ntmps4
  go_wp2_with fail
  refine at_call fun W1 hW => ?_
  have Ba : Box W1 (w.heap.size) [.int .i64 a.x, .int .i64 a.y] 23 := by rw [hW]; exact (((Box.new rfl).old _).old _).old _
  have Bb : Box W1 (w.heap.size + 1) [.int .i64 b.x, .int .i64 b.y] 23 := by rw [hW]; exact ((Box.new (by simp)).old _).old _
  have Bc : Box W1 (w.heap.size + 1 + 1) [.int .i64 c.x, .int .i64 c.y] 23 := by rw [hW]; exact (Box.new (by simp)).old _
  have Bp : Box W1 (w.heap.size + 1 + 1 + 1) [.int .i64 p.x, .int .i64 p.y] 23 := by rw [hW]; exact Box.new (by simp)
  have hw : Below w.heap.size w W1 := by rw [hW]; go_grown
  clear hW
  refine (cm _).mono ?_
  rintro e w2 ⟨rfl, hb⟩
  replace Ba := Ba.ext hb rfl
  replace Bb := Bb.ext hb rfl
  replace Bc := Bc.ext hb rfl
  replace Bp := Bp.ext hb rfl
  replace hw := hw.trans (hb.mono hw.size)
  clear hb
  obtain ⟨xa, ya, za, va⟩ := Ba.facts
  obtain ⟨xb, yb, zb, vb⟩ := Bb.facts
  obtain ⟨xc, yc, zc, vc⟩ := Bc.facts
  obtain ⟨xp, yp, zp, vp⟩ := Bp.facts
  go_wp2_with fail
  refine at_call fun W3 hW => ?_
  obtain ⟨bkt, hbt⟩ : ∃ b, w2.heap.size = b := ⟨_, rfl⟩
  rw [hbt]
  have lat := Ba.lt
  rw [hbt] at lat
  have lbt := Bb.lt
  rw [hbt] at lbt
  have lct := Bc.lt
  rw [hbt] at lct
  have lpt := Bp.lt
  rw [hbt] at lpt
  have ft := hw.size
  rw [hbt] at ft
  have Bt : Box W3 bkt [.int .i64 M.A.x, .int .i64 M.A.y, .int .i64 M.B.x, .int .i64 M.B.y, .int .i64 M.C.x, .int .i64 M.C.y] 25 := by rw [hW]; exact Box.new hbt.symm
  replace Ba : Box W3 (w.heap.size) [.int .i64 a.x, .int .i64 a.y] 23 := by rw [hW]; exact Ba.old _
  replace Bb : Box W3 (w.heap.size + 1) [.int .i64 b.x, .int .i64 b.y] 23 := by rw [hW]; exact Bb.old _
  replace Bc : Box W3 (w.heap.size + 1 + 1) [.int .i64 c.x, .int .i64 c.y] 23 := by rw [hW]; exact Bc.old _
  replace Bp : Box W3 (w.heap.size + 1 + 1 + 1) [.int .i64 p.x, .int .i64 p.y] 23 := by rw [hW]; exact Bp.old _
  replace hw : Below w.heap.size w W3 := by have hl := hw.size; rw [hW]; go_grown
  clear hW hbt
  refine (cv _).mono ?_
  rintro e w4 ⟨rfl, hb⟩
  clear xa ya za va xb yb zb vb xc yc zc vc xp yp zp vp
  replace Ba := Ba.ext hb rfl
  replace Bb := Bb.ext hb rfl
  replace Bc := Bc.ext hb rfl
  replace Bp := Bp.ext hb rfl
  replace Bt := Bt.ext hb rfl
  replace hw := hw.trans (hb.mono hw.size)
  clear hb
  obtain ⟨xa, ya, za, va⟩ := Ba.facts
  obtain ⟨xb, yb, zb, vb⟩ := Bb.facts
  obtain ⟨xc, yc, zc, vc⟩ := Bc.facts
  obtain ⟨xp, yp, zp, vp⟩ := Bp.facts
  obtain ⟨xt, yt, zt, vt⟩ := Bt.facts
  go_wp2_with fail
  refine (cr _).mono ?_
  rintro e w5 ⟨rfl, hb⟩
  clear xa ya za va xb yb zb vb xc yc zc vc xp yp zp vp xt yt zt vt
  replace Ba := Ba.ext hb rfl
  replace Bb := Bb.ext hb rfl
  replace Bc := Bc.ext hb rfl
  replace Bp := Bp.ext hb rfl
  replace Bt := Bt.ext hb rfl
  replace hw := hw.trans (hb.mono hw.size)
  clear hb
  obtain ⟨xa, ya, za, va⟩ := Ba.facts
  obtain ⟨xb, yb, zb, vb⟩ := Bb.facts
  obtain ⟨xc, yc, zc, vc⟩ := Bc.facts
  obtain ⟨xp, yp, zp, vp⟩ := Bp.facts
  obtain ⟨xt, yt, zt, vt⟩ := Bt.facts
  go_wp2_with fail
  refine at_world fun W6 hW => ?_
  obtain ⟨bko, hbo⟩ : ∃ b, w5.heap.size = b := ⟨_, rfl⟩
  rw [hbo]
  have lao := Ba.lt
  rw [hbo] at lao
  have lbo := Bb.lt
  rw [hbo] at lbo
  have lco := Bc.lt
  rw [hbo] at lco
  have lpo := Bp.lt
  rw [hbo] at lpo
  have lto := Bt.lt
  rw [hbo] at lto
  have fo := hw.size
  rw [hbo] at fo
  have Bo : Box W6 (bko) [.int .i64 p.x, .int .i64 p.y, .int .i64 p.x, .int .i64 p.y] 27 := by rw [hW, ← hbo]; exact ((Box.new rfl).old _).old _
  have Bg : Box W6 (bko + 1) [.int .i64 g1, .int .i64 g2, .int .i64 g3, .int .i64 g4] 27 := by rw [hW, ← hbo]; exact (Box.new (by simp)).old _
  have Bl : Box W6 (bko + 1 + 1) [.int .i64 0, .int .i64 0, .int .i64 16777215, .int .i64 16777215] 27 := by rw [hW, ← hbo]; exact Box.new (by simp)
  replace Ba : Box W6 (w.heap.size) [.int .i64 a.x, .int .i64 a.y] 23 := by rw [hW]; exact (((Ba).old _).old _).old _
  replace Bb : Box W6 (w.heap.size + 1) [.int .i64 b.x, .int .i64 b.y] 23 := by rw [hW]; exact (((Bb).old _).old _).old _
  replace Bc : Box W6 (w.heap.size + 1 + 1) [.int .i64 c.x, .int .i64 c.y] 23 := by rw [hW]; exact (((Bc).old _).old _).old _
  replace Bp : Box W6 (w.heap.size + 1 + 1 + 1) [.int .i64 p.x, .int .i64 p.y] 23 := by rw [hW]; exact (((Bp).old _).old _).old _
  replace Bt : Box W6 (bkt) [.int .i64 M.A.x, .int .i64 M.A.y, .int .i64 M.B.x, .int .i64 M.B.y, .int .i64 M.C.x, .int .i64 M.C.y] 25 := by rw [hW]; exact (((Bt).old _).old _).old _
  replace hw : Below w.heap.size w W6 := by have hl := hw.size; rw [hW]; go_grown
  clear hW hbo
  clear e1 e2 e3 e4 wA wA2 wB wB2 wC wC2 wD wD2 cm cv cr
  clear xa ya za va xb yb zb vb xc yc zc vc xp yp zp vp xt yt zt vt
  as_aux_lemma =>
    have ga := Ba.cells
    have gb := Bb.cells
    have gc := Bc.cells
    have gp := Bp.cells
    have gt := Bt.cells
    have go := Bo.cells
    have gg := Bg.cells
    have gl := Bl.cells
    refine wp_region_tail 23 (by kernel_rfl) (by kernel_rfl) (C := fun w' => ∃ p : Regrown, w' = grow (redrawn W6 p.d) p.os) (fun w' h => regrown_of_below h) ?_
    simp only [List.take_succ_cons, List.take_zero, List.drop_succ_cons, List.drop_zero]
    repeat (first | (refine rWalk_skip (Eq.refl false) ?_; simp only [Act.put, List.setIfInBounds_toArray, List.set_cons_succ, List.set_cons_zero]) | (refine rWalk_step (fun K hK => ?_); go_simp; first | (refine hK _ ?_; clear hK K) | (apply Exists.intro; refine ⟨fun _ => ?_, hK _ ?_⟩; (first | with_reducible exact toExt co _ | with_reducible exact toExt ch _ | with_reducible exact toExt cl _); clear hK K)))
    refine rWalk_nil ?_
    intro w7 hb
    clear ga gb gc gp gt go gg gl
    replace Ba := Ba.ext hb rfl
    replace Bb := Bb.ext hb rfl
    replace Bc := Bc.ext hb rfl
    replace Bp := Bp.ext hb rfl
    replace Bt := Bt.ext hb rfl
    replace Bo := Bo.ext hb rfl
    replace Bg := Bg.ext hb rfl
    replace Bl := Bl.ext hb rfl
    replace hw := hw.trans (hb.mono hw.size)
    as_aux_lemma =>
      obtain ⟨xa, ya, za, va⟩ := Ba.facts
      obtain ⟨xb, yb, zb, vb⟩ := Bb.facts
      obtain ⟨xc, yc, zc, vc⟩ := Bc.facts
      obtain ⟨xp, yp, zp, vp⟩ := Bp.facts
      obtain ⟨xt, yt, zt, vt⟩ := Bt.facts
      obtain ⟨xo, yo, zo, vo⟩ := Bo.facts
      obtain ⟨xg, yg, zg, vg⟩ := Bg.facts
      obtain ⟨xl, yl, zl, vl⟩ := Bl.facts
      go_wp2_with fail
      refine (c2 _).mono ?_
      rintro e w8 ⟨rfl, hb⟩
      clear xa ya za va xb yb zb vb xc yc zc vc xp yp zp vp xt yt zt vt xo yo zo vo xg yg zg vg xl yl zl vl
      replace Ba := Ba.ext hb rfl
      replace Bb := Bb.ext hb rfl
      replace Bc := Bc.ext hb rfl
      replace Bp := Bp.ext hb rfl
      replace Bt := Bt.ext hb rfl
      replace Bo := Bo.ext hb rfl
      replace Bg := Bg.ext hb rfl
      replace Bl := Bl.ext hb rfl
      replace hw := hw.trans (hb.mono hw.size)
      clear hb
      obtain ⟨xa, ya, za, va⟩ := Ba.facts
      obtain ⟨xb, yb, zb, vb⟩ := Bb.facts
      obtain ⟨xc, yc, zc, vc⟩ := Bc.facts
      obtain ⟨xp, yp, zp, vp⟩ := Bp.facts
      obtain ⟨xt, yt, zt, vt⟩ := Bt.facts
      obtain ⟨xo, yo, zo, vo⟩ := Bo.facts
      obtain ⟨xg, yg, zg, vg⟩ := Bg.facts
      obtain ⟨xl, yl, zl, vl⟩ := Bl.facts
      go_wp2_with fail
      refine (awake4_any _).mono ?_
      rintro e w9 ⟨rfl, hb⟩
      clear xa ya za va xb yb zb vb xc yc zc vc xp yp zp vp xt yt zt vt xo yo zo vo xg yg zg vg xl yl zl vl
      replace Ba := Ba.ext hb rfl
      replace Bb := Bb.ext hb rfl
      replace Bc := Bc.ext hb rfl
      replace Bp := Bp.ext hb rfl
      replace Bt := Bt.ext hb rfl
      replace Bo := Bo.ext hb rfl
      replace Bg := Bg.ext hb rfl
      replace Bl := Bl.ext hb rfl
      replace hw := hw.trans (hb.mono hw.size)
      clear hb
      go_wp2
      go_ret
      exact ⟨rfl, hw⟩

set_option maxRecDepth 100000 in
set_option maxHeartbeats 2000000 in
theorem rpts_01 (a b c p : Pt) (grow_ : Int) (h0 : (!decide (ori a b c = 0)) = true) (h1 : vld p = true) (h2 : hasP (mk a b c) p = false) (h3 : decide (mxA a.x b.x c.x + 1 < 16777216) = true) (w : World) :
    Calls Try.prog 4 #[.agg #[.int .i64 a.x, .int .i64 a.y], .agg #[.int .i64 b.x, .int .i64 b.y], .agg #[.int .i64 c.x, .int .i64 c.y], .agg #[.int .i64 p.x, .int .i64 p.y], .int .i64 grow_] w fun e w' => e = .returned (.bool true) ∧ Below w.heap.size w w' := by
  have hf := points_fin (a := a) (b := b) (c := c) (p := p) (g := grow_ % 50) (by simpa using h0) h1 (Int.emod_nonneg _ (by omega)) (Int.emod_lt_of_pos _ (by omega))
  have cm := rmake_any a b c
  rw [h0] at cm
  have cv := rvalid_any p
  rw [h1] at cv
  have cr := round_gen (i := grow_) (n := 50) (by omega) (by omega)
  have k0 : 0 ≤ grow_ % 50 := Int.emod_nonneg _ (by omega)
  have k1 : grow_ % 50 < 50 := Int.emod_lt_of_pos _ (by omega)
  have hp := vld_iff.1 h1
  generalize grow_ % 50 = K at *
  obtain ⟨f1, f2, f3, f4, f5, f6⟩ := hf
  obtain ⟨X, hX⟩ : ∃ X, mxA a.x b.x c.x = X := ⟨_, rfl⟩
  rw [hX] at f4 f5 f6 h3
  obtain ⟨wA, wA2⟩ := wrap_in (n := p.x - K) (by omega)
  obtain ⟨wB, wB2⟩ := wrap_in (n := p.y - K) (by omega)
  obtain ⟨wC, wC2⟩ := wrap_in (n := p.x + K) (by omega)
  obtain ⟨wD, wD2⟩ := wrap_in (n := p.y + K) (by omega)
  obtain ⟨wE, wE2⟩ := wrap_in (n := X + 1) (by omega)
  have co := ovl_any (mk a b c) ⟨p.x, p.y, p.x, p.y⟩
  have ch := rhasP_any (mk a b c) p
  have cg := ovl_any (mk a b c) ⟨mx2 (p.x - K) 0, mx2 (p.y - K) 0, mn2 (p.x + K) 16777215, mn2 (p.y + K) 16777215⟩
  have cl := ovl_any (mk a b c) ⟨0, 0, 16777215, 16777215⟩
  have c1 := ovl_any (mk a b c) ⟨X + 1, 0, 16777215, 16777215⟩
  have c2 := ovl_any (mk a b c) ⟨X, 0, 16777215, 16777215⟩
  simp only at co cg cl c1 c2
  rw [f1, h2] at co
  rw [h2] at ch
  rw [f3] at cl
  rw [f4] at c1
  rw [f5] at c2
  clear f1 f2 f3 f4 f5 k0 k1 hp h0 h1 h2
  obtain ⟨g1, e1⟩ : ∃ x, mx2 (p.x - K) 0 = x := ⟨_, rfl⟩
  obtain ⟨g2, e2⟩ : ∃ x, mx2 (p.y - K) 0 = x := ⟨_, rfl⟩
  obtain ⟨g3, e3⟩ : ∃ x, mn2 (p.x + K) 16777215 = x := ⟨_, rfl⟩
  obtain ⟨g4, e4⟩ : ∃ x, mn2 (p.y + K) 16777215 = x := ⟨_, rfl⟩
  rw [e1, e2, e3, e4] at cg
  clear f6
  generalize mk a b c = M at *
  go_enter Try.func4, Try.ntmps4
  go_wp2_with fail
  refine at_call fun W1 hW => ?_
  have Ba : Box W1 (w.heap.size) [.int .i64 a.x, .int .i64 a.y] 23 := by rw [hW]; exact (((Box.new rfl).old _).old _).old _
  have Bb : Box W1 (w.heap.size + 1) [.int .i64 b.x, .int .i64 b.y] 23 := by rw [hW]; exact ((Box.new (by simp)).old _).old _
  have Bc : Box W1 (w.heap.size + 1 + 1) [.int .i64 c.x, .int .i64 c.y] 23 := by rw [hW]; exact (Box.new (by simp)).old _
  have Bp : Box W1 (w.heap.size + 1 + 1 + 1) [.int .i64 p.x, .int .i64 p.y] 23 := by rw [hW]; exact Box.new (by simp)
  have hw : Below w.heap.size w W1 := by rw [hW]; go_grown
  clear hW
  refine (cm _).mono ?_
  rintro e w2 ⟨rfl, hb⟩
  replace Ba := Ba.ext hb rfl
  replace Bb := Bb.ext hb rfl
  replace Bc := Bc.ext hb rfl
  replace Bp := Bp.ext hb rfl
  replace hw := hw.trans (hb.mono hw.size)
  clear hb
  obtain ⟨xa, ya, za, va⟩ := Ba.facts
  obtain ⟨xb, yb, zb, vb⟩ := Bb.facts
  obtain ⟨xc, yc, zc, vc⟩ := Bc.facts
  obtain ⟨xp, yp, zp, vp⟩ := Bp.facts
  go_wp2_with fail
  refine at_call fun W3 hW => ?_
  obtain ⟨bkt, hbt⟩ : ∃ b, w2.heap.size = b := ⟨_, rfl⟩
  rw [hbt]
  have lat := Ba.lt
  rw [hbt] at lat
  have lbt := Bb.lt
  rw [hbt] at lbt
  have lct := Bc.lt
  rw [hbt] at lct
  have lpt := Bp.lt
  rw [hbt] at lpt
  have ft := hw.size
  rw [hbt] at ft
  have Bt : Box W3 bkt [.int .i64 M.A.x, .int .i64 M.A.y, .int .i64 M.B.x, .int .i64 M.B.y, .int .i64 M.C.x, .int .i64 M.C.y] 25 := by rw [hW]; exact Box.new hbt.symm
  replace Ba : Box W3 (w.heap.size) [.int .i64 a.x, .int .i64 a.y] 23 := by rw [hW]; exact Ba.old _
  replace Bb : Box W3 (w.heap.size + 1) [.int .i64 b.x, .int .i64 b.y] 23 := by rw [hW]; exact Bb.old _
  replace Bc : Box W3 (w.heap.size + 1 + 1) [.int .i64 c.x, .int .i64 c.y] 23 := by rw [hW]; exact Bc.old _
  replace Bp : Box W3 (w.heap.size + 1 + 1 + 1) [.int .i64 p.x, .int .i64 p.y] 23 := by rw [hW]; exact Bp.old _
  replace hw : Below w.heap.size w W3 := by have hl := hw.size; rw [hW]; go_grown
  clear hW hbt
  refine (cv _).mono ?_
  rintro e w4 ⟨rfl, hb⟩
  clear xa ya za va xb yb zb vb xc yc zc vc xp yp zp vp
  replace Ba := Ba.ext hb rfl
  replace Bb := Bb.ext hb rfl
  replace Bc := Bc.ext hb rfl
  replace Bp := Bp.ext hb rfl
  replace Bt := Bt.ext hb rfl
  replace hw := hw.trans (hb.mono hw.size)
  clear hb
  obtain ⟨xa, ya, za, va⟩ := Ba.facts
  obtain ⟨xb, yb, zb, vb⟩ := Bb.facts
  obtain ⟨xc, yc, zc, vc⟩ := Bc.facts
  obtain ⟨xp, yp, zp, vp⟩ := Bp.facts
  obtain ⟨xt, yt, zt, vt⟩ := Bt.facts
  go_wp2_with fail
  refine (cr _).mono ?_
  rintro e w5 ⟨rfl, hb⟩
  clear xa ya za va xb yb zb vb xc yc zc vc xp yp zp vp xt yt zt vt
  replace Ba := Ba.ext hb rfl
  replace Bb := Bb.ext hb rfl
  replace Bc := Bc.ext hb rfl
  replace Bp := Bp.ext hb rfl
  replace Bt := Bt.ext hb rfl
  replace hw := hw.trans (hb.mono hw.size)
  clear hb
  obtain ⟨xa, ya, za, va⟩ := Ba.facts
  obtain ⟨xb, yb, zb, vb⟩ := Bb.facts
  obtain ⟨xc, yc, zc, vc⟩ := Bc.facts
  obtain ⟨xp, yp, zp, vp⟩ := Bp.facts
  obtain ⟨xt, yt, zt, vt⟩ := Bt.facts
  go_wp2_with fail
  refine at_world fun W6 hW => ?_
  obtain ⟨bko, hbo⟩ : ∃ b, w5.heap.size = b := ⟨_, rfl⟩
  rw [hbo]
  have lao := Ba.lt
  rw [hbo] at lao
  have lbo := Bb.lt
  rw [hbo] at lbo
  have lco := Bc.lt
  rw [hbo] at lco
  have lpo := Bp.lt
  rw [hbo] at lpo
  have lto := Bt.lt
  rw [hbo] at lto
  have fo := hw.size
  rw [hbo] at fo
  have Bo : Box W6 (bko) [.int .i64 p.x, .int .i64 p.y, .int .i64 p.x, .int .i64 p.y] 27 := by rw [hW, ← hbo]; exact ((Box.new rfl).old _).old _
  have Bg : Box W6 (bko + 1) [.int .i64 g1, .int .i64 g2, .int .i64 g3, .int .i64 g4] 27 := by rw [hW, ← hbo]; exact (Box.new (by simp)).old _
  have Bl : Box W6 (bko + 1 + 1) [.int .i64 0, .int .i64 0, .int .i64 16777215, .int .i64 16777215] 27 := by rw [hW, ← hbo]; exact Box.new (by simp)
  replace Ba : Box W6 (w.heap.size) [.int .i64 a.x, .int .i64 a.y] 23 := by rw [hW]; exact (((Ba).old _).old _).old _
  replace Bb : Box W6 (w.heap.size + 1) [.int .i64 b.x, .int .i64 b.y] 23 := by rw [hW]; exact (((Bb).old _).old _).old _
  replace Bc : Box W6 (w.heap.size + 1 + 1) [.int .i64 c.x, .int .i64 c.y] 23 := by rw [hW]; exact (((Bc).old _).old _).old _
  replace Bp : Box W6 (w.heap.size + 1 + 1 + 1) [.int .i64 p.x, .int .i64 p.y] 23 := by rw [hW]; exact (((Bp).old _).old _).old _
  replace Bt : Box W6 (bkt) [.int .i64 M.A.x, .int .i64 M.A.y, .int .i64 M.B.x, .int .i64 M.B.y, .int .i64 M.C.x, .int .i64 M.C.y] 25 := by rw [hW]; exact (((Bt).old _).old _).old _
  replace hw : Below w.heap.size w W6 := by have hl := hw.size; rw [hW]; go_grown
  clear hW hbo
  clear e1 e2 e3 e4 wA wA2 wB wB2 wC wC2 wD wD2 cm cv cr
  clear xa ya za va xb yb zb vb xc yc zc vc xp yp zp vp xt yt zt vt
  as_aux_lemma =>
    have ga := Ba.cells
    have gb := Bb.cells
    have gc := Bc.cells
    have gp := Bp.cells
    have gt := Bt.cells
    have go := Bo.cells
    have gg := Bg.cells
    have gl := Bl.cells
    refine wp_region_tail 23 (by kernel_rfl) (by kernel_rfl) (C := fun w' => ∃ p : Regrown, w' = grow (redrawn W6 p.d) p.os) (fun w' h => regrown_of_below h) ?_
    simp only [List.take_succ_cons, List.take_zero, List.drop_succ_cons, List.drop_zero]
    repeat (first | (refine rWalk_skip (Eq.refl false) ?_; simp only [Act.put, List.setIfInBounds_toArray, List.set_cons_succ, List.set_cons_zero]) | (refine rWalk_step (fun K hK => ?_); go_simp; first | (refine hK _ ?_; clear hK K) | (apply Exists.intro; refine ⟨fun _ => ?_, hK _ ?_⟩; (first | with_reducible exact toExt co _ | with_reducible exact toExt ch _ | with_reducible exact toExt cl _); clear hK K)))
    refine rWalk_nil ?_
    intro w7 hb
    clear ga gb gc gp gt go gg gl
    replace Ba := Ba.ext hb rfl
    replace Bb := Bb.ext hb rfl
    replace Bc := Bc.ext hb rfl
    replace Bp := Bp.ext hb rfl
    replace Bt := Bt.ext hb rfl
    replace Bo := Bo.ext hb rfl
    replace Bg := Bg.ext hb rfl
    replace Bl := Bl.ext hb rfl
    replace hw := hw.trans (hb.mono hw.size)
    as_aux_lemma =>
      obtain ⟨xa, ya, za, va⟩ := Ba.facts
      obtain ⟨xb, yb, zb, vb⟩ := Bb.facts
      obtain ⟨xc, yc, zc, vc⟩ := Bc.facts
      obtain ⟨xp, yp, zp, vp⟩ := Bp.facts
      obtain ⟨xt, yt, zt, vt⟩ := Bt.facts
      obtain ⟨xo, yo, zo, vo⟩ := Bo.facts
      obtain ⟨xg, yg, zg, vg⟩ := Bg.facts
      obtain ⟨xl, yl, zl, vl⟩ := Bl.facts
      go_wp2_with fail
      refine (c1 _).mono ?_
      rintro e w8 ⟨rfl, hb⟩
      clear xa ya za va xb yb zb vb xc yc zc vc xp yp zp vp xt yt zt vt xo yo zo vo xg yg zg vg xl yl zl vl
      replace Ba := Ba.ext hb rfl
      replace Bb := Bb.ext hb rfl
      replace Bc := Bc.ext hb rfl
      replace Bp := Bp.ext hb rfl
      replace Bt := Bt.ext hb rfl
      replace Bo := Bo.ext hb rfl
      replace Bg := Bg.ext hb rfl
      replace Bl := Bl.ext hb rfl
      replace hw := hw.trans (hb.mono hw.size)
      clear hb
      obtain ⟨xa, ya, za, va⟩ := Ba.facts
      obtain ⟨xb, yb, zb, vb⟩ := Bb.facts
      obtain ⟨xc, yc, zc, vc⟩ := Bc.facts
      obtain ⟨xp, yp, zp, vp⟩ := Bp.facts
      obtain ⟨xt, yt, zt, vt⟩ := Bt.facts
      obtain ⟨xo, yo, zo, vo⟩ := Bo.facts
      obtain ⟨xg, yg, zg, vg⟩ := Bg.facts
      obtain ⟨xl, yl, zl, vl⟩ := Bl.facts
      go_wp2_with fail
      refine (c2 _).mono ?_
      rintro e w9 ⟨rfl, hb⟩
      clear xa ya za va xb yb zb vb xc yc zc vc xp yp zp vp xt yt zt vt xo yo zo vo xg yg zg vg xl yl zl vl
      replace Ba := Ba.ext hb rfl
      replace Bb := Bb.ext hb rfl
      replace Bc := Bc.ext hb rfl
      replace Bp := Bp.ext hb rfl
      replace Bt := Bt.ext hb rfl
      replace Bo := Bo.ext hb rfl
      replace Bg := Bg.ext hb rfl
      replace Bl := Bl.ext hb rfl
      replace hw := hw.trans (hb.mono hw.size)
      clear hb
      obtain ⟨xa, ya, za, va⟩ := Ba.facts
      obtain ⟨xb, yb, zb, vb⟩ := Bb.facts
      obtain ⟨xc, yc, zc, vc⟩ := Bc.facts
      obtain ⟨xp, yp, zp, vp⟩ := Bp.facts
      obtain ⟨xt, yt, zt, vt⟩ := Bt.facts
      obtain ⟨xo, yo, zo, vo⟩ := Bo.facts
      obtain ⟨xg, yg, zg, vg⟩ := Bg.facts
      obtain ⟨xl, yl, zl, vl⟩ := Bl.facts
      go_wp2_with fail
      refine (awake4_any _).mono ?_
      rintro e w10 ⟨rfl, hb⟩
      clear xa ya za va xb yb zb vb xc yc zc vc xp yp zp vp xt yt zt vt xo yo zo vo xg yg zg vg xl yl zl vl
      replace Ba := Ba.ext hb rfl
      replace Bb := Bb.ext hb rfl
      replace Bc := Bc.ext hb rfl
      replace Bp := Bp.ext hb rfl
      replace Bt := Bt.ext hb rfl
      replace Bo := Bo.ext hb rfl
      replace Bg := Bg.ext hb rfl
      replace Bl := Bl.ext hb rfl
      replace hw := hw.trans (hb.mono hw.size)
      clear hb
      go_wp2
      go_ret
      exact ⟨rfl, hw⟩

set_option maxRecDepth 100000 in
set_option maxHeartbeats 2000000 in
theorem rpts_10 (a b c p : Pt) (grow_ : Int) (h0 : (!decide (ori a b c = 0)) = true) (h1 : vld p = true) (h2 : hasP (mk a b c) p = true) (h3 : decide (mxA a.x b.x c.x + 1 < 16777216) = false) (w : World) :
    Calls Try.prog 4 #[.agg #[.int .i64 a.x, .int .i64 a.y], .agg #[.int .i64 b.x, .int .i64 b.y], .agg #[.int .i64 c.x, .int .i64 c.y], .agg #[.int .i64 p.x, .int .i64 p.y], .int .i64 grow_] w fun e w' => e = .returned (.bool true) ∧ Below w.heap.size w w' := by
  have hf := points_fin (a := a) (b := b) (c := c) (p := p) (g := grow_ % 50) (by simpa using h0) h1 (Int.emod_nonneg _ (by omega)) (Int.emod_lt_of_pos _ (by omega))
  have cm := rmake_any a b c
  rw [h0] at cm
  have cv := rvalid_any p
  rw [h1] at cv
  have cr := round_gen (i := grow_) (n := 50) (by omega) (by omega)
  have k0 : 0 ≤ grow_ % 50 := Int.emod_nonneg _ (by omega)
  have k1 : grow_ % 50 < 50 := Int.emod_lt_of_pos _ (by omega)
  have hp := vld_iff.1 h1
  generalize grow_ % 50 = K at *
  obtain ⟨f1, f2, f3, f4, f5, f6⟩ := hf
  obtain ⟨X, hX⟩ : ∃ X, mxA a.x b.x c.x = X := ⟨_, rfl⟩
  rw [hX] at f4 f5 f6 h3
  obtain ⟨wA, wA2⟩ := wrap_in (n := p.x - K) (by omega)
  obtain ⟨wB, wB2⟩ := wrap_in (n := p.y - K) (by omega)
  obtain ⟨wC, wC2⟩ := wrap_in (n := p.x + K) (by omega)
  obtain ⟨wD, wD2⟩ := wrap_in (n := p.y + K) (by omega)
  obtain ⟨wE, wE2⟩ := wrap_in (n := X + 1) (by omega)
  have co := ovl_any (mk a b c) ⟨p.x, p.y, p.x, p.y⟩
  have ch := rhasP_any (mk a b c) p
  have cg := ovl_any (mk a b c) ⟨mx2 (p.x - K) 0, mx2 (p.y - K) 0, mn2 (p.x + K) 16777215, mn2 (p.y + K) 16777215⟩
  have cl := ovl_any (mk a b c) ⟨0, 0, 16777215, 16777215⟩
  have c1 := ovl_any (mk a b c) ⟨X + 1, 0, 16777215, 16777215⟩
  have c2 := ovl_any (mk a b c) ⟨X, 0, 16777215, 16777215⟩
  simp only at co cg cl c1 c2
  rw [f1, h2] at co
  rw [h2] at ch
  rw [f3] at cl
  rw [f4] at c1
  rw [f5] at c2
  rw [f2 h2] at cg
  clear f1 f2 f3 f4 f5 k0 k1 hp h0 h1 h2
  obtain ⟨g1, e1⟩ : ∃ x, mx2 (p.x - K) 0 = x := ⟨_, rfl⟩
  obtain ⟨g2, e2⟩ : ∃ x, mx2 (p.y - K) 0 = x := ⟨_, rfl⟩
  obtain ⟨g3, e3⟩ : ∃ x, mn2 (p.x + K) 16777215 = x := ⟨_, rfl⟩
  obtain ⟨g4, e4⟩ : ∃ x, mn2 (p.y + K) 16777215 = x := ⟨_, rfl⟩
  rw [e1, e2, e3, e4] at cg
  clear f6
  generalize mk a b c = M at *
  go_enter Try.func4, Try.ntmps4
  go_wp2_with fail
  refine at_call fun W1 hW => ?_
  have Ba : Box W1 (w.heap.size) [.int .i64 a.x, .int .i64 a.y] 23 := by rw [hW]; exact (((Box.new rfl).old _).old _).old _
  have Bb : Box W1 (w.heap.size + 1) [.int .i64 b.x, .int .i64 b.y] 23 := by rw [hW]; exact ((Box.new (by simp)).old _).old _
  have Bc : Box W1 (w.heap.size + 1 + 1) [.int .i64 c.x, .int .i64 c.y] 23 := by rw [hW]; exact (Box.new (by simp)).old _
  have Bp : Box W1 (w.heap.size + 1 + 1 + 1) [.int .i64 p.x, .int .i64 p.y] 23 := by rw [hW]; exact Box.new (by simp)
  have hw : Below w.heap.size w W1 := by rw [hW]; go_grown
  clear hW
  refine (cm _).mono ?_
  rintro e w2 ⟨rfl, hb⟩
  replace Ba := Ba.ext hb rfl
  replace Bb := Bb.ext hb rfl
  replace Bc := Bc.ext hb rfl
  replace Bp := Bp.ext hb rfl
  replace hw := hw.trans (hb.mono hw.size)
  clear hb
  obtain ⟨xa, ya, za, va⟩ := Ba.facts
  obtain ⟨xb, yb, zb, vb⟩ := Bb.facts
  obtain ⟨xc, yc, zc, vc⟩ := Bc.facts
  obtain ⟨xp, yp, zp, vp⟩ := Bp.facts
  go_wp2_with fail
  refine at_call fun W3 hW => ?_
  obtain ⟨bkt, hbt⟩ : ∃ b, w2.heap.size = b := ⟨_, rfl⟩
  rw [hbt]
  have lat := Ba.lt
  rw [hbt] at lat
  have lbt := Bb.lt
  rw [hbt] at lbt
  have lct := Bc.lt
  rw [hbt] at lct
  have lpt := Bp.lt
  rw [hbt] at lpt
  have ft := hw.size
  rw [hbt] at ft
  have Bt : Box W3 bkt [.int .i64 M.A.x, .int .i64 M.A.y, .int .i64 M.B.x, .int .i64 M.B.y, .int .i64 M.C.x, .int .i64 M.C.y] 25 := by rw [hW]; exact Box.new hbt.symm
  replace Ba : Box W3 (w.heap.size) [.int .i64 a.x, .int .i64 a.y] 23 := by rw [hW]; exact Ba.old _
  replace Bb : Box W3 (w.heap.size + 1) [.int .i64 b.x, .int .i64 b.y] 23 := by rw [hW]; exact Bb.old _
  replace Bc : Box W3 (w.heap.size + 1 + 1) [.int .i64 c.x, .int .i64 c.y] 23 := by rw [hW]; exact Bc.old _
  replace Bp : Box W3 (w.heap.size + 1 + 1 + 1) [.int .i64 p.x, .int .i64 p.y] 23 := by rw [hW]; exact Bp.old _
  replace hw : Below w.heap.size w W3 := by have hl := hw.size; rw [hW]; go_grown
  clear hW hbt
  refine (cv _).mono ?_
  rintro e w4 ⟨rfl, hb⟩
  clear xa ya za va xb yb zb vb xc yc zc vc xp yp zp vp
  replace Ba := Ba.ext hb rfl
  replace Bb := Bb.ext hb rfl
  replace Bc := Bc.ext hb rfl
  replace Bp := Bp.ext hb rfl
  replace Bt := Bt.ext hb rfl
  replace hw := hw.trans (hb.mono hw.size)
  clear hb
  obtain ⟨xa, ya, za, va⟩ := Ba.facts
  obtain ⟨xb, yb, zb, vb⟩ := Bb.facts
  obtain ⟨xc, yc, zc, vc⟩ := Bc.facts
  obtain ⟨xp, yp, zp, vp⟩ := Bp.facts
  obtain ⟨xt, yt, zt, vt⟩ := Bt.facts
  go_wp2_with fail
  refine (cr _).mono ?_
  rintro e w5 ⟨rfl, hb⟩
  clear xa ya za va xb yb zb vb xc yc zc vc xp yp zp vp xt yt zt vt
  replace Ba := Ba.ext hb rfl
  replace Bb := Bb.ext hb rfl
  replace Bc := Bc.ext hb rfl
  replace Bp := Bp.ext hb rfl
  replace Bt := Bt.ext hb rfl
  replace hw := hw.trans (hb.mono hw.size)
  clear hb
  obtain ⟨xa, ya, za, va⟩ := Ba.facts
  obtain ⟨xb, yb, zb, vb⟩ := Bb.facts
  obtain ⟨xc, yc, zc, vc⟩ := Bc.facts
  obtain ⟨xp, yp, zp, vp⟩ := Bp.facts
  obtain ⟨xt, yt, zt, vt⟩ := Bt.facts
  go_wp2_with fail
  refine at_world fun W6 hW => ?_
  obtain ⟨bko, hbo⟩ : ∃ b, w5.heap.size = b := ⟨_, rfl⟩
  rw [hbo]
  have lao := Ba.lt
  rw [hbo] at lao
  have lbo := Bb.lt
  rw [hbo] at lbo
  have lco := Bc.lt
  rw [hbo] at lco
  have lpo := Bp.lt
  rw [hbo] at lpo
  have lto := Bt.lt
  rw [hbo] at lto
  have fo := hw.size
  rw [hbo] at fo
  have Bo : Box W6 (bko) [.int .i64 p.x, .int .i64 p.y, .int .i64 p.x, .int .i64 p.y] 27 := by rw [hW, ← hbo]; exact ((Box.new rfl).old _).old _
  have Bg : Box W6 (bko + 1) [.int .i64 g1, .int .i64 g2, .int .i64 g3, .int .i64 g4] 27 := by rw [hW, ← hbo]; exact (Box.new (by simp)).old _
  have Bl : Box W6 (bko + 1 + 1) [.int .i64 0, .int .i64 0, .int .i64 16777215, .int .i64 16777215] 27 := by rw [hW, ← hbo]; exact Box.new (by simp)
  replace Ba : Box W6 (w.heap.size) [.int .i64 a.x, .int .i64 a.y] 23 := by rw [hW]; exact (((Ba).old _).old _).old _
  replace Bb : Box W6 (w.heap.size + 1) [.int .i64 b.x, .int .i64 b.y] 23 := by rw [hW]; exact (((Bb).old _).old _).old _
  replace Bc : Box W6 (w.heap.size + 1 + 1) [.int .i64 c.x, .int .i64 c.y] 23 := by rw [hW]; exact (((Bc).old _).old _).old _
  replace Bp : Box W6 (w.heap.size + 1 + 1 + 1) [.int .i64 p.x, .int .i64 p.y] 23 := by rw [hW]; exact (((Bp).old _).old _).old _
  replace Bt : Box W6 (bkt) [.int .i64 M.A.x, .int .i64 M.A.y, .int .i64 M.B.x, .int .i64 M.B.y, .int .i64 M.C.x, .int .i64 M.C.y] 25 := by rw [hW]; exact (((Bt).old _).old _).old _
  replace hw : Below w.heap.size w W6 := by have hl := hw.size; rw [hW]; go_grown
  clear hW hbo
  clear e1 e2 e3 e4 wA wA2 wB wB2 wC wC2 wD wD2 cm cv cr
  clear xa ya za va xb yb zb vb xc yc zc vc xp yp zp vp xt yt zt vt
  as_aux_lemma =>
    have ga := Ba.cells
    have gb := Bb.cells
    have gc := Bc.cells
    have gp := Bp.cells
    have gt := Bt.cells
    have go := Bo.cells
    have gg := Bg.cells
    have gl := Bl.cells
    refine wp_region_tail 23 (by kernel_rfl) (by kernel_rfl) (C := fun w' => ∃ p : Regrown, w' = grow (redrawn W6 p.d) p.os) (fun w' h => regrown_of_below h) ?_
    simp only [List.take_succ_cons, List.take_zero, List.drop_succ_cons, List.drop_zero]
    repeat (first | (refine rWalk_skip (Eq.refl false) ?_; simp only [Act.put, List.setIfInBounds_toArray, List.set_cons_succ, List.set_cons_zero]) | (refine rWalk_step (fun K hK => ?_); go_simp; first | (refine hK _ ?_; clear hK K) | (apply Exists.intro; refine ⟨fun _ => ?_, hK _ ?_⟩; (first | with_reducible exact toExt co _ | with_reducible exact toExt ch _ | with_reducible exact toExt cg _ | with_reducible exact toExt cl _); clear hK K)))
    refine rWalk_nil ?_
    intro w7 hb
    clear ga gb gc gp gt go gg gl
    replace Ba := Ba.ext hb rfl
    replace Bb := Bb.ext hb rfl
    replace Bc := Bc.ext hb rfl
    replace Bp := Bp.ext hb rfl
    replace Bt := Bt.ext hb rfl
    replace Bo := Bo.ext hb rfl
    replace Bg := Bg.ext hb rfl
    replace Bl := Bl.ext hb rfl
    replace hw := hw.trans (hb.mono hw.size)
    as_aux_lemma =>
      obtain ⟨xa, ya, za, va⟩ := Ba.facts
      obtain ⟨xb, yb, zb, vb⟩ := Bb.facts
      obtain ⟨xc, yc, zc, vc⟩ := Bc.facts
      obtain ⟨xp, yp, zp, vp⟩ := Bp.facts
      obtain ⟨xt, yt, zt, vt⟩ := Bt.facts
      obtain ⟨xo, yo, zo, vo⟩ := Bo.facts
      obtain ⟨xg, yg, zg, vg⟩ := Bg.facts
      obtain ⟨xl, yl, zl, vl⟩ := Bl.facts
      go_wp2_with fail
      refine (c2 _).mono ?_
      rintro e w8 ⟨rfl, hb⟩
      clear xa ya za va xb yb zb vb xc yc zc vc xp yp zp vp xt yt zt vt xo yo zo vo xg yg zg vg xl yl zl vl
      replace Ba := Ba.ext hb rfl
      replace Bb := Bb.ext hb rfl
      replace Bc := Bc.ext hb rfl
      replace Bp := Bp.ext hb rfl
      replace Bt := Bt.ext hb rfl
      replace Bo := Bo.ext hb rfl
      replace Bg := Bg.ext hb rfl
      replace Bl := Bl.ext hb rfl
      replace hw := hw.trans (hb.mono hw.size)
      clear hb
      obtain ⟨xa, ya, za, va⟩ := Ba.facts
      obtain ⟨xb, yb, zb, vb⟩ := Bb.facts
      obtain ⟨xc, yc, zc, vc⟩ := Bc.facts
      obtain ⟨xp, yp, zp, vp⟩ := Bp.facts
      obtain ⟨xt, yt, zt, vt⟩ := Bt.facts
      obtain ⟨xo, yo, zo, vo⟩ := Bo.facts
      obtain ⟨xg, yg, zg, vg⟩ := Bg.facts
      obtain ⟨xl, yl, zl, vl⟩ := Bl.facts
      go_wp2_with fail
      refine (awake4_any _).mono ?_
      rintro e w9 ⟨rfl, hb⟩
      clear xa ya za va xb yb zb vb xc yc zc vc xp yp zp vp xt yt zt vt xo yo zo vo xg yg zg vg xl yl zl vl
      replace Ba := Ba.ext hb rfl
      replace Bb := Bb.ext hb rfl
      replace Bc := Bc.ext hb rfl
      replace Bp := Bp.ext hb rfl
      replace Bt := Bt.ext hb rfl
      replace Bo := Bo.ext hb rfl
      replace Bg := Bg.ext hb rfl
      replace Bl := Bl.ext hb rfl
      replace hw := hw.trans (hb.mono hw.size)
      clear hb
      go_wp2
      go_ret
      exact ⟨rfl, hw⟩

set_option maxRecDepth 100000 in
set_option maxHeartbeats 2000000 in
theorem rpts_11 (a b c p : Pt) (grow_ : Int) (h0 : (!decide (ori a b c = 0)) = true) (h1 : vld p = true) (h2 : hasP (mk a b c) p = true) (h3 : decide (mxA a.x b.x c.x + 1 < 16777216) = true) (w : World) :
    Calls Try.prog 4 #[.agg #[.int .i64 a.x, .int .i64 a.y], .agg #[.int .i64 b.x, .int .i64 b.y], .agg #[.int .i64 c.x, .int .i64 c.y], .agg #[.int .i64 p.x, .int .i64 p.y], .int .i64 grow_] w fun e w' => e = .returned (.bool true) ∧ Below w.heap.size w w' := by
  have hf := points_fin (a := a) (b := b) (c := c) (p := p) (g := grow_ % 50) (by simpa using h0) h1 (Int.emod_nonneg _ (by omega)) (Int.emod_lt_of_pos _ (by omega))
  have cm := rmake_any a b c
  rw [h0] at cm
  have cv := rvalid_any p
  rw [h1] at cv
  have cr := round_gen (i := grow_) (n := 50) (by omega) (by omega)
  have k0 : 0 ≤ grow_ % 50 := Int.emod_nonneg _ (by omega)
  have k1 : grow_ % 50 < 50 := Int.emod_lt_of_pos _ (by omega)
  have hp := vld_iff.1 h1
  generalize grow_ % 50 = K at *
  obtain ⟨f1, f2, f3, f4, f5, f6⟩ := hf
  obtain ⟨X, hX⟩ : ∃ X, mxA a.x b.x c.x = X := ⟨_, rfl⟩
  rw [hX] at f4 f5 f6 h3
  obtain ⟨wA, wA2⟩ := wrap_in (n := p.x - K) (by omega)
  obtain ⟨wB, wB2⟩ := wrap_in (n := p.y - K) (by omega)
  obtain ⟨wC, wC2⟩ := wrap_in (n := p.x + K) (by omega)
  obtain ⟨wD, wD2⟩ := wrap_in (n := p.y + K) (by omega)
  obtain ⟨wE, wE2⟩ := wrap_in (n := X + 1) (by omega)
  have co := ovl_any (mk a b c) ⟨p.x, p.y, p.x, p.y⟩
  have ch := rhasP_any (mk a b c) p
  have cg := ovl_any (mk a b c) ⟨mx2 (p.x - K) 0, mx2 (p.y - K) 0, mn2 (p.x + K) 16777215, mn2 (p.y + K) 16777215⟩
  have cl := ovl_any (mk a b c) ⟨0, 0, 16777215, 16777215⟩
  have c1 := ovl_any (mk a b c) ⟨X + 1, 0, 16777215, 16777215⟩
  have c2 := ovl_any (mk a b c) ⟨X, 0, 16777215, 16777215⟩
  simp only at co cg cl c1 c2
  rw [f1, h2] at co
  rw [h2] at ch
  rw [f3] at cl
  rw [f4] at c1
  rw [f5] at c2
  rw [f2 h2] at cg
  clear f1 f2 f3 f4 f5 k0 k1 hp h0 h1 h2
  obtain ⟨g1, e1⟩ : ∃ x, mx2 (p.x - K) 0 = x := ⟨_, rfl⟩
  obtain ⟨g2, e2⟩ : ∃ x, mx2 (p.y - K) 0 = x := ⟨_, rfl⟩
  obtain ⟨g3, e3⟩ : ∃ x, mn2 (p.x + K) 16777215 = x := ⟨_, rfl⟩
  obtain ⟨g4, e4⟩ : ∃ x, mn2 (p.y + K) 16777215 = x := ⟨_, rfl⟩
  rw [e1, e2, e3, e4] at cg
  clear f6
  generalize mk a b c = M at *
  go_enter Try.func4, Try.ntmps4
  go_wp2_with fail
  refine at_call fun W1 hW => ?_
  have Ba : Box W1 (w.heap.size) [.int .i64 a.x, .int .i64 a.y] 23 := by rw [hW]; exact (((Box.new rfl).old _).old _).old _
  have Bb : Box W1 (w.heap.size + 1) [.int .i64 b.x, .int .i64 b.y] 23 := by rw [hW]; exact ((Box.new (by simp)).old _).old _
  have Bc : Box W1 (w.heap.size + 1 + 1) [.int .i64 c.x, .int .i64 c.y] 23 := by rw [hW]; exact (Box.new (by simp)).old _
  have Bp : Box W1 (w.heap.size + 1 + 1 + 1) [.int .i64 p.x, .int .i64 p.y] 23 := by rw [hW]; exact Box.new (by simp)
  have hw : Below w.heap.size w W1 := by rw [hW]; go_grown
  clear hW
  refine (cm _).mono ?_
  rintro e w2 ⟨rfl, hb⟩
  replace Ba := Ba.ext hb rfl
  replace Bb := Bb.ext hb rfl
  replace Bc := Bc.ext hb rfl
  replace Bp := Bp.ext hb rfl
  replace hw := hw.trans (hb.mono hw.size)
  clear hb
  obtain ⟨xa, ya, za, va⟩ := Ba.facts
  obtain ⟨xb, yb, zb, vb⟩ := Bb.facts
  obtain ⟨xc, yc, zc, vc⟩ := Bc.facts
  obtain ⟨xp, yp, zp, vp⟩ := Bp.facts
  go_wp2_with fail
  refine at_call fun W3 hW => ?_
  obtain ⟨bkt, hbt⟩ : ∃ b, w2.heap.size = b := ⟨_, rfl⟩
  rw [hbt]
  have lat := Ba.lt
  rw [hbt] at lat
  have lbt := Bb.lt
  rw [hbt] at lbt
  have lct := Bc.lt
  rw [hbt] at lct
  have lpt := Bp.lt
  rw [hbt] at lpt
  have ft := hw.size
  rw [hbt] at ft
  have Bt : Box W3 bkt [.int .i64 M.A.x, .int .i64 M.A.y, .int .i64 M.B.x, .int .i64 M.B.y, .int .i64 M.C.x, .int .i64 M.C.y] 25 := by rw [hW]; exact Box.new hbt.symm
  replace Ba : Box W3 (w.heap.size) [.int .i64 a.x, .int .i64 a.y] 23 := by rw [hW]; exact Ba.old _
  replace Bb : Box W3 (w.heap.size + 1) [.int .i64 b.x, .int .i64 b.y] 23 := by rw [hW]; exact Bb.old _
  replace Bc : Box W3 (w.heap.size + 1 + 1) [.int .i64 c.x, .int .i64 c.y] 23 := by rw [hW]; exact Bc.old _
  replace Bp : Box W3 (w.heap.size + 1 + 1 + 1) [.int .i64 p.x, .int .i64 p.y] 23 := by rw [hW]; exact Bp.old _
  replace hw : Below w.heap.size w W3 := by have hl := hw.size; rw [hW]; go_grown
  clear hW hbt
  refine (cv _).mono ?_
  rintro e w4 ⟨rfl, hb⟩
  clear xa ya za va xb yb zb vb xc yc zc vc xp yp zp vp
  replace Ba := Ba.ext hb rfl
  replace Bb := Bb.ext hb rfl
  replace Bc := Bc.ext hb rfl
  replace Bp := Bp.ext hb rfl
  replace Bt := Bt.ext hb rfl
  replace hw := hw.trans (hb.mono hw.size)
  clear hb
  obtain ⟨xa, ya, za, va⟩ := Ba.facts
  obtain ⟨xb, yb, zb, vb⟩ := Bb.facts
  obtain ⟨xc, yc, zc, vc⟩ := Bc.facts
  obtain ⟨xp, yp, zp, vp⟩ := Bp.facts
  obtain ⟨xt, yt, zt, vt⟩ := Bt.facts
  go_wp2_with fail
  refine (cr _).mono ?_
  rintro e w5 ⟨rfl, hb⟩
  clear xa ya za va xb yb zb vb xc yc zc vc xp yp zp vp xt yt zt vt
  replace Ba := Ba.ext hb rfl
  replace Bb := Bb.ext hb rfl
  replace Bc := Bc.ext hb rfl
  replace Bp := Bp.ext hb rfl
  replace Bt := Bt.ext hb rfl
  replace hw := hw.trans (hb.mono hw.size)
  clear hb
  obtain ⟨xa, ya, za, va⟩ := Ba.facts
  obtain ⟨xb, yb, zb, vb⟩ := Bb.facts
  obtain ⟨xc, yc, zc, vc⟩ := Bc.facts
  obtain ⟨xp, yp, zp, vp⟩ := Bp.facts
  obtain ⟨xt, yt, zt, vt⟩ := Bt.facts
  go_wp2_with fail
  refine at_world fun W6 hW => ?_
  obtain ⟨bko, hbo⟩ : ∃ b, w5.heap.size = b := ⟨_, rfl⟩
  rw [hbo]
  have lao := Ba.lt
  rw [hbo] at lao
  have lbo := Bb.lt
  rw [hbo] at lbo
  have lco := Bc.lt
  rw [hbo] at lco
  have lpo := Bp.lt
  rw [hbo] at lpo
  have lto := Bt.lt
  rw [hbo] at lto
  have fo := hw.size
  rw [hbo] at fo
  have Bo : Box W6 (bko) [.int .i64 p.x, .int .i64 p.y, .int .i64 p.x, .int .i64 p.y] 27 := by rw [hW, ← hbo]; exact ((Box.new rfl).old _).old _
  have Bg : Box W6 (bko + 1) [.int .i64 g1, .int .i64 g2, .int .i64 g3, .int .i64 g4] 27 := by rw [hW, ← hbo]; exact (Box.new (by simp)).old _
  have Bl : Box W6 (bko + 1 + 1) [.int .i64 0, .int .i64 0, .int .i64 16777215, .int .i64 16777215] 27 := by rw [hW, ← hbo]; exact Box.new (by simp)
  replace Ba : Box W6 (w.heap.size) [.int .i64 a.x, .int .i64 a.y] 23 := by rw [hW]; exact (((Ba).old _).old _).old _
  replace Bb : Box W6 (w.heap.size + 1) [.int .i64 b.x, .int .i64 b.y] 23 := by rw [hW]; exact (((Bb).old _).old _).old _
  replace Bc : Box W6 (w.heap.size + 1 + 1) [.int .i64 c.x, .int .i64 c.y] 23 := by rw [hW]; exact (((Bc).old _).old _).old _
  replace Bp : Box W6 (w.heap.size + 1 + 1 + 1) [.int .i64 p.x, .int .i64 p.y] 23 := by rw [hW]; exact (((Bp).old _).old _).old _
  replace Bt : Box W6 (bkt) [.int .i64 M.A.x, .int .i64 M.A.y, .int .i64 M.B.x, .int .i64 M.B.y, .int .i64 M.C.x, .int .i64 M.C.y] 25 := by rw [hW]; exact (((Bt).old _).old _).old _
  replace hw : Below w.heap.size w W6 := by have hl := hw.size; rw [hW]; go_grown
  clear hW hbo
  clear e1 e2 e3 e4 wA wA2 wB wB2 wC wC2 wD wD2 cm cv cr
  clear xa ya za va xb yb zb vb xc yc zc vc xp yp zp vp xt yt zt vt
  as_aux_lemma =>
    have ga := Ba.cells
    have gb := Bb.cells
    have gc := Bc.cells
    have gp := Bp.cells
    have gt := Bt.cells
    have go := Bo.cells
    have gg := Bg.cells
    have gl := Bl.cells
    refine wp_region_tail 23 (by kernel_rfl) (by kernel_rfl) (C := fun w' => ∃ p : Regrown, w' = grow (redrawn W6 p.d) p.os) (fun w' h => regrown_of_below h) ?_
    simp only [List.take_succ_cons, List.take_zero, List.drop_succ_cons, List.drop_zero]
    repeat (first | (refine rWalk_skip (Eq.refl false) ?_; simp only [Act.put, List.setIfInBounds_toArray, List.set_cons_succ, List.set_cons_zero]) | (refine rWalk_step (fun K hK => ?_); go_simp; first | (refine hK _ ?_; clear hK K) | (apply Exists.intro; refine ⟨fun _ => ?_, hK _ ?_⟩; (first | with_reducible exact toExt co _ | with_reducible exact toExt ch _ | with_reducible exact toExt cg _ | with_reducible exact toExt cl _); clear hK K)))
    refine rWalk_nil ?_
    intro w7 hb
    clear ga gb gc gp gt go gg gl
    replace Ba := Ba.ext hb rfl
    replace Bb := Bb.ext hb rfl
    replace Bc := Bc.ext hb rfl
    replace Bp := Bp.ext hb rfl
    replace Bt := Bt.ext hb rfl
    replace Bo := Bo.ext hb rfl
    replace Bg := Bg.ext hb rfl
    replace Bl := Bl.ext hb rfl
    replace hw := hw.trans (hb.mono hw.size)
    as_aux_lemma =>
      obtain ⟨xa, ya, za, va⟩ := Ba.facts
      obtain ⟨xb, yb, zb, vb⟩ := Bb.facts
      obtain ⟨xc, yc, zc, vc⟩ := Bc.facts
      obtain ⟨xp, yp, zp, vp⟩ := Bp.facts
      obtain ⟨xt, yt, zt, vt⟩ := Bt.facts
      obtain ⟨xo, yo, zo, vo⟩ := Bo.facts
      obtain ⟨xg, yg, zg, vg⟩ := Bg.facts
      obtain ⟨xl, yl, zl, vl⟩ := Bl.facts
      go_wp2_with fail
      refine (c1 _).mono ?_
      rintro e w8 ⟨rfl, hb⟩
      clear xa ya za va xb yb zb vb xc yc zc vc xp yp zp vp xt yt zt vt xo yo zo vo xg yg zg vg xl yl zl vl
      replace Ba := Ba.ext hb rfl
      replace Bb := Bb.ext hb rfl
      replace Bc := Bc.ext hb rfl
      replace Bp := Bp.ext hb rfl
      replace Bt := Bt.ext hb rfl
      replace Bo := Bo.ext hb rfl
      replace Bg := Bg.ext hb rfl
      replace Bl := Bl.ext hb rfl
      replace hw := hw.trans (hb.mono hw.size)
      clear hb
      obtain ⟨xa, ya, za, va⟩ := Ba.facts
      obtain ⟨xb, yb, zb, vb⟩ := Bb.facts
      obtain ⟨xc, yc, zc, vc⟩ := Bc.facts
      obtain ⟨xp, yp, zp, vp⟩ := Bp.facts
      obtain ⟨xt, yt, zt, vt⟩ := Bt.facts
      obtain ⟨xo, yo, zo, vo⟩ := Bo.facts
      obtain ⟨xg, yg, zg, vg⟩ := Bg.facts
      obtain ⟨xl, yl, zl, vl⟩ := Bl.facts
      go_wp2_with fail
      refine (c2 _).mono ?_
      rintro e w9 ⟨rfl, hb⟩
      clear xa ya za va xb yb zb vb xc yc zc vc xp yp zp vp xt yt zt vt xo yo zo vo xg yg zg vg xl yl zl vl
      replace Ba := Ba.ext hb rfl
      replace Bb := Bb.ext hb rfl
      replace Bc := Bc.ext hb rfl
      replace Bp := Bp.ext hb rfl
      replace Bt := Bt.ext hb rfl
      replace Bo := Bo.ext hb rfl
      replace Bg := Bg.ext hb rfl
      replace Bl := Bl.ext hb rfl
      replace hw := hw.trans (hb.mono hw.size)
      clear hb
      obtain ⟨xa, ya, za, va⟩ := Ba.facts
      obtain ⟨xb, yb, zb, vb⟩ := Bb.facts
      obtain ⟨xc, yc, zc, vc⟩ := Bc.facts
      obtain ⟨xp, yp, zp, vp⟩ := Bp.facts
      obtain ⟨xt, yt, zt, vt⟩ := Bt.facts
      obtain ⟨xo, yo, zo, vo⟩ := Bo.facts
      obtain ⟨xg, yg, zg, vg⟩ := Bg.facts
      obtain ⟨xl, yl, zl, vl⟩ := Bl.facts
      go_wp2_with fail
      refine (awake4_any _).mono ?_
      rintro e w10 ⟨rfl, hb⟩
      clear xa ya za va xb yb zb vb xc yc zc vc xp yp zp vp xt yt zt vt xo yo zo vo xg yg zg vg xl yl zl vl
      replace Ba := Ba.ext hb rfl
      replace Bb := Bb.ext hb rfl
      replace Bc := Bc.ext hb rfl
      replace Bp := Bp.ext hb rfl
      replace Bt := Bt.ext hb rfl
      replace Bo := Bo.ext hb rfl
      replace Bg := Bg.ext hb rfl
      replace Bl := Bl.ext hb rfl
      replace hw := hw.trans (hb.mono hw.size)
      clear hb
      go_wp2
      go_ret
      exact ⟨rfl, hw⟩

theorem rpts_law (a b c p : Pt) (grow_ : Int) (w : World) :
    Calls Try.prog 4 #[.agg #[.int .i64 a.x, .int .i64 a.y], .agg #[.int .i64 b.x, .int .i64 b.y], .agg #[.int .i64 c.x, .int .i64 c.y], .agg #[.int .i64 p.x, .int .i64 p.y], .int .i64 grow_] w fun e w' => e = .returned (.bool true) ∧ Below w.heap.size w w' := by
  cases h0 : (!decide (ori a b c = 0)) with
  | false => exact rpts_0 a b c p grow_ h0 w
  | true => cases h1 : vld p with
    | false => exact rpts_1 a b c p grow_ h0 h1 w
    | true => cases h2 : hasP (mk a b c) p with
      | false => cases h3 : decide (mxA a.x b.x c.x + 1 < 16777216) with
        | false => exact rpts_00 a b c p grow_ h0 h1 h2 h3 w
        | true => exact rpts_01 a b c p grow_ h0 h1 h2 h3 w
      | true => cases h3 : decide (mxA a.x b.x c.x + 1 < 16777216) with
        | false => exact rpts_10 a b c p grow_ h0 h1 h2 h3 w
        | true => exact rpts_11 a b c p grow_ h0 h1 h2 h3 w
set_option maxRecDepth 100000 in
theorem reachPoints_lifted (os : Os) (started : os.Started) (H : Type) (enc : TypeId × Value → H) :
    ReturnsInHanded {} Try.checked os 4 .any (Rows.reachPointsSpec.pre6 enc Try.prog Try.f4 Rows.reachPointsRow.domain false) (Rows.reachPointsSpec.post enc Try.prog Try.f4 false true false false) := by
  refine returnsInHanded_of_change (C := Try.checked) Try.own started (by kernel_rfl) Try.func4
    (ChangeSpec.witness6 (enc := enc) (C := Try.checked) false ⟨#[], #[.agg #[.int .i64 0, .int .i64 0], .agg #[.int .i64 0, .int .i64 0], .agg #[.int .i64 0, .int .i64 0], .agg #[.int .i64 0, .int .i64 0], .int .i64 0], []⟩ 8 (by kernel_rfl) (by kernel_rfl) (by kernel_rfl) (by kernel_rfl)) ?_
  intro W base args ds gs before hval0 hW hcnd _
  have hval : ∀ (j : Nat) t v, Try.f4.params[j]? = some t → args[j]? = some v → Value.okWide Try.prog W .any base t v := hval0
  have hW' := hW
  obtain ⟨p, q, hA0, hV, rfl, hfz, hnd⟩ := hW
  have hA : DataW.TrodAll enc Try.prog W 0 (fun _ => true) true Try.f4.params.toList args.toList ds p := hA0
  rw [Try.params4] at hA hval
  obtain ⟨v0, v1, v2, v3, v4, d0, d1, d2, d3, d4, q0, q1, q2, q3, q4, rfl, rfl, rfl, p0, p1, p2, p3, p4⟩ := trodAll_five hA
  obtain ⟨rfl, rfl⟩ := trodVars_none hV
  obtain ⟨c0, e0, y0, z0, m0, rfl, rfl, rfl, hy0, hz0⟩ := Joins.open_agg2 Try.underlying23 (by kernel_rfl) (by kernel_rfl) (hval 0 23 v0 rfl rfl) p0
  obtain ⟨xa, f0, rfl, wxa⟩ := DataW.trod_int Try.underlying3 hy0
  obtain ⟨ya, g0, rfl, wya⟩ := DataW.trod_int Try.underlying3 hz0
  simp at f0 g0
  subst f0 g0
  obtain ⟨c1, e1, y1, z1, m1, rfl, rfl, rfl, hy1, hz1⟩ := Joins.open_agg2 Try.underlying23 (by kernel_rfl) (by kernel_rfl) (hval 1 23 v1 rfl rfl) p1
  obtain ⟨xb, f1, rfl, wxb⟩ := DataW.trod_int Try.underlying3 hy1
  obtain ⟨yb, g1, rfl, wyb⟩ := DataW.trod_int Try.underlying3 hz1
  simp at f1 g1
  subst f1 g1
  obtain ⟨c2, e2, y2, z2, m2, rfl, rfl, rfl, hy2, hz2⟩ := Joins.open_agg2 Try.underlying23 (by kernel_rfl) (by kernel_rfl) (hval 2 23 v2 rfl rfl) p2
  obtain ⟨xc, f2, rfl, wxc⟩ := DataW.trod_int Try.underlying3 hy2
  obtain ⟨yc, g2, rfl, wyc⟩ := DataW.trod_int Try.underlying3 hz2
  simp at f2 g2
  subst f2 g2
  obtain ⟨c3, e3, y3, z3, m3, rfl, rfl, rfl, hy3, hz3⟩ := Joins.open_agg2 Try.underlying23 (by kernel_rfl) (by kernel_rfl) (hval 3 23 v3 rfl rfl) p3
  obtain ⟨xp, f3, rfl, wxp⟩ := DataW.trod_int Try.underlying3 hy3
  obtain ⟨yp, g3, rfl, wyp⟩ := DataW.trod_int Try.underlying3 hz3
  simp at f3 g3
  subst f3 g3
  obtain ⟨grow_, rfl, rfl, rfl, wgrow_⟩ := open_int Try.underlying3 (hval 4 3 v4 rfl rfl) p4
  clear hA0 hval0
  simp only [List.append_nil] at hW'
  refine (rpts_law ⟨xa, ya⟩ ⟨xb, yb⟩ ⟨xc, yc⟩ ⟨xp, yp⟩ grow_ W).mono fun e W' ⟨he, hb⟩ => ?_
  subst he
  exact ⟨_, rfl, post_of_below (pa := []) (pv := []) hW' (fun _ _ _ => trodAll_mk1 (shut_bool Try.underlying4 true)) (fun sp _ => trodAll_mk5 (Joins.shut_agg2 (y0 := (.lit (.int .i64 xa), [])) (y1 := (.lit (.int .i64 ya), [])) Try.underlying23 (by kernel_rfl) (by kernel_rfl) ⟨1, by simp [DataW.trod, Try.underlying3, wxa]⟩ ⟨1, by simp [DataW.trod, Try.underlying3, wya]⟩) (Joins.shut_agg2 (y0 := (.lit (.int .i64 xb), [])) (y1 := (.lit (.int .i64 yb), [])) Try.underlying23 (by kernel_rfl) (by kernel_rfl) ⟨1, by simp [DataW.trod, Try.underlying3, wxb]⟩ ⟨1, by simp [DataW.trod, Try.underlying3, wyb]⟩) (Joins.shut_agg2 (y0 := (.lit (.int .i64 xc), [])) (y1 := (.lit (.int .i64 yc), [])) Try.underlying23 (by kernel_rfl) (by kernel_rfl) ⟨1, by simp [DataW.trod, Try.underlying3, wxc]⟩ ⟨1, by simp [DataW.trod, Try.underlying3, wyc]⟩) (Joins.shut_agg2 (y0 := (.lit (.int .i64 xp), [])) (y1 := (.lit (.int .i64 yp), [])) Try.underlying23 (by kernel_rfl) (by kernel_rfl) ⟨1, by simp [DataW.trod, Try.underlying3, wxp]⟩ ⟨1, by simp [DataW.trod, Try.underlying3, wyp]⟩) (shut_int Try.underlying3 wgrow_)) (fun _ _ => rfl) rfl hb (ok_one (by kernel_rfl) rfl (okWide_bool_mk Try.underlying4 true))⟩
/-- The law ReachPoints holds of every input. -/
theorem reachPoints_holds : Rows.ReachPointsSaid :=
  OpenClaim.holds_of_wide 4 Try.f4 rfl rfl rfl rfl rfl rfl rfl ⟨rfl, rfl, rfl, rfl, rfl⟩ rfl rfl rfl rfl rfl (by kernel_rfl) Try.func4 (by kernel_rfl)
    (of_decide_eq_true (by kernel_rfl)) (by unfold Func.isWrapper; rw [if_neg (of_decide_eq_false (by kernel_rfl))]; exact ⟨rfl, rfl⟩)
    (fun os started H enc _ => reachPoints_lifted os started H enc)
end Go.Proofs.Ytomdlhdpbdkdhaa
