/- One for all labels may be handed on for any one; one for a label for that alone; never for all: the law RightsLabels of package hectarelaw15 answers true at every input; no conditions. -/
import Derived.Test.YtipokakeaboelaaRows
import Derived.Test.YtipokakeaboelaaRtB
import Derived.Test.YtipokakeaboelaaRtD
import Derived.Test.YtipokakeaboelaaRtE
import Derived.Test.YtipokakeaboelaaPost
import Derived.WalkKit
import Derived.WalkSpells
import Derived.WalkLawsBesides
import Derived.Laws.Externs
import Derived.Deep.QuietTactic
import Derived.BigQuiet
import Derived.Lib.Hide
import Derived.Handy
import Derived.RegionTactic
import Derived.BigRegion
import Derived.Carry
import Derived.ProofKit
import Derived.Lib.SmallJoins
import Derived.Lib.Strings
namespace Go.Proofs.Ytipokakeaboelaa
open Go.RowKit Go.Sort Go.ChangeShapes Go.WideShapes Go.ChangeAt
attribute [local go_sem] rOper rAt rUpon cell_set sg_i64 sg_u64 alloc_cell alloc_frozen
attribute [local irreducible] rWalk

theorem Box.drew {w : World} {b : Nat} {cs : List Value} {T : TypeId} (h : Box w b cs T) : Box w.drew b cs T := h
theorem zR_self {x : Int} (h0 : 1 ≤ x) (h1 : x ≤ 15) : wR x x = true := by
  rcases (by omega : x = 1 ∨ x = 2 ∨ x = 3 ∨ x = 4 ∨ x = 5 ∨ x = 6 ∨ x = 7 ∨ x = 8 ∨ x = 9 ∨ x = 10 ∨ x = 11 ∨ x = 12 ∨ x = 13 ∨ x = 14 ∨ x = 15) with rfl | rfl | rfl | rfl | rfl | rfl | rfl | rfl | rfl | rfl | rfl | rfl | rfl | rfl | rfl <;> decide +kernel
theorem lab_0 (r label other until_ : Int) (h : decide (until_ < 1) = true) (w : World) :
    Calls Try.prog 6 #[.int .i64 r, .int .i64 label, .int .i64 other, .int .i64 until_] w fun e w' => e = .returned (.bool true) ∧ Below w.heap.size w w' := by
  go_enter Try.func6, Try.ntmps6
  go_wp2_with fail
  refine (awake_any _).mono ?_
  rintro e w' ⟨rfl, hb⟩
  go_wp2
  go_ret
  exact ⟨rfl, hb⟩
theorem lab_1 (r label other until_ : Int) (h : decide (until_ < 1) = false) (h2 : decide (until_ > 1099511627776) = true) (w : World) :
    Calls Try.prog 6 #[.int .i64 r, .int .i64 label, .int .i64 other, .int .i64 until_] w fun e w' => e = .returned (.bool true) ∧ Below w.heap.size w w' := by
  go_enter Try.func6, Try.ntmps6
  go_wp2_with fail
  refine (awake_any _).mono ?_
  rintro e w' ⟨rfl, hb⟩
  go_wp2
  go_ret
  exact ⟨rfl, hb⟩
set_option maxRecDepth 100000 in
set_option maxHeartbeats 2000000 in
theorem lab_2 (r label other until_ : Int) (h : decide (until_ < 1) = false) (h2 : decide (until_ > 1099511627776) = false) (w : World) :
    Calls Try.prog 6 #[.int .i64 r, .int .i64 label, .int .i64 other, .int .i64 until_] w fun e w' => e = .returned (.bool true) ∧ Below w.heap.size w w' := by
  have u0 : 1 ≤ until_ := by simpa using h
  have u1 : until_ ≤ 1099511627776 := by simpa using h2
  have r0 := round_gen (i := r) (n := 15) (by omega) (by omega)
  have r1 := round_gen (i := label) (n := 100) (by omega) (by omega)
  have r2 := round_gen (i := other) (n := 100) (by omega) (by omega)
  have a0 : 0 ≤ r % 15 := Int.emod_nonneg _ (by omega)
  have a1 : r % 15 < 15 := Int.emod_lt_of_pos _ (by omega)
  have b0 : 0 ≤ label % 100 := Int.emod_nonneg _ (by omega)
  have b1 : label % 100 < 100 := Int.emod_lt_of_pos _ (by omega)
  have c0 : 0 ≤ other % 100 := Int.emod_nonneg _ (by omega)
  have c1 : other % 100 < 100 := Int.emod_lt_of_pos _ (by omega)
  generalize r % 15 = X0 at *
  generalize label % 100 = A0 at *
  generalize other % 100 = B0 at *
  obtain ⟨X, hX⟩ : ∃ X, 1 + X0 = X := ⟨_, rfl⟩
  obtain ⟨A, hA⟩ : ∃ A, 1 + A0 = A := ⟨_, rfl⟩
  obtain ⟨B, hB⟩ : ∃ B, 1 + B0 = B := ⟨_, rfl⟩
  have eX : wrap64 (1 + X0) = X := by unfold wrap64; omega
  have eA : wrap64 (1 + A0) = A := by unfold wrap64; omega
  have eB : wrap64 (1 + B0) = B := by unfold wrap64; omega
  have eU : wrap64 (until_ + 1) = until_ + 1 := by unfold wrap64; omega
  have eX2 : IntKind.i64.wrap (1 + X0) = X := by rw [IntKind.wrap_i64]; omega
  have eA2 : IntKind.i64.wrap (1 + A0) = A := by rw [IntKind.wrap_i64]; omega
  have eB2 : IntKind.i64.wrap (1 + B0) = B := by rw [IntKind.wrap_i64]; omega
  have eU2 : IntKind.i64.wrap (until_ + 1) = until_ + 1 := by rw [IntKind.wrap_i64]; omega
  have hx : rng X := rng_small (by omega) (by omega)
  have hz : wR X X = true := zR_self (by omega) (by omega)
  have A1 : 1 ≤ A := by omega
  have B1 : 1 ≤ B := by omega
  have eA0 : (A == 0) = false := by simp; omega
  have eA3 : ((0 : Int) == A) = false := by simp; omega
  have n0 := nar_any ⟨3, 5, 0, 0, B, X, until_, 1, 2⟩ ⟨3, 1, 2, 0, A, X, until_, 0, 0⟩ hx hx
  rw [show nar ⟨3, 5, 0, 0, B, X, until_, 1, 2⟩ ⟨3, 1, 2, 0, A, X, until_, 0, 0⟩ = (A == B) by simp [nar, hz, eA0, Bool.beq_comm (a := B)]; done] at n0
  simp only at n0
  have n1 := nar_any ⟨3, 5, 0, 0, B, X, until_, 1, 2⟩ ⟨3, 1, 2, 0, 0, X, until_, 0, 0⟩ hx hx
  rw [show nar ⟨3, 5, 0, 0, B, X, until_, 1, 2⟩ ⟨3, 1, 2, 0, 0, X, until_, 0, 0⟩ = true by simp [nar, hz]] at n1
  simp only at n1
  have n2 := nar_any ⟨3, 5, 0, 0, 0, X, until_, 1, 2⟩ ⟨3, 1, 2, 0, 0, X, until_, 0, 0⟩ hx hx
  rw [show nar ⟨3, 5, 0, 0, 0, X, until_, 1, 2⟩ ⟨3, 1, 2, 0, 0, X, until_, 0, 0⟩ = true by simp [nar, hz]] at n2
  simp only at n2
  have n3 := nar_any ⟨3, 5, 0, 0, 0, X, until_, 1, 2⟩ ⟨3, 1, 2, 0, A, X, until_, 0, 0⟩ hx hx
  rw [show nar ⟨3, 5, 0, 0, 0, X, until_, 1, 2⟩ ⟨3, 1, 2, 0, A, X, until_, 0, 0⟩ = false by simp [nar, hz, eA0, eA3]] at n3
  simp only at n3
  have n4 := nar_any ⟨3, 5, 0, 0, A, X, until_ + 1, 1, 2⟩ ⟨3, 1, 2, 0, A, X, until_, 0, 0⟩ hx hx
  rw [show nar ⟨3, 5, 0, 0, A, X, until_ + 1, 1, 2⟩ ⟨3, 1, 2, 0, A, X, until_, 0, 0⟩ = false by simp [nar, hz]; omega] at n4
  simp only at n4
  have n5 := nar_any ⟨4, 5, 0, 0, A, X, until_, 1, 2⟩ ⟨3, 1, 2, 0, A, X, until_, 0, 0⟩ hx hx
  rw [show nar ⟨4, 5, 0, 0, A, X, until_, 1, 2⟩ ⟨3, 1, 2, 0, A, X, until_, 0, 0⟩ = false by simp [nar]] at n5
  simp only at n5
  clear hX hA hB a0 a1 b0 b1 c0 c1 A1 B1 eA0 eA3 hz hx u0 u1
  go_enter Try.func6, Try.ntmps6
  go_wp2_with fail
  refine (r0 _).mono ?_
  rintro e w1 ⟨rfl, hb⟩
  have hw := hb
  clear hb
  go_wp2_with fail
  refine (r1 _).mono ?_
  rintro e w2 ⟨rfl, hb⟩
  replace hw := hw.trans (hb.mono hw.size)
  clear hb
  go_wp2_with fail
  refine (r2 _).mono ?_
  rintro e w3 ⟨rfl, hb⟩
  replace hw := hw.trans (hb.mono hw.size)
  clear hb
  go_wp2_with fail
  refine at_world fun W4 hW => ?_
  obtain ⟨bkp, hbp⟩ : ∃ b, w3.heap.size = b := ⟨_, rfl⟩
  rw [hbp]
  have fp := hw.size
  rw [hbp] at fp
  have Bp : Box W4 (bkp) [.int .i64 3, .int .i64 1, .int .i64 2, .int .i64 0, .int .i64 A, .int .i64 X, .int .i64 until_, .int .i64 0, .int .i64 0] 23 := by rw [hW, ← hbp]; exact (Box.new rfl).old _
  have Bc : Box W4 (bkp + 1) [.int .i64 3, .int .i64 5, .int .i64 0, .int .i64 0, .int .i64 B, .int .i64 X, .int .i64 until_, .int .i64 1, .int .i64 2] 23 := by rw [hW, ← hbp]; exact Box.new (by simp)
  replace hw : Below w.heap.size w W4 := by have hl := hw.size; rw [hW]; go_grown
  clear hW hbp
  obtain ⟨xp, yp, zp, vp⟩ := Bp.facts
  obtain ⟨xc, yc, zc, vc⟩ := Bc.facts
  have sp := Bp.lt
  have ip : (bkp = W4.heap.size + 1) = False := by simp; omega
  have jp : (W4.heap.size + 1 = bkp) = False := by simp; omega
  clear sp
  have sc := Bc.lt
  have ic : (bkp + 1 = W4.heap.size + 1) = False := by simp; omega
  have jc : (W4.heap.size + 1 = bkp + 1) = False := by simp; omega
  clear sc
  go_region
  all_goals skip
  · go_wp2_with fail
    refine at_world fun W5 hW => ?_
    have lp := Bp.lt
    have lc := Bc.lt
    have hl := hw.size
    have Cp : Box W5 (bkp) [.int .i64 3, .int .i64 1, .int .i64 2, .int .i64 0, .int .i64 A, .int .i64 X, .int .i64 until_, .int .i64 0, .int .i64 0] 23 := by rw [hW]; exact (Box.drew ((Bp.old _).old _))
    have Cc : Box W5 (bkp + 1) [.int .i64 3, .int .i64 5, .int .i64 0, .int .i64 0, .int .i64 B, .int .i64 X, .int .i64 until_, .int .i64 1, .int .i64 2] 23 := by rw [hW]; exact (Box.drew ((Bc.old _).old _))
    have Bq : Box W5 (W4.heap.size) [.int .i64 3, .int .i64 1, .int .i64 2, .int .i64 0, .int .i64 0, .int .i64 X, .int .i64 until_, .int .i64 0, .int .i64 0] 23 := by rw [hW]; exact (Box.drew ((Box.new rfl).old _))
    have Bd : Box W5 (W4.heap.size + 1) [.int .i64 3, .int .i64 5, .int .i64 0, .int .i64 0, .int .i64 0, .int .i64 X, .int .i64 until_, .int .i64 1, .int .i64 2] 23 := by rw [hW]; exact (Box.drew (Box.new (by simp)))
    replace hw : Below w.heap.size w W5 := by rw [hW]; go_grown
    clear xp yp zp vp xc yc zc vc
    clear hW hl lp Bp lc Bc
    have Bp := Cp
    clear Cp
    have Bc := Cc
    clear Cc
    clear ip jp ic jc
    obtain ⟨xp, yp, zp, vp⟩ := Bp.facts
    obtain ⟨xc, yc, zc, vc⟩ := Bc.facts
    obtain ⟨xq, yq, zq, vq⟩ := Bq.facts
    obtain ⟨xd, yd, zd, vd⟩ := Bd.facts
    have sp := Bp.lt
    have ip : (bkp = W5.heap.size + 1) = False := by simp; omega
    have jp : (W5.heap.size + 1 = bkp) = False := by simp; omega
    clear sp
    have sc := Bc.lt
    have ic : (bkp + 1 = W5.heap.size + 1) = False := by simp; omega
    have jc : (W5.heap.size + 1 = bkp + 1) = False := by simp; omega
    clear sc
    go_region
    all_goals skip
    · go_wp2_with fail
      refine at_call fun W6 hW => ?_
      have lp := Bp.lt
      have lc := Bc.lt
      have lq := Bq.lt
      have ld := Bd.lt
      have hl := hw.size
      have Cp : Box W6 (bkp) [.int .i64 3, .int .i64 1, .int .i64 2, .int .i64 0, .int .i64 A, .int .i64 X, .int .i64 until_, .int .i64 0, .int .i64 0] 23 := by rw [hW]; exact (Box.drew ((Bp.old _).old _))
      have Cc : Box W6 (bkp + 1) [.int .i64 3, .int .i64 5, .int .i64 0, .int .i64 0, .int .i64 B, .int .i64 X, .int .i64 until_, .int .i64 1, .int .i64 2] 23 := by rw [hW]; exact (Box.drew ((Bc.old _).old _))
      have Cq : Box W6 (W4.heap.size) [.int .i64 3, .int .i64 1, .int .i64 2, .int .i64 0, .int .i64 0, .int .i64 X, .int .i64 until_, .int .i64 0, .int .i64 0] 23 := by rw [hW]; exact (Box.drew ((Bq.old _).old _))
      have Cd : Box W6 (W4.heap.size + 1) [.int .i64 3, .int .i64 5, .int .i64 0, .int .i64 0, .int .i64 0, .int .i64 X, .int .i64 until_, .int .i64 1, .int .i64 2] 23 := by rw [hW]; exact (Box.drew ((Bd.old _).old _))
      have Be : Box W6 (W5.heap.size) [.int .i64 3, .int .i64 5, .int .i64 0, .int .i64 0, .int .i64 A, .int .i64 X, .int .i64 (until_ + 1), .int .i64 1, .int .i64 2] 23 := by rw [hW]; exact (Box.drew ((Box.new rfl).old _))
      have Bv : Box W6 (W5.heap.size + 1) [.int .i64 4, .int .i64 5, .int .i64 0, .int .i64 0, .int .i64 A, .int .i64 X, .int .i64 until_, .int .i64 1, .int .i64 2] 23 := by rw [hW]; exact (Box.drew (Box.new (by simp)))
      replace hw : Below w.heap.size w W6 := by rw [hW]; go_grown
      clear xp yp zp vp xc yc zc vc xq yq zq vq xd yd zd vd
      clear hW hl lp Bp lc Bc lq Bq ld Bd
      have Bp := Cp
      clear Cp
      have Bc := Cc
      clear Cc
      have Bq := Cq
      clear Cq
      have Bd := Cd
      clear Cd
      clear ip jp ic jc
      obtain ⟨xp, yp, zp, vp⟩ := Bp.facts
      obtain ⟨xc, yc, zc, vc⟩ := Bc.facts
      obtain ⟨xq, yq, zq, vq⟩ := Bq.facts
      obtain ⟨xd, yd, zd, vd⟩ := Bd.facts
      obtain ⟨xe, ye, ze, ve⟩ := Be.facts
      obtain ⟨xv, yv, zv, vv⟩ := Bv.facts
      refine (n0 _).mono ?_
      rintro e w7 ⟨rfl, hb⟩
      clear xp yp zp vp xc yc zc vc xq yq zq vq xd yd zd vd xe ye ze ve xv yv zv vv
      replace Bp := Bp.ext hb rfl
      replace Bc := Bc.ext hb rfl
      replace Bq := Bq.ext hb rfl
      replace Bd := Bd.ext hb rfl
      replace Be := Be.ext hb rfl
      replace Bv := Bv.ext hb rfl
      replace hw := hw.trans (hb.mono hw.size)
      clear hb
      obtain ⟨xp, yp, zp, vp⟩ := Bp.facts
      obtain ⟨xc, yc, zc, vc⟩ := Bc.facts
      obtain ⟨xq, yq, zq, vq⟩ := Bq.facts
      obtain ⟨xd, yd, zd, vd⟩ := Bd.facts
      obtain ⟨xe, ye, ze, ve⟩ := Be.facts
      obtain ⟨xv, yv, zv, vv⟩ := Bv.facts
      go_wp2_with fail
      refine (n1 _).mono ?_
      rintro e w8 ⟨rfl, hb⟩
      clear xp yp zp vp xc yc zc vc xq yq zq vq xd yd zd vd xe ye ze ve xv yv zv vv
      replace Bp := Bp.ext hb rfl
      replace Bc := Bc.ext hb rfl
      replace Bq := Bq.ext hb rfl
      replace Bd := Bd.ext hb rfl
      replace Be := Be.ext hb rfl
      replace Bv := Bv.ext hb rfl
      replace hw := hw.trans (hb.mono hw.size)
      clear hb
      obtain ⟨xp, yp, zp, vp⟩ := Bp.facts
      obtain ⟨xc, yc, zc, vc⟩ := Bc.facts
      obtain ⟨xq, yq, zq, vq⟩ := Bq.facts
      obtain ⟨xd, yd, zd, vd⟩ := Bd.facts
      obtain ⟨xe, ye, ze, ve⟩ := Be.facts
      obtain ⟨xv, yv, zv, vv⟩ := Bv.facts
      go_wp2_with fail
      refine (n2 _).mono ?_
      rintro e w9 ⟨rfl, hb⟩
      clear xp yp zp vp xc yc zc vc xq yq zq vq xd yd zd vd xe ye ze ve xv yv zv vv
      replace Bp := Bp.ext hb rfl
      replace Bc := Bc.ext hb rfl
      replace Bq := Bq.ext hb rfl
      replace Bd := Bd.ext hb rfl
      replace Be := Be.ext hb rfl
      replace Bv := Bv.ext hb rfl
      replace hw := hw.trans (hb.mono hw.size)
      clear hb
      obtain ⟨xp, yp, zp, vp⟩ := Bp.facts
      obtain ⟨xc, yc, zc, vc⟩ := Bc.facts
      obtain ⟨xq, yq, zq, vq⟩ := Bq.facts
      obtain ⟨xd, yd, zd, vd⟩ := Bd.facts
      obtain ⟨xe, ye, ze, ve⟩ := Be.facts
      obtain ⟨xv, yv, zv, vv⟩ := Bv.facts
      go_wp2_with fail
      refine (n3 _).mono ?_
      rintro e w10 ⟨rfl, hb⟩
      clear xp yp zp vp xc yc zc vc xq yq zq vq xd yd zd vd xe ye ze ve xv yv zv vv
      replace Bp := Bp.ext hb rfl
      replace Bc := Bc.ext hb rfl
      replace Bq := Bq.ext hb rfl
      replace Bd := Bd.ext hb rfl
      replace Be := Be.ext hb rfl
      replace Bv := Bv.ext hb rfl
      replace hw := hw.trans (hb.mono hw.size)
      clear hb
      obtain ⟨xp, yp, zp, vp⟩ := Bp.facts
      obtain ⟨xc, yc, zc, vc⟩ := Bc.facts
      obtain ⟨xq, yq, zq, vq⟩ := Bq.facts
      obtain ⟨xd, yd, zd, vd⟩ := Bd.facts
      obtain ⟨xe, ye, ze, ve⟩ := Be.facts
      obtain ⟨xv, yv, zv, vv⟩ := Bv.facts
      go_wp2_with fail
      refine (n4 _).mono ?_
      rintro e w11 ⟨rfl, hb⟩
      clear xp yp zp vp xc yc zc vc xq yq zq vq xd yd zd vd xe ye ze ve xv yv zv vv
      replace Bp := Bp.ext hb rfl
      replace Bc := Bc.ext hb rfl
      replace Bq := Bq.ext hb rfl
      replace Bd := Bd.ext hb rfl
      replace Be := Be.ext hb rfl
      replace Bv := Bv.ext hb rfl
      replace hw := hw.trans (hb.mono hw.size)
      clear hb
      obtain ⟨xp, yp, zp, vp⟩ := Bp.facts
      obtain ⟨xc, yc, zc, vc⟩ := Bc.facts
      obtain ⟨xq, yq, zq, vq⟩ := Bq.facts
      obtain ⟨xd, yd, zd, vd⟩ := Bd.facts
      obtain ⟨xe, ye, ze, ve⟩ := Be.facts
      obtain ⟨xv, yv, zv, vv⟩ := Bv.facts
      go_wp2_with fail
      refine (n5 _).mono ?_
      rintro e w12 ⟨rfl, hb⟩
      clear xp yp zp vp xc yc zc vc xq yq zq vq xd yd zd vd xe ye ze ve xv yv zv vv
      replace Bp := Bp.ext hb rfl
      replace Bc := Bc.ext hb rfl
      replace Bq := Bq.ext hb rfl
      replace Bd := Bd.ext hb rfl
      replace Be := Be.ext hb rfl
      replace Bv := Bv.ext hb rfl
      replace hw := hw.trans (hb.mono hw.size)
      clear hb
      obtain ⟨xp, yp, zp, vp⟩ := Bp.facts
      obtain ⟨xc, yc, zc, vc⟩ := Bc.facts
      obtain ⟨xq, yq, zq, vq⟩ := Bq.facts
      obtain ⟨xd, yd, zd, vd⟩ := Bd.facts
      obtain ⟨xe, ye, ze, ve⟩ := Be.facts
      obtain ⟨xv, yv, zv, vv⟩ := Bv.facts
      go_wp2_with fail
      refine (awake_any _).mono ?_
      rintro e w13 ⟨rfl, hb⟩
      clear xp yp zp vp xc yc zc vc xq yq zq vq xd yd zd vd xe ye ze ve xv yv zv vv
      replace Bp := Bp.ext hb rfl
      replace Bc := Bc.ext hb rfl
      replace Bq := Bq.ext hb rfl
      replace Bd := Bd.ext hb rfl
      replace Be := Be.ext hb rfl
      replace Bv := Bv.ext hb rfl
      replace hw := hw.trans (hb.mono hw.size)
      clear hb
      obtain ⟨xp, yp, zp, vp⟩ := Bp.facts
      obtain ⟨xc, yc, zc, vc⟩ := Bc.facts
      obtain ⟨xq, yq, zq, vq⟩ := Bq.facts
      obtain ⟨xd, yd, zd, vd⟩ := Bd.facts
      obtain ⟨xe, ye, ze, ve⟩ := Be.facts
      obtain ⟨xv, yv, zv, vv⟩ := Bv.facts
      go_wp2
      go_ret
      exact ⟨rfl, hw⟩
    · go_wp2_with fail
      refine at_call fun W6 hW => ?_
      have lp := Bp.lt
      have lc := Bc.lt
      have lq := Bq.lt
      have ld := Bd.lt
      have hl := hw.size
      have Cp : Box W6 (bkp) [.int .i64 3, .int .i64 1, .int .i64 2, .int .i64 0, .int .i64 A, .int .i64 X, .int .i64 until_, .int .i64 0, .int .i64 0] 23 := by rw [hW]; exact (Box.drew ((Bp.old _).old _))
      have Cc : Box W6 (bkp + 1) [.int .i64 3, .int .i64 5, .int .i64 0, .int .i64 0, .int .i64 B, .int .i64 X, .int .i64 until_, .int .i64 1, .int .i64 2] 23 := by rw [hW]; exact (Box.drew ((Bc.old _).old _))
      have Cq : Box W6 (W4.heap.size) [.int .i64 3, .int .i64 1, .int .i64 2, .int .i64 0, .int .i64 0, .int .i64 X, .int .i64 until_, .int .i64 0, .int .i64 0] 23 := by rw [hW]; exact (Box.drew ((Bq.old _).old _))
      have Cd : Box W6 (W4.heap.size + 1) [.int .i64 3, .int .i64 5, .int .i64 0, .int .i64 0, .int .i64 0, .int .i64 X, .int .i64 until_, .int .i64 1, .int .i64 2] 23 := by rw [hW]; exact (Box.drew ((Bd.old _).old _))
      have Bv : Box W6 (W5.heap.size) [.int .i64 4, .int .i64 5, .int .i64 0, .int .i64 0, .int .i64 A, .int .i64 X, .int .i64 until_, .int .i64 1, .int .i64 2] 23 := by rw [hW]; exact (Box.drew ((Box.new rfl).old _))
      have Be : Box W6 (W5.heap.size + 1) [.int .i64 3, .int .i64 5, .int .i64 0, .int .i64 0, .int .i64 A, .int .i64 X, .int .i64 (until_ + 1), .int .i64 1, .int .i64 2] 23 := by rw [hW]; exact (Box.drew (Box.new (by simp)))
      replace hw : Below w.heap.size w W6 := by rw [hW]; go_grown
      clear xp yp zp vp xc yc zc vc xq yq zq vq xd yd zd vd
      clear hW hl lp Bp lc Bc lq Bq ld Bd
      have Bp := Cp
      clear Cp
      have Bc := Cc
      clear Cc
      have Bq := Cq
      clear Cq
      have Bd := Cd
      clear Cd
      clear ip jp ic jc
      obtain ⟨xp, yp, zp, vp⟩ := Bp.facts
      obtain ⟨xc, yc, zc, vc⟩ := Bc.facts
      obtain ⟨xq, yq, zq, vq⟩ := Bq.facts
      obtain ⟨xd, yd, zd, vd⟩ := Bd.facts
      obtain ⟨xv, yv, zv, vv⟩ := Bv.facts
      obtain ⟨xe, ye, ze, ve⟩ := Be.facts
      refine (n0 _).mono ?_
      rintro e w7 ⟨rfl, hb⟩
      clear xp yp zp vp xc yc zc vc xq yq zq vq xd yd zd vd xv yv zv vv xe ye ze ve
      replace Bp := Bp.ext hb rfl
      replace Bc := Bc.ext hb rfl
      replace Bq := Bq.ext hb rfl
      replace Bd := Bd.ext hb rfl
      replace Bv := Bv.ext hb rfl
      replace Be := Be.ext hb rfl
      replace hw := hw.trans (hb.mono hw.size)
      clear hb
      obtain ⟨xp, yp, zp, vp⟩ := Bp.facts
      obtain ⟨xc, yc, zc, vc⟩ := Bc.facts
      obtain ⟨xq, yq, zq, vq⟩ := Bq.facts
      obtain ⟨xd, yd, zd, vd⟩ := Bd.facts
      obtain ⟨xv, yv, zv, vv⟩ := Bv.facts
      obtain ⟨xe, ye, ze, ve⟩ := Be.facts
      go_wp2_with fail
      refine (n1 _).mono ?_
      rintro e w8 ⟨rfl, hb⟩
      clear xp yp zp vp xc yc zc vc xq yq zq vq xd yd zd vd xv yv zv vv xe ye ze ve
      replace Bp := Bp.ext hb rfl
      replace Bc := Bc.ext hb rfl
      replace Bq := Bq.ext hb rfl
      replace Bd := Bd.ext hb rfl
      replace Bv := Bv.ext hb rfl
      replace Be := Be.ext hb rfl
      replace hw := hw.trans (hb.mono hw.size)
      clear hb
      obtain ⟨xp, yp, zp, vp⟩ := Bp.facts
      obtain ⟨xc, yc, zc, vc⟩ := Bc.facts
      obtain ⟨xq, yq, zq, vq⟩ := Bq.facts
      obtain ⟨xd, yd, zd, vd⟩ := Bd.facts
      obtain ⟨xv, yv, zv, vv⟩ := Bv.facts
      obtain ⟨xe, ye, ze, ve⟩ := Be.facts
      go_wp2_with fail
      refine (n2 _).mono ?_
      rintro e w9 ⟨rfl, hb⟩
      clear xp yp zp vp xc yc zc vc xq yq zq vq xd yd zd vd xv yv zv vv xe ye ze ve
      replace Bp := Bp.ext hb rfl
      replace Bc := Bc.ext hb rfl
      replace Bq := Bq.ext hb rfl
      replace Bd := Bd.ext hb rfl
      replace Bv := Bv.ext hb rfl
      replace Be := Be.ext hb rfl
      replace hw := hw.trans (hb.mono hw.size)
      clear hb
      obtain ⟨xp, yp, zp, vp⟩ := Bp.facts
      obtain ⟨xc, yc, zc, vc⟩ := Bc.facts
      obtain ⟨xq, yq, zq, vq⟩ := Bq.facts
      obtain ⟨xd, yd, zd, vd⟩ := Bd.facts
      obtain ⟨xv, yv, zv, vv⟩ := Bv.facts
      obtain ⟨xe, ye, ze, ve⟩ := Be.facts
      go_wp2_with fail
      refine (n3 _).mono ?_
      rintro e w10 ⟨rfl, hb⟩
      clear xp yp zp vp xc yc zc vc xq yq zq vq xd yd zd vd xv yv zv vv xe ye ze ve
      replace Bp := Bp.ext hb rfl
      replace Bc := Bc.ext hb rfl
      replace Bq := Bq.ext hb rfl
      replace Bd := Bd.ext hb rfl
      replace Bv := Bv.ext hb rfl
      replace Be := Be.ext hb rfl
      replace hw := hw.trans (hb.mono hw.size)
      clear hb
      obtain ⟨xp, yp, zp, vp⟩ := Bp.facts
      obtain ⟨xc, yc, zc, vc⟩ := Bc.facts
      obtain ⟨xq, yq, zq, vq⟩ := Bq.facts
      obtain ⟨xd, yd, zd, vd⟩ := Bd.facts
      obtain ⟨xv, yv, zv, vv⟩ := Bv.facts
      obtain ⟨xe, ye, ze, ve⟩ := Be.facts
      go_wp2_with fail
      refine (n4 _).mono ?_
      rintro e w11 ⟨rfl, hb⟩
      clear xp yp zp vp xc yc zc vc xq yq zq vq xd yd zd vd xv yv zv vv xe ye ze ve
      replace Bp := Bp.ext hb rfl
      replace Bc := Bc.ext hb rfl
      replace Bq := Bq.ext hb rfl
      replace Bd := Bd.ext hb rfl
      replace Bv := Bv.ext hb rfl
      replace Be := Be.ext hb rfl
      replace hw := hw.trans (hb.mono hw.size)
      clear hb
      obtain ⟨xp, yp, zp, vp⟩ := Bp.facts
      obtain ⟨xc, yc, zc, vc⟩ := Bc.facts
      obtain ⟨xq, yq, zq, vq⟩ := Bq.facts
      obtain ⟨xd, yd, zd, vd⟩ := Bd.facts
      obtain ⟨xv, yv, zv, vv⟩ := Bv.facts
      obtain ⟨xe, ye, ze, ve⟩ := Be.facts
      go_wp2_with fail
      refine (n5 _).mono ?_
      rintro e w12 ⟨rfl, hb⟩
      clear xp yp zp vp xc yc zc vc xq yq zq vq xd yd zd vd xv yv zv vv xe ye ze ve
      replace Bp := Bp.ext hb rfl
      replace Bc := Bc.ext hb rfl
      replace Bq := Bq.ext hb rfl
      replace Bd := Bd.ext hb rfl
      replace Bv := Bv.ext hb rfl
      replace Be := Be.ext hb rfl
      replace hw := hw.trans (hb.mono hw.size)
      clear hb
      obtain ⟨xp, yp, zp, vp⟩ := Bp.facts
      obtain ⟨xc, yc, zc, vc⟩ := Bc.facts
      obtain ⟨xq, yq, zq, vq⟩ := Bq.facts
      obtain ⟨xd, yd, zd, vd⟩ := Bd.facts
      obtain ⟨xv, yv, zv, vv⟩ := Bv.facts
      obtain ⟨xe, ye, ze, ve⟩ := Be.facts
      go_wp2_with fail
      refine (awake_any _).mono ?_
      rintro e w13 ⟨rfl, hb⟩
      clear xp yp zp vp xc yc zc vc xq yq zq vq xd yd zd vd xv yv zv vv xe ye ze ve
      replace Bp := Bp.ext hb rfl
      replace Bc := Bc.ext hb rfl
      replace Bq := Bq.ext hb rfl
      replace Bd := Bd.ext hb rfl
      replace Bv := Bv.ext hb rfl
      replace Be := Be.ext hb rfl
      replace hw := hw.trans (hb.mono hw.size)
      clear hb
      obtain ⟨xp, yp, zp, vp⟩ := Bp.facts
      obtain ⟨xc, yc, zc, vc⟩ := Bc.facts
      obtain ⟨xq, yq, zq, vq⟩ := Bq.facts
      obtain ⟨xd, yd, zd, vd⟩ := Bd.facts
      obtain ⟨xv, yv, zv, vv⟩ := Bv.facts
      obtain ⟨xe, ye, ze, ve⟩ := Be.facts
      go_wp2
      go_ret
      exact ⟨rfl, hw⟩
  · go_wp2_with fail
    refine at_world fun W5 hW => ?_
    have lp := Bp.lt
    have lc := Bc.lt
    have hl := hw.size
    have Cp : Box W5 (bkp) [.int .i64 3, .int .i64 1, .int .i64 2, .int .i64 0, .int .i64 A, .int .i64 X, .int .i64 until_, .int .i64 0, .int .i64 0] 23 := by rw [hW]; exact (Box.drew ((Bp.old _).old _))
    have Cc : Box W5 (bkp + 1) [.int .i64 3, .int .i64 5, .int .i64 0, .int .i64 0, .int .i64 B, .int .i64 X, .int .i64 until_, .int .i64 1, .int .i64 2] 23 := by rw [hW]; exact (Box.drew ((Bc.old _).old _))
    have Bd : Box W5 (W4.heap.size) [.int .i64 3, .int .i64 5, .int .i64 0, .int .i64 0, .int .i64 0, .int .i64 X, .int .i64 until_, .int .i64 1, .int .i64 2] 23 := by rw [hW]; exact (Box.drew ((Box.new rfl).old _))
    have Bq : Box W5 (W4.heap.size + 1) [.int .i64 3, .int .i64 1, .int .i64 2, .int .i64 0, .int .i64 0, .int .i64 X, .int .i64 until_, .int .i64 0, .int .i64 0] 23 := by rw [hW]; exact (Box.drew (Box.new (by simp)))
    replace hw : Below w.heap.size w W5 := by rw [hW]; go_grown
    clear xp yp zp vp xc yc zc vc
    clear hW hl lp Bp lc Bc
    have Bp := Cp
    clear Cp
    have Bc := Cc
    clear Cc
    clear ip jp ic jc
    obtain ⟨xp, yp, zp, vp⟩ := Bp.facts
    obtain ⟨xc, yc, zc, vc⟩ := Bc.facts
    obtain ⟨xd, yd, zd, vd⟩ := Bd.facts
    obtain ⟨xq, yq, zq, vq⟩ := Bq.facts
    have sp := Bp.lt
    have ip : (bkp = W5.heap.size + 1) = False := by simp; omega
    have jp : (W5.heap.size + 1 = bkp) = False := by simp; omega
    clear sp
    have sc := Bc.lt
    have ic : (bkp + 1 = W5.heap.size + 1) = False := by simp; omega
    have jc : (W5.heap.size + 1 = bkp + 1) = False := by simp; omega
    clear sc
    go_region
    all_goals skip
    · go_wp2_with fail
      refine at_call fun W6 hW => ?_
      have lp := Bp.lt
      have lc := Bc.lt
      have ld := Bd.lt
      have lq := Bq.lt
      have hl := hw.size
      have Cp : Box W6 (bkp) [.int .i64 3, .int .i64 1, .int .i64 2, .int .i64 0, .int .i64 A, .int .i64 X, .int .i64 until_, .int .i64 0, .int .i64 0] 23 := by rw [hW]; exact (Box.drew ((Bp.old _).old _))
      have Cc : Box W6 (bkp + 1) [.int .i64 3, .int .i64 5, .int .i64 0, .int .i64 0, .int .i64 B, .int .i64 X, .int .i64 until_, .int .i64 1, .int .i64 2] 23 := by rw [hW]; exact (Box.drew ((Bc.old _).old _))
      have Cd : Box W6 (W4.heap.size) [.int .i64 3, .int .i64 5, .int .i64 0, .int .i64 0, .int .i64 0, .int .i64 X, .int .i64 until_, .int .i64 1, .int .i64 2] 23 := by rw [hW]; exact (Box.drew ((Bd.old _).old _))
      have Cq : Box W6 (W4.heap.size + 1) [.int .i64 3, .int .i64 1, .int .i64 2, .int .i64 0, .int .i64 0, .int .i64 X, .int .i64 until_, .int .i64 0, .int .i64 0] 23 := by rw [hW]; exact (Box.drew ((Bq.old _).old _))
      have Be : Box W6 (W5.heap.size) [.int .i64 3, .int .i64 5, .int .i64 0, .int .i64 0, .int .i64 A, .int .i64 X, .int .i64 (until_ + 1), .int .i64 1, .int .i64 2] 23 := by rw [hW]; exact (Box.drew ((Box.new rfl).old _))
      have Bv : Box W6 (W5.heap.size + 1) [.int .i64 4, .int .i64 5, .int .i64 0, .int .i64 0, .int .i64 A, .int .i64 X, .int .i64 until_, .int .i64 1, .int .i64 2] 23 := by rw [hW]; exact (Box.drew (Box.new (by simp)))
      replace hw : Below w.heap.size w W6 := by rw [hW]; go_grown
      clear xp yp zp vp xc yc zc vc xd yd zd vd xq yq zq vq
      clear hW hl lp Bp lc Bc ld Bd lq Bq
      have Bp := Cp
      clear Cp
      have Bc := Cc
      clear Cc
      have Bd := Cd
      clear Cd
      have Bq := Cq
      clear Cq
      clear ip jp ic jc
      obtain ⟨xp, yp, zp, vp⟩ := Bp.facts
      obtain ⟨xc, yc, zc, vc⟩ := Bc.facts
      obtain ⟨xd, yd, zd, vd⟩ := Bd.facts
      obtain ⟨xq, yq, zq, vq⟩ := Bq.facts
      obtain ⟨xe, ye, ze, ve⟩ := Be.facts
      obtain ⟨xv, yv, zv, vv⟩ := Bv.facts
      refine (n0 _).mono ?_
      rintro e w7 ⟨rfl, hb⟩
      clear xp yp zp vp xc yc zc vc xd yd zd vd xq yq zq vq xe ye ze ve xv yv zv vv
      replace Bp := Bp.ext hb rfl
      replace Bc := Bc.ext hb rfl
      replace Bd := Bd.ext hb rfl
      replace Bq := Bq.ext hb rfl
      replace Be := Be.ext hb rfl
      replace Bv := Bv.ext hb rfl
      replace hw := hw.trans (hb.mono hw.size)
      clear hb
      obtain ⟨xp, yp, zp, vp⟩ := Bp.facts
      obtain ⟨xc, yc, zc, vc⟩ := Bc.facts
      obtain ⟨xd, yd, zd, vd⟩ := Bd.facts
      obtain ⟨xq, yq, zq, vq⟩ := Bq.facts
      obtain ⟨xe, ye, ze, ve⟩ := Be.facts
      obtain ⟨xv, yv, zv, vv⟩ := Bv.facts
      go_wp2_with fail
      refine (n1 _).mono ?_
      rintro e w8 ⟨rfl, hb⟩
      clear xp yp zp vp xc yc zc vc xd yd zd vd xq yq zq vq xe ye ze ve xv yv zv vv
      replace Bp := Bp.ext hb rfl
      replace Bc := Bc.ext hb rfl
      replace Bd := Bd.ext hb rfl
      replace Bq := Bq.ext hb rfl
      replace Be := Be.ext hb rfl
      replace Bv := Bv.ext hb rfl
      replace hw := hw.trans (hb.mono hw.size)
      clear hb
      obtain ⟨xp, yp, zp, vp⟩ := Bp.facts
      obtain ⟨xc, yc, zc, vc⟩ := Bc.facts
      obtain ⟨xd, yd, zd, vd⟩ := Bd.facts
      obtain ⟨xq, yq, zq, vq⟩ := Bq.facts
      obtain ⟨xe, ye, ze, ve⟩ := Be.facts
      obtain ⟨xv, yv, zv, vv⟩ := Bv.facts
      go_wp2_with fail
      refine (n2 _).mono ?_
      rintro e w9 ⟨rfl, hb⟩
      clear xp yp zp vp xc yc zc vc xd yd zd vd xq yq zq vq xe ye ze ve xv yv zv vv
      replace Bp := Bp.ext hb rfl
      replace Bc := Bc.ext hb rfl
      replace Bd := Bd.ext hb rfl
      replace Bq := Bq.ext hb rfl
      replace Be := Be.ext hb rfl
      replace Bv := Bv.ext hb rfl
      replace hw := hw.trans (hb.mono hw.size)
      clear hb
      obtain ⟨xp, yp, zp, vp⟩ := Bp.facts
      obtain ⟨xc, yc, zc, vc⟩ := Bc.facts
      obtain ⟨xd, yd, zd, vd⟩ := Bd.facts
      obtain ⟨xq, yq, zq, vq⟩ := Bq.facts
      obtain ⟨xe, ye, ze, ve⟩ := Be.facts
      obtain ⟨xv, yv, zv, vv⟩ := Bv.facts
      go_wp2_with fail
      refine (n3 _).mono ?_
      rintro e w10 ⟨rfl, hb⟩
      clear xp yp zp vp xc yc zc vc xd yd zd vd xq yq zq vq xe ye ze ve xv yv zv vv
      replace Bp := Bp.ext hb rfl
      replace Bc := Bc.ext hb rfl
      replace Bd := Bd.ext hb rfl
      replace Bq := Bq.ext hb rfl
      replace Be := Be.ext hb rfl
      replace Bv := Bv.ext hb rfl
      replace hw := hw.trans (hb.mono hw.size)
      clear hb
      obtain ⟨xp, yp, zp, vp⟩ := Bp.facts
      obtain ⟨xc, yc, zc, vc⟩ := Bc.facts
      obtain ⟨xd, yd, zd, vd⟩ := Bd.facts
      obtain ⟨xq, yq, zq, vq⟩ := Bq.facts
      obtain ⟨xe, ye, ze, ve⟩ := Be.facts
      obtain ⟨xv, yv, zv, vv⟩ := Bv.facts
      go_wp2_with fail
      refine (n4 _).mono ?_
      rintro e w11 ⟨rfl, hb⟩
      clear xp yp zp vp xc yc zc vc xd yd zd vd xq yq zq vq xe ye ze ve xv yv zv vv
      replace Bp := Bp.ext hb rfl
      replace Bc := Bc.ext hb rfl
      replace Bd := Bd.ext hb rfl
      replace Bq := Bq.ext hb rfl
      replace Be := Be.ext hb rfl
      replace Bv := Bv.ext hb rfl
      replace hw := hw.trans (hb.mono hw.size)
      clear hb
      obtain ⟨xp, yp, zp, vp⟩ := Bp.facts
      obtain ⟨xc, yc, zc, vc⟩ := Bc.facts
      obtain ⟨xd, yd, zd, vd⟩ := Bd.facts
      obtain ⟨xq, yq, zq, vq⟩ := Bq.facts
      obtain ⟨xe, ye, ze, ve⟩ := Be.facts
      obtain ⟨xv, yv, zv, vv⟩ := Bv.facts
      go_wp2_with fail
      refine (n5 _).mono ?_
      rintro e w12 ⟨rfl, hb⟩
      clear xp yp zp vp xc yc zc vc xd yd zd vd xq yq zq vq xe ye ze ve xv yv zv vv
      replace Bp := Bp.ext hb rfl
      replace Bc := Bc.ext hb rfl
      replace Bd := Bd.ext hb rfl
      replace Bq := Bq.ext hb rfl
      replace Be := Be.ext hb rfl
      replace Bv := Bv.ext hb rfl
      replace hw := hw.trans (hb.mono hw.size)
      clear hb
      obtain ⟨xp, yp, zp, vp⟩ := Bp.facts
      obtain ⟨xc, yc, zc, vc⟩ := Bc.facts
      obtain ⟨xd, yd, zd, vd⟩ := Bd.facts
      obtain ⟨xq, yq, zq, vq⟩ := Bq.facts
      obtain ⟨xe, ye, ze, ve⟩ := Be.facts
      obtain ⟨xv, yv, zv, vv⟩ := Bv.facts
      go_wp2_with fail
      refine (awake_any _).mono ?_
      rintro e w13 ⟨rfl, hb⟩
      clear xp yp zp vp xc yc zc vc xd yd zd vd xq yq zq vq xe ye ze ve xv yv zv vv
      replace Bp := Bp.ext hb rfl
      replace Bc := Bc.ext hb rfl
      replace Bd := Bd.ext hb rfl
      replace Bq := Bq.ext hb rfl
      replace Be := Be.ext hb rfl
      replace Bv := Bv.ext hb rfl
      replace hw := hw.trans (hb.mono hw.size)
      clear hb
      obtain ⟨xp, yp, zp, vp⟩ := Bp.facts
      obtain ⟨xc, yc, zc, vc⟩ := Bc.facts
      obtain ⟨xd, yd, zd, vd⟩ := Bd.facts
      obtain ⟨xq, yq, zq, vq⟩ := Bq.facts
      obtain ⟨xe, ye, ze, ve⟩ := Be.facts
      obtain ⟨xv, yv, zv, vv⟩ := Bv.facts
      go_wp2
      go_ret
      exact ⟨rfl, hw⟩
    · go_wp2_with fail
      refine at_call fun W6 hW => ?_
      have lp := Bp.lt
      have lc := Bc.lt
      have ld := Bd.lt
      have lq := Bq.lt
      have hl := hw.size
      have Cp : Box W6 (bkp) [.int .i64 3, .int .i64 1, .int .i64 2, .int .i64 0, .int .i64 A, .int .i64 X, .int .i64 until_, .int .i64 0, .int .i64 0] 23 := by rw [hW]; exact (Box.drew ((Bp.old _).old _))
      have Cc : Box W6 (bkp + 1) [.int .i64 3, .int .i64 5, .int .i64 0, .int .i64 0, .int .i64 B, .int .i64 X, .int .i64 until_, .int .i64 1, .int .i64 2] 23 := by rw [hW]; exact (Box.drew ((Bc.old _).old _))
      have Cd : Box W6 (W4.heap.size) [.int .i64 3, .int .i64 5, .int .i64 0, .int .i64 0, .int .i64 0, .int .i64 X, .int .i64 until_, .int .i64 1, .int .i64 2] 23 := by rw [hW]; exact (Box.drew ((Bd.old _).old _))
      have Cq : Box W6 (W4.heap.size + 1) [.int .i64 3, .int .i64 1, .int .i64 2, .int .i64 0, .int .i64 0, .int .i64 X, .int .i64 until_, .int .i64 0, .int .i64 0] 23 := by rw [hW]; exact (Box.drew ((Bq.old _).old _))
      have Bv : Box W6 (W5.heap.size) [.int .i64 4, .int .i64 5, .int .i64 0, .int .i64 0, .int .i64 A, .int .i64 X, .int .i64 until_, .int .i64 1, .int .i64 2] 23 := by rw [hW]; exact (Box.drew ((Box.new rfl).old _))
      have Be : Box W6 (W5.heap.size + 1) [.int .i64 3, .int .i64 5, .int .i64 0, .int .i64 0, .int .i64 A, .int .i64 X, .int .i64 (until_ + 1), .int .i64 1, .int .i64 2] 23 := by rw [hW]; exact (Box.drew (Box.new (by simp)))
      replace hw : Below w.heap.size w W6 := by rw [hW]; go_grown
      clear xp yp zp vp xc yc zc vc xd yd zd vd xq yq zq vq
      clear hW hl lp Bp lc Bc ld Bd lq Bq
      have Bp := Cp
      clear Cp
      have Bc := Cc
      clear Cc
      have Bd := Cd
      clear Cd
      have Bq := Cq
      clear Cq
      clear ip jp ic jc
      obtain ⟨xp, yp, zp, vp⟩ := Bp.facts
      obtain ⟨xc, yc, zc, vc⟩ := Bc.facts
      obtain ⟨xd, yd, zd, vd⟩ := Bd.facts
      obtain ⟨xq, yq, zq, vq⟩ := Bq.facts
      obtain ⟨xv, yv, zv, vv⟩ := Bv.facts
      obtain ⟨xe, ye, ze, ve⟩ := Be.facts
      refine (n0 _).mono ?_
      rintro e w7 ⟨rfl, hb⟩
      clear xp yp zp vp xc yc zc vc xd yd zd vd xq yq zq vq xv yv zv vv xe ye ze ve
      replace Bp := Bp.ext hb rfl
      replace Bc := Bc.ext hb rfl
      replace Bd := Bd.ext hb rfl
      replace Bq := Bq.ext hb rfl
      replace Bv := Bv.ext hb rfl
      replace Be := Be.ext hb rfl
      replace hw := hw.trans (hb.mono hw.size)
      clear hb
      obtain ⟨xp, yp, zp, vp⟩ := Bp.facts
      obtain ⟨xc, yc, zc, vc⟩ := Bc.facts
      obtain ⟨xd, yd, zd, vd⟩ := Bd.facts
      obtain ⟨xq, yq, zq, vq⟩ := Bq.facts
      obtain ⟨xv, yv, zv, vv⟩ := Bv.facts
      obtain ⟨xe, ye, ze, ve⟩ := Be.facts
      go_wp2_with fail
      refine (n1 _).mono ?_
      rintro e w8 ⟨rfl, hb⟩
      clear xp yp zp vp xc yc zc vc xd yd zd vd xq yq zq vq xv yv zv vv xe ye ze ve
      replace Bp := Bp.ext hb rfl
      replace Bc := Bc.ext hb rfl
      replace Bd := Bd.ext hb rfl
      replace Bq := Bq.ext hb rfl
      replace Bv := Bv.ext hb rfl
      replace Be := Be.ext hb rfl
      replace hw := hw.trans (hb.mono hw.size)
      clear hb
      obtain ⟨xp, yp, zp, vp⟩ := Bp.facts
      obtain ⟨xc, yc, zc, vc⟩ := Bc.facts
      obtain ⟨xd, yd, zd, vd⟩ := Bd.facts
      obtain ⟨xq, yq, zq, vq⟩ := Bq.facts
      obtain ⟨xv, yv, zv, vv⟩ := Bv.facts
      obtain ⟨xe, ye, ze, ve⟩ := Be.facts
      go_wp2_with fail
      refine (n2 _).mono ?_
      rintro e w9 ⟨rfl, hb⟩
      clear xp yp zp vp xc yc zc vc xd yd zd vd xq yq zq vq xv yv zv vv xe ye ze ve
      replace Bp := Bp.ext hb rfl
      replace Bc := Bc.ext hb rfl
      replace Bd := Bd.ext hb rfl
      replace Bq := Bq.ext hb rfl
      replace Bv := Bv.ext hb rfl
      replace Be := Be.ext hb rfl
      replace hw := hw.trans (hb.mono hw.size)
      clear hb
      obtain ⟨xp, yp, zp, vp⟩ := Bp.facts
      obtain ⟨xc, yc, zc, vc⟩ := Bc.facts
      obtain ⟨xd, yd, zd, vd⟩ := Bd.facts
      obtain ⟨xq, yq, zq, vq⟩ := Bq.facts
      obtain ⟨xv, yv, zv, vv⟩ := Bv.facts
      obtain ⟨xe, ye, ze, ve⟩ := Be.facts
      go_wp2_with fail
      refine (n3 _).mono ?_
      rintro e w10 ⟨rfl, hb⟩
      clear xp yp zp vp xc yc zc vc xd yd zd vd xq yq zq vq xv yv zv vv xe ye ze ve
      replace Bp := Bp.ext hb rfl
      replace Bc := Bc.ext hb rfl
      replace Bd := Bd.ext hb rfl
      replace Bq := Bq.ext hb rfl
      replace Bv := Bv.ext hb rfl
      replace Be := Be.ext hb rfl
      replace hw := hw.trans (hb.mono hw.size)
      clear hb
      obtain ⟨xp, yp, zp, vp⟩ := Bp.facts
      obtain ⟨xc, yc, zc, vc⟩ := Bc.facts
      obtain ⟨xd, yd, zd, vd⟩ := Bd.facts
      obtain ⟨xq, yq, zq, vq⟩ := Bq.facts
      obtain ⟨xv, yv, zv, vv⟩ := Bv.facts
      obtain ⟨xe, ye, ze, ve⟩ := Be.facts
      go_wp2_with fail
      refine (n4 _).mono ?_
      rintro e w11 ⟨rfl, hb⟩
      clear xp yp zp vp xc yc zc vc xd yd zd vd xq yq zq vq xv yv zv vv xe ye ze ve
      replace Bp := Bp.ext hb rfl
      replace Bc := Bc.ext hb rfl
      replace Bd := Bd.ext hb rfl
      replace Bq := Bq.ext hb rfl
      replace Bv := Bv.ext hb rfl
      replace Be := Be.ext hb rfl
      replace hw := hw.trans (hb.mono hw.size)
      clear hb
      obtain ⟨xp, yp, zp, vp⟩ := Bp.facts
      obtain ⟨xc, yc, zc, vc⟩ := Bc.facts
      obtain ⟨xd, yd, zd, vd⟩ := Bd.facts
      obtain ⟨xq, yq, zq, vq⟩ := Bq.facts
      obtain ⟨xv, yv, zv, vv⟩ := Bv.facts
      obtain ⟨xe, ye, ze, ve⟩ := Be.facts
      go_wp2_with fail
      refine (n5 _).mono ?_
      rintro e w12 ⟨rfl, hb⟩
      clear xp yp zp vp xc yc zc vc xd yd zd vd xq yq zq vq xv yv zv vv xe ye ze ve
      replace Bp := Bp.ext hb rfl
      replace Bc := Bc.ext hb rfl
      replace Bd := Bd.ext hb rfl
      replace Bq := Bq.ext hb rfl
      replace Bv := Bv.ext hb rfl
      replace Be := Be.ext hb rfl
      replace hw := hw.trans (hb.mono hw.size)
      clear hb
      obtain ⟨xp, yp, zp, vp⟩ := Bp.facts
      obtain ⟨xc, yc, zc, vc⟩ := Bc.facts
      obtain ⟨xd, yd, zd, vd⟩ := Bd.facts
      obtain ⟨xq, yq, zq, vq⟩ := Bq.facts
      obtain ⟨xv, yv, zv, vv⟩ := Bv.facts
      obtain ⟨xe, ye, ze, ve⟩ := Be.facts
      go_wp2_with fail
      refine (awake_any _).mono ?_
      rintro e w13 ⟨rfl, hb⟩
      clear xp yp zp vp xc yc zc vc xd yd zd vd xq yq zq vq xv yv zv vv xe ye ze ve
      replace Bp := Bp.ext hb rfl
      replace Bc := Bc.ext hb rfl
      replace Bd := Bd.ext hb rfl
      replace Bq := Bq.ext hb rfl
      replace Bv := Bv.ext hb rfl
      replace Be := Be.ext hb rfl
      replace hw := hw.trans (hb.mono hw.size)
      clear hb
      obtain ⟨xp, yp, zp, vp⟩ := Bp.facts
      obtain ⟨xc, yc, zc, vc⟩ := Bc.facts
      obtain ⟨xd, yd, zd, vd⟩ := Bd.facts
      obtain ⟨xq, yq, zq, vq⟩ := Bq.facts
      obtain ⟨xv, yv, zv, vv⟩ := Bv.facts
      obtain ⟨xe, ye, ze, ve⟩ := Be.facts
      go_wp2
      go_ret
      exact ⟨rfl, hw⟩
theorem labels_law (r label other until_ : Int) (_ : rng r) (_ : rng label) (_ : rng other) (_ : rng until_) (w : World) :
    Calls Try.prog 6 #[.int .i64 r, .int .i64 label, .int .i64 other, .int .i64 until_] w fun e w' => e = .returned (.bool true) ∧ Below w.heap.size w w' := by
  cases h : decide (until_ < 1) with
  | true => exact lab_0 r label other until_ h w
  | false => cases h2 : decide (until_ > 1099511627776) with
    | true => exact lab_1 r label other until_ h h2 w
    | false => exact lab_2 r label other until_ h h2 w
set_option maxRecDepth 100000 in
theorem rightsLabels_lifted (os : Os) (started : os.Started) (H : Type) (enc : TypeId × Value → H) :
    ReturnsInHanded {} Try.checked os 6 .any (Rows.rightsLabelsSpec.pre6 enc Try.prog Try.f6 Rows.rightsLabelsRow.domain false) (Rows.rightsLabelsSpec.post enc Try.prog Try.f6 false true false false) := by
  refine returnsInHanded_of_change (C := Try.checked) Try.own started (by kernel_rfl) Try.func6
    (ChangeSpec.witness6 (enc := enc) (C := Try.checked) false ⟨#[], #[.int .i64 0, .int .i64 0, .int .i64 0, .int .i64 0], []⟩ 8 (by kernel_rfl) (by kernel_rfl) (by kernel_rfl) (by kernel_rfl)) ?_
  intro W base args ds gs before hval0 hW hcnd _
  have hval : ∀ (j : Nat) t v, Try.f6.params[j]? = some t → args[j]? = some v → Value.okWide Try.prog W .any base t v := hval0
  have hW' := hW
  obtain ⟨p, q, hA0, hV, rfl, hfz, hnd⟩ := hW
  have hA : DataW.TrodAll enc Try.prog W 0 (fun _ => true) true Try.f6.params.toList args.toList ds p := hA0
  rw [Try.params6] at hA hval
  obtain ⟨v0, v1, v2, v3, d0, d1, d2, d3, q0, q1, q2, q3, rfl, rfl, rfl, p0, p1, p2, p3⟩ := trodAll_four hA
  obtain ⟨rfl, rfl⟩ := trodVars_none hV
  obtain ⟨r, rfl, rfl, rfl, wr⟩ := open_int Try.underlying3 (hval 0 3 v0 rfl rfl) p0
  obtain ⟨label, rfl, rfl, rfl, wlabel⟩ := open_int Try.underlying3 (hval 1 3 v1 rfl rfl) p1
  obtain ⟨other, rfl, rfl, rfl, wother⟩ := open_int Try.underlying3 (hval 2 3 v2 rfl rfl) p2
  obtain ⟨until_, rfl, rfl, rfl, wuntil_⟩ := open_int Try.underlying3 (hval 3 3 v3 rfl rfl) p3
  clear hA0 hval0
  simp only [List.append_nil] at hW'
  refine (labels_law r label other until_ (int_wf wr) (int_wf wlabel) (int_wf wother) (int_wf wuntil_) W).mono fun e W' ⟨he, hb⟩ => ?_
  subst he
  exact ⟨_, rfl, post_of_below (pa := []) (pv := []) hW' (fun _ _ _ => trodAll_mk1 (shut_bool Try.underlying4 true)) (fun sp _ => trodAll_mk4 (shut_int Try.underlying3 wr) (shut_int Try.underlying3 wlabel) (shut_int Try.underlying3 wother) (shut_int Try.underlying3 wuntil_)) (fun _ _ => rfl) rfl hb (ok_one (by kernel_rfl) rfl (okWide_bool_mk Try.underlying4 true))⟩
/-- The law RightsLabels holds of every input. -/
theorem rightsLabels_holds : Rows.RightsLabelsSaid :=
  OpenClaim.holds_of_wide 6 Try.f6 rfl rfl rfl rfl rfl rfl rfl ⟨rfl, rfl, rfl, rfl, rfl⟩ rfl rfl rfl rfl rfl (by kernel_rfl) Try.func6 (by kernel_rfl)
    (of_decide_eq_true (by kernel_rfl)) (by unfold Func.isWrapper; rw [if_neg (of_decide_eq_false (by kernel_rfl))]; exact ⟨rfl, rfl⟩)
    (fun os started H enc _ => rightsLabels_lifted os started H enc)
end Go.Proofs.Ytipokakeaboelaa
