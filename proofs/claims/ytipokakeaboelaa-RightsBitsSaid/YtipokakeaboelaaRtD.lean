/- What the document fixes of rights: the law's own awake answers true. -/
import Derived.Test.YtipokakeaboelaaRows
import Derived.Test.YtipokakeaboelaaRtB
import Derived.Test.YtipokakeaboelaaRtC
import Derived.WalkKit
import Derived.WalkSpells
import Derived.WalkLawsBesides
import Derived.Laws.Externs
import Derived.Deep.QuietTactic
import Derived.BigQuiet
import Derived.Lib.Hide
import Derived.Handy
import Derived.Lib.Strings
namespace Go.Proofs.Ytipokakeaboelaa
open Go.RowKit Go.Sort
attribute [local go_sem] rOper rAt rUpon cell_set sg_i64 sg_u64 alloc_cell alloc_frozen
attribute [local irreducible] rWalk

theorem rng_small {n : Int} (h0 : 0 ≤ n) (h1 : n ≤ 100) : rng n := by unfold rng; omega
set_option maxHeartbeats 1000000 in
theorem awake_any (w : World) :
    Calls Try.prog 14 #[] w fun e w' => e = .returned (.bool true) ∧ Below w.heap.size w w' := by
  have k0 := valid_any (r := 15) (rng_small (by omega) (by omega))
  rw [show vR 15 = true by decide +kernel] at k0
  have k1 := valid_any (r := 0) (rng_small (by omega) (by omega))
  rw [show vR 0 = false by decide +kernel] at k1
  have k2 := valid_any (r := 16) (rng_small (by omega) (by omega))
  rw [show vR 16 = false by decide +kernel] at k2
  have k3 := within_any (a := 5) (b := 7) (rng_small (by omega) (by omega)) (rng_small (by omega) (by omega))
  rw [show wR 5 7 = true by decide +kernel] at k3
  have k4 := within_any (a := 8) (b := 7) (rng_small (by omega) (by omega)) (rng_small (by omega) (by omega))
  rw [show wR 8 7 = false by decide +kernel] at k4
  have k5 := can_any (r := 7) (m := 3) (rng_small (by omega) (by omega))
  rw [show caR 7 3 = true by decide +kernel] at k5
  have k6 := can_any (r := 0) (m := 0) (rng_small (by omega) (by omega))
  rw [show caR 0 0 = true by decide +kernel] at k6
  have k7 := can_any (r := 16) (m := 0) (rng_small (by omega) (by omega))
  rw [show caR 16 0 = false by decide +kernel] at k7
  have t0 := text_any (r := 5) (rng_small (by omega) (by omega))
  rw [show txt 5 = ⟨#[114, 97]⟩ by decide +kernel] at t0
  have t1 := text_any (r := 0) (rng_small (by omega) (by omega))
  rw [show txt 0 = ⟨#[45]⟩ by decide +kernel] at t1
  have t2 := text_any (r := 16) (rng_small (by omega) (by omega))
  rw [show txt 16 = ⟨#[]⟩ by decide +kernel] at t2
  have n0 := nar_any ⟨1, 0, 0, 0, 4, 3, 9, 2, 3⟩ ⟨1, 2, 3, 0, 0, 15, 9, 0, 0⟩ (rng_small (by simp) (by simp)) (rng_small (by simp) (by simp))
  rw [show nar ⟨1, 0, 0, 0, 4, 3, 9, 2, 3⟩ ⟨1, 2, 3, 0, 0, 15, 9, 0, 0⟩ = true by decide +kernel] at n0
  have n1 := nar_any ⟨1, 2, 3, 0, 0, 15, 9, 0, 0⟩ ⟨1, 0, 0, 0, 4, 3, 9, 2, 3⟩ (rng_small (by simp) (by simp)) (rng_small (by simp) (by simp))
  rw [show nar ⟨1, 2, 3, 0, 0, 15, 9, 0, 0⟩ ⟨1, 0, 0, 0, 4, 3, 9, 2, 3⟩ = false by decide +kernel] at n1
  go_enter Try.func14, Try.ntmps14
  go_wp2_with fail
  refine at_call fun W1 hW => ?_
  have Bp : Box W1 (w.heap.size) [.int .i64 1, .int .i64 2, .int .i64 3, .int .i64 0, .int .i64 0, .int .i64 15, .int .i64 9, .int .i64 0, .int .i64 0] 23 := by rw [hW]; exact (Box.new rfl).old _
  have Bc : Box W1 (w.heap.size + 1) [.int .i64 1, .int .i64 0, .int .i64 0, .int .i64 0, .int .i64 4, .int .i64 3, .int .i64 9, .int .i64 2, .int .i64 3] 23 := by rw [hW]; exact Box.new (by simp)
  have hw : Below w.heap.size w W1 := by rw [hW]; go_grown
  clear hW
  refine (k0 _).mono ?_
  rintro e w2 ⟨rfl, hb⟩
  replace Bp := Bp.ext hb rfl
  replace Bc := Bc.ext hb rfl
  replace hw := hw.trans (hb.mono hw.size)
  clear hb
  obtain ⟨xp, yp, zp, vp⟩ := Bp.facts
  obtain ⟨xc, yc, zc, vc⟩ := Bc.facts
  go_wp2_with fail
  refine (k1 _).mono ?_
  rintro e w3 ⟨rfl, hb⟩
  clear xp yp zp vp xc yc zc vc
  replace Bp := Bp.ext hb rfl
  replace Bc := Bc.ext hb rfl
  replace hw := hw.trans (hb.mono hw.size)
  clear hb
  obtain ⟨xp, yp, zp, vp⟩ := Bp.facts
  obtain ⟨xc, yc, zc, vc⟩ := Bc.facts
  go_wp2_with fail
  refine (k2 _).mono ?_
  rintro e w4 ⟨rfl, hb⟩
  clear xp yp zp vp xc yc zc vc
  replace Bp := Bp.ext hb rfl
  replace Bc := Bc.ext hb rfl
  replace hw := hw.trans (hb.mono hw.size)
  clear hb
  obtain ⟨xp, yp, zp, vp⟩ := Bp.facts
  obtain ⟨xc, yc, zc, vc⟩ := Bc.facts
  go_wp2_with fail
  refine (k3 _).mono ?_
  rintro e w5 ⟨rfl, hb⟩
  clear xp yp zp vp xc yc zc vc
  replace Bp := Bp.ext hb rfl
  replace Bc := Bc.ext hb rfl
  replace hw := hw.trans (hb.mono hw.size)
  clear hb
  obtain ⟨xp, yp, zp, vp⟩ := Bp.facts
  obtain ⟨xc, yc, zc, vc⟩ := Bc.facts
  go_wp2_with fail
  refine (k4 _).mono ?_
  rintro e w6 ⟨rfl, hb⟩
  clear xp yp zp vp xc yc zc vc
  replace Bp := Bp.ext hb rfl
  replace Bc := Bc.ext hb rfl
  replace hw := hw.trans (hb.mono hw.size)
  clear hb
  obtain ⟨xp, yp, zp, vp⟩ := Bp.facts
  obtain ⟨xc, yc, zc, vc⟩ := Bc.facts
  go_wp2_with fail
  refine (k5 _).mono ?_
  rintro e w7 ⟨rfl, hb⟩
  clear xp yp zp vp xc yc zc vc
  replace Bp := Bp.ext hb rfl
  replace Bc := Bc.ext hb rfl
  replace hw := hw.trans (hb.mono hw.size)
  clear hb
  obtain ⟨xp, yp, zp, vp⟩ := Bp.facts
  obtain ⟨xc, yc, zc, vc⟩ := Bc.facts
  go_wp2_with fail
  refine (k6 _).mono ?_
  rintro e w8 ⟨rfl, hb⟩
  clear xp yp zp vp xc yc zc vc
  replace Bp := Bp.ext hb rfl
  replace Bc := Bc.ext hb rfl
  replace hw := hw.trans (hb.mono hw.size)
  clear hb
  obtain ⟨xp, yp, zp, vp⟩ := Bp.facts
  obtain ⟨xc, yc, zc, vc⟩ := Bc.facts
  go_wp2_with fail
  refine (k7 _).mono ?_
  rintro e w9 ⟨rfl, hb⟩
  clear xp yp zp vp xc yc zc vc
  replace Bp := Bp.ext hb rfl
  replace Bc := Bc.ext hb rfl
  replace hw := hw.trans (hb.mono hw.size)
  clear hb
  obtain ⟨xp, yp, zp, vp⟩ := Bp.facts
  obtain ⟨xc, yc, zc, vc⟩ := Bc.facts
  go_wp2_with fail
  refine (t0 _).mono ?_
  rintro e w10 ⟨rfl, hb⟩
  clear xp yp zp vp xc yc zc vc
  replace Bp := Bp.ext hb rfl
  replace Bc := Bc.ext hb rfl
  replace hw := hw.trans (hb.mono hw.size)
  clear hb
  obtain ⟨xp, yp, zp, vp⟩ := Bp.facts
  obtain ⟨xc, yc, zc, vc⟩ := Bc.facts
  go_wp2_with fail
  refine (t1 _).mono ?_
  rintro e w11 ⟨rfl, hb⟩
  clear xp yp zp vp xc yc zc vc
  replace Bp := Bp.ext hb rfl
  replace Bc := Bc.ext hb rfl
  replace hw := hw.trans (hb.mono hw.size)
  clear hb
  obtain ⟨xp, yp, zp, vp⟩ := Bp.facts
  obtain ⟨xc, yc, zc, vc⟩ := Bc.facts
  go_wp2_with fail
  refine (t2 _).mono ?_
  rintro e w12 ⟨rfl, hb⟩
  clear xp yp zp vp xc yc zc vc
  replace Bp := Bp.ext hb rfl
  replace Bc := Bc.ext hb rfl
  replace hw := hw.trans (hb.mono hw.size)
  clear hb
  obtain ⟨xp, yp, zp, vp⟩ := Bp.facts
  obtain ⟨xc, yc, zc, vc⟩ := Bc.facts
  go_wp2_with fail
  refine (n0 _).mono ?_
  rintro e w13 ⟨rfl, hb⟩
  clear xp yp zp vp xc yc zc vc
  replace Bp := Bp.ext hb rfl
  replace Bc := Bc.ext hb rfl
  replace hw := hw.trans (hb.mono hw.size)
  clear hb
  obtain ⟨xp, yp, zp, vp⟩ := Bp.facts
  obtain ⟨xc, yc, zc, vc⟩ := Bc.facts
  go_wp2_with fail
  refine (n1 _).mono ?_
  rintro e w14 ⟨rfl, hb⟩
  clear xp yp zp vp xc yc zc vc
  replace Bp := Bp.ext hb rfl
  replace Bc := Bc.ext hb rfl
  replace hw := hw.trans (hb.mono hw.size)
  clear hb
  obtain ⟨xp, yp, zp, vp⟩ := Bp.facts
  obtain ⟨xc, yc, zc, vc⟩ := Bc.facts
  go_wp2
  go_ret
  exact ⟨rfl, hw⟩
end Go.Proofs.Ytipokakeaboelaa
