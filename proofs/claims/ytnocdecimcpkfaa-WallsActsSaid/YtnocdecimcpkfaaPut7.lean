/- Put together: ExJ. -/
import Derived.Test.YtnocdecimcpkfaaRows
import Derived.Test.YtnocdecimcpkfaaPut6
import Derived.Test.YtnocdecimcpkfaaPut1
import Derived.WalkKit
import Derived.WalkSpells
import Derived.WalkLawsBesides
import Derived.Laws.Externs
import Derived.Deep.QuietTactic
import Derived.BigQuiet
import Derived.Lib.Hide
import Derived.Handy
namespace Go.Proofs.Ytnocdecimcpkfaa
open Go.RowKit Go.Sort
attribute [local go_sem] rOper rAt rUpon cell_set sg_i64 sg_u64 alloc_cell alloc_frozen
attribute [local go_sem 10000] pt_eql pt_neq
attribute [local irreducible] rWalk

theorem rorient_0 (a b c : Pt) (ha : vld a = false) (w : World) :
    Calls Try.prog 51 #[.agg #[.int .i64 a.x, .int .i64 a.y], .agg #[.int .i64 b.x, .int .i64 b.y], .agg #[.int .i64 c.x, .int .i64 c.y]] w fun e w' => e = .returned (.int .i64 0) ∧ Below w.heap.size w w' := by
  have ca := rvalid_any a
  rw [ha] at ca
  clear ha
  go_enter Try.func51, Try.ntmps51
  go_wp2_with fail
  refine at_call fun W1 hW => ?_
  have Ba : Box W1 (w.heap.size) [.int .i64 a.x, .int .i64 a.y] 33 := by rw [hW]; exact ((Box.new rfl).old _).old _
  have Bb : Box W1 (w.heap.size + 1) [.int .i64 b.x, .int .i64 b.y] 33 := by rw [hW]; exact (Box.new (by simp)).old _
  have Bc : Box W1 (w.heap.size + 1 + 1) [.int .i64 c.x, .int .i64 c.y] 33 := by rw [hW]; exact Box.new (by simp)
  have hw : Below w.heap.size w W1 := by rw [hW]; go_grown
  clear hW
  refine (ca _).mono ?_
  rintro e w2 ⟨rfl, hb⟩
  replace Ba := Ba.ext hb rfl
  replace Bb := Bb.ext hb rfl
  replace Bc := Bc.ext hb rfl
  replace hw := hw.trans (hb.mono hw.size)
  clear hb
  obtain ⟨xa, ya, za, va⟩ := Ba.facts
  obtain ⟨xb, yb, zb, vb⟩ := Bb.facts
  obtain ⟨xc, yc, zc, vc⟩ := Bc.facts
  go_wp2
  go_ret
  exact ⟨rfl, hw⟩

theorem rorient_1 (a b c : Pt) (ha : vld a = true) (hb : vld b = false) (w : World) :
    Calls Try.prog 51 #[.agg #[.int .i64 a.x, .int .i64 a.y], .agg #[.int .i64 b.x, .int .i64 b.y], .agg #[.int .i64 c.x, .int .i64 c.y]] w fun e w' => e = .returned (.int .i64 0) ∧ Below w.heap.size w w' := by
  have ca := rvalid_any a
  rw [ha] at ca
  have cb := rvalid_any b
  rw [hb] at cb
  clear ha hb
  go_enter Try.func51, Try.ntmps51
  go_wp2_with fail
  refine at_call fun W1 hW => ?_
  have Ba : Box W1 (w.heap.size) [.int .i64 a.x, .int .i64 a.y] 33 := by rw [hW]; exact ((Box.new rfl).old _).old _
  have Bb : Box W1 (w.heap.size + 1) [.int .i64 b.x, .int .i64 b.y] 33 := by rw [hW]; exact (Box.new (by simp)).old _
  have Bc : Box W1 (w.heap.size + 1 + 1) [.int .i64 c.x, .int .i64 c.y] 33 := by rw [hW]; exact Box.new (by simp)
  have hw : Below w.heap.size w W1 := by rw [hW]; go_grown
  clear hW
  refine (ca _).mono ?_
  rintro e w2 ⟨rfl, hb⟩
  replace Ba := Ba.ext hb rfl
  replace Bb := Bb.ext hb rfl
  replace Bc := Bc.ext hb rfl
  replace hw := hw.trans (hb.mono hw.size)
  clear hb
  obtain ⟨xa, ya, za, va⟩ := Ba.facts
  obtain ⟨xb, yb, zb, vb⟩ := Bb.facts
  obtain ⟨xc, yc, zc, vc⟩ := Bc.facts
  go_wp2_with fail
  refine (cb _).mono ?_
  rintro e w3 ⟨rfl, hb⟩
  clear xa ya za va xb yb zb vb xc yc zc vc
  replace Ba := Ba.ext hb rfl
  replace Bb := Bb.ext hb rfl
  replace Bc := Bc.ext hb rfl
  replace hw := hw.trans (hb.mono hw.size)
  clear hb
  obtain ⟨xa, ya, za, va⟩ := Ba.facts
  obtain ⟨xb, yb, zb, vb⟩ := Bb.facts
  obtain ⟨xc, yc, zc, vc⟩ := Bc.facts
  go_wp2
  go_ret
  exact ⟨rfl, hw⟩

theorem rorient_2 (a b c : Pt) (ha : vld a = true) (hb : vld b = true) (hc : vld c = false) (w : World) :
    Calls Try.prog 51 #[.agg #[.int .i64 a.x, .int .i64 a.y], .agg #[.int .i64 b.x, .int .i64 b.y], .agg #[.int .i64 c.x, .int .i64 c.y]] w fun e w' => e = .returned (.int .i64 0) ∧ Below w.heap.size w w' := by
  have ca := rvalid_any a
  rw [ha] at ca
  have cb := rvalid_any b
  rw [hb] at cb
  have cc := rvalid_any c
  rw [hc] at cc
  clear ha hb hc
  go_enter Try.func51, Try.ntmps51
  go_wp2_with fail
  refine at_call fun W1 hW => ?_
  have Ba : Box W1 (w.heap.size) [.int .i64 a.x, .int .i64 a.y] 33 := by rw [hW]; exact ((Box.new rfl).old _).old _
  have Bb : Box W1 (w.heap.size + 1) [.int .i64 b.x, .int .i64 b.y] 33 := by rw [hW]; exact (Box.new (by simp)).old _
  have Bc : Box W1 (w.heap.size + 1 + 1) [.int .i64 c.x, .int .i64 c.y] 33 := by rw [hW]; exact Box.new (by simp)
  have hw : Below w.heap.size w W1 := by rw [hW]; go_grown
  clear hW
  refine (ca _).mono ?_
  rintro e w2 ⟨rfl, hb⟩
  replace Ba := Ba.ext hb rfl
  replace Bb := Bb.ext hb rfl
  replace Bc := Bc.ext hb rfl
  replace hw := hw.trans (hb.mono hw.size)
  clear hb
  obtain ⟨xa, ya, za, va⟩ := Ba.facts
  obtain ⟨xb, yb, zb, vb⟩ := Bb.facts
  obtain ⟨xc, yc, zc, vc⟩ := Bc.facts
  go_wp2_with fail
  refine (cb _).mono ?_
  rintro e w3 ⟨rfl, hb⟩
  clear xa ya za va xb yb zb vb xc yc zc vc
  replace Ba := Ba.ext hb rfl
  replace Bb := Bb.ext hb rfl
  replace Bc := Bc.ext hb rfl
  replace hw := hw.trans (hb.mono hw.size)
  clear hb
  obtain ⟨xa, ya, za, va⟩ := Ba.facts
  obtain ⟨xb, yb, zb, vb⟩ := Bb.facts
  obtain ⟨xc, yc, zc, vc⟩ := Bc.facts
  go_wp2_with fail
  refine (cc _).mono ?_
  rintro e w4 ⟨rfl, hb⟩
  clear xa ya za va xb yb zb vb xc yc zc vc
  replace Ba := Ba.ext hb rfl
  replace Bb := Bb.ext hb rfl
  replace Bc := Bc.ext hb rfl
  replace hw := hw.trans (hb.mono hw.size)
  clear hb
  obtain ⟨xa, ya, za, va⟩ := Ba.facts
  obtain ⟨xb, yb, zb, vb⟩ := Bb.facts
  obtain ⟨xc, yc, zc, vc⟩ := Bc.facts
  go_wp2
  go_ret
  exact ⟨rfl, hw⟩

theorem rorient_3 (a b c : Pt) (ha : vld a = true) (hb : vld b = true) (hc : vld c = true) (w : World) :
    Calls Try.prog 51 #[.agg #[.int .i64 a.x, .int .i64 a.y], .agg #[.int .i64 b.x, .int .i64 b.y], .agg #[.int .i64 c.x, .int .i64 c.y]] w fun e w' => e = .returned (.int .i64 (sgn (det a b c))) ∧ Below w.heap.size w w' := by
  have ca := rvalid_any a
  rw [ha] at ca
  have cb := rvalid_any b
  rw [hb] at cb
  have cc := rvalid_any c
  rw [hc] at cc
  have ct := rtwice_any a b c ha hb hc
  generalize det a b c = D at *
  have cs := same_below (rsign_any D)
  clear ha hb hc
  go_enter Try.func51, Try.ntmps51
  go_wp2_with fail
  refine at_call fun W1 hW => ?_
  have Ba : Box W1 (w.heap.size) [.int .i64 a.x, .int .i64 a.y] 33 := by rw [hW]; exact ((Box.new rfl).old _).old _
  have Bb : Box W1 (w.heap.size + 1) [.int .i64 b.x, .int .i64 b.y] 33 := by rw [hW]; exact (Box.new (by simp)).old _
  have Bc : Box W1 (w.heap.size + 1 + 1) [.int .i64 c.x, .int .i64 c.y] 33 := by rw [hW]; exact Box.new (by simp)
  have hw : Below w.heap.size w W1 := by rw [hW]; go_grown
  clear hW
  refine (ca _).mono ?_
  rintro e w2 ⟨rfl, hb⟩
  replace Ba := Ba.ext hb rfl
  replace Bb := Bb.ext hb rfl
  replace Bc := Bc.ext hb rfl
  replace hw := hw.trans (hb.mono hw.size)
  clear hb
  obtain ⟨xa, ya, za, va⟩ := Ba.facts
  obtain ⟨xb, yb, zb, vb⟩ := Bb.facts
  obtain ⟨xc, yc, zc, vc⟩ := Bc.facts
  go_wp2_with fail
  refine (cb _).mono ?_
  rintro e w3 ⟨rfl, hb⟩
  clear xa ya za va xb yb zb vb xc yc zc vc
  replace Ba := Ba.ext hb rfl
  replace Bb := Bb.ext hb rfl
  replace Bc := Bc.ext hb rfl
  replace hw := hw.trans (hb.mono hw.size)
  clear hb
  obtain ⟨xa, ya, za, va⟩ := Ba.facts
  obtain ⟨xb, yb, zb, vb⟩ := Bb.facts
  obtain ⟨xc, yc, zc, vc⟩ := Bc.facts
  go_wp2_with fail
  refine (cc _).mono ?_
  rintro e w4 ⟨rfl, hb⟩
  clear xa ya za va xb yb zb vb xc yc zc vc
  replace Ba := Ba.ext hb rfl
  replace Bb := Bb.ext hb rfl
  replace Bc := Bc.ext hb rfl
  replace hw := hw.trans (hb.mono hw.size)
  clear hb
  obtain ⟨xa, ya, za, va⟩ := Ba.facts
  obtain ⟨xb, yb, zb, vb⟩ := Bb.facts
  obtain ⟨xc, yc, zc, vc⟩ := Bc.facts
  go_wp2_with fail
  refine (ct _).mono ?_
  rintro e w5 ⟨rfl, hb⟩
  clear xa ya za va xb yb zb vb xc yc zc vc
  replace Ba := Ba.ext hb rfl
  replace Bb := Bb.ext hb rfl
  replace Bc := Bc.ext hb rfl
  replace hw := hw.trans (hb.mono hw.size)
  clear hb
  obtain ⟨xa, ya, za, va⟩ := Ba.facts
  obtain ⟨xb, yb, zb, vb⟩ := Bb.facts
  obtain ⟨xc, yc, zc, vc⟩ := Bc.facts
  go_wp2_with fail
  refine (cs _).mono ?_
  rintro e w6 ⟨rfl, hb⟩
  clear xa ya za va xb yb zb vb xc yc zc vc
  replace Ba := Ba.ext hb rfl
  replace Bb := Bb.ext hb rfl
  replace Bc := Bc.ext hb rfl
  replace hw := hw.trans (hb.mono hw.size)
  clear hb
  obtain ⟨xa, ya, za, va⟩ := Ba.facts
  obtain ⟨xb, yb, zb, vb⟩ := Bb.facts
  obtain ⟨xc, yc, zc, vc⟩ := Bc.facts
  go_wp2
  go_ret
  exact ⟨rfl, hw⟩

theorem rorient_any (a b c : Pt) (w : World) :
    Calls Try.prog 51 #[.agg #[.int .i64 a.x, .int .i64 a.y], .agg #[.int .i64 b.x, .int .i64 b.y], .agg #[.int .i64 c.x, .int .i64 c.y]] w fun e w' => e = .returned (.int .i64 (ori a b c)) ∧ Below w.heap.size w w' := by
  cases ha : vld a with
  | false => rw [show ori a b c = 0 by simp [ori, ha]]; exact rorient_0 a b c ha w
  | true => cases hb : vld b with
    | false => rw [show ori a b c = 0 by simp [ori, hb]]; exact rorient_1 a b c ha hb w
    | true => cases hc : vld c with
      | false => rw [show ori a b c = 0 by simp [ori, hc]]; exact rorient_2 a b c ha hb hc w
      | true => rw [show ori a b c = sgn (det a b c) by simp [ori, ha, hb, hc]]; exact rorient_3 a b c ha hb hc w
def btw (n a b : Int) : Bool := decide (min a b ≤ n ∧ n ≤ max a b)
theorem btw_any (n a b : Int) (w : World) :
    Calls Try.prog 70 #[.int .i64 n, .int .i64 a, .int .i64 b] w fun e w' => e = .returned (.bool (btw n a b)) ∧ w = w' := by
  go_enter Try.func70, Try.ntmps70
  go_wp2
  all_goals go_ret
  all_goals exact ⟨ret_bool (by unfold btw; rw [Bool.eq_iff_iff]; simp; omega), rfl⟩
def onR (p a b : Pt) : Bool := vld p && (vld a && (vld b && (decide (det a b p = 0) && (btw p.x a.x b.x && btw p.y a.y b.y))))
theorem ron_0 (p a b : Pt) (hp : vld p = false) (w : World) :
    Calls Try.prog 47 #[.agg #[.int .i64 p.x, .int .i64 p.y], .agg #[.int .i64 a.x, .int .i64 a.y], .agg #[.int .i64 b.x, .int .i64 b.y]] w fun e w' => e = .returned (.bool false) ∧ Below w.heap.size w w' := by
  have cp := rvalid_any p
  rw [hp] at cp
  clear hp
  go_enter Try.func47, Try.ntmps47
  go_wp2_with fail
  refine at_call fun W1 hW => ?_
  have Bp : Box W1 (w.heap.size) [.int .i64 p.x, .int .i64 p.y] 33 := by rw [hW]; exact ((Box.new rfl).old _).old _
  have Ba : Box W1 (w.heap.size + 1) [.int .i64 a.x, .int .i64 a.y] 33 := by rw [hW]; exact (Box.new (by simp)).old _
  have Bb : Box W1 (w.heap.size + 1 + 1) [.int .i64 b.x, .int .i64 b.y] 33 := by rw [hW]; exact Box.new (by simp)
  have hw : Below w.heap.size w W1 := by rw [hW]; go_grown
  clear hW
  refine (cp _).mono ?_
  rintro e w2 ⟨rfl, hb⟩
  replace Bp := Bp.ext hb rfl
  replace Ba := Ba.ext hb rfl
  replace Bb := Bb.ext hb rfl
  replace hw := hw.trans (hb.mono hw.size)
  clear hb
  obtain ⟨xp, yp, zp, vp⟩ := Bp.facts
  obtain ⟨xa, ya, za, va⟩ := Ba.facts
  obtain ⟨xb, yb, zb, vb⟩ := Bb.facts
  go_wp2
  go_ret
  exact ⟨rfl, hw⟩

theorem ron_1 (p a b : Pt) (hp : vld p = true) (ha : vld a = false) (w : World) :
    Calls Try.prog 47 #[.agg #[.int .i64 p.x, .int .i64 p.y], .agg #[.int .i64 a.x, .int .i64 a.y], .agg #[.int .i64 b.x, .int .i64 b.y]] w fun e w' => e = .returned (.bool false) ∧ Below w.heap.size w w' := by
  have cp := rvalid_any p
  rw [hp] at cp
  have ca := rvalid_any a
  rw [ha] at ca
  clear hp ha
  go_enter Try.func47, Try.ntmps47
  go_wp2_with fail
  refine at_call fun W1 hW => ?_
  have Bp : Box W1 (w.heap.size) [.int .i64 p.x, .int .i64 p.y] 33 := by rw [hW]; exact ((Box.new rfl).old _).old _
  have Ba : Box W1 (w.heap.size + 1) [.int .i64 a.x, .int .i64 a.y] 33 := by rw [hW]; exact (Box.new (by simp)).old _
  have Bb : Box W1 (w.heap.size + 1 + 1) [.int .i64 b.x, .int .i64 b.y] 33 := by rw [hW]; exact Box.new (by simp)
  have hw : Below w.heap.size w W1 := by rw [hW]; go_grown
  clear hW
  refine (cp _).mono ?_
  rintro e w2 ⟨rfl, hb⟩
  replace Bp := Bp.ext hb rfl
  replace Ba := Ba.ext hb rfl
  replace Bb := Bb.ext hb rfl
  replace hw := hw.trans (hb.mono hw.size)
  clear hb
  obtain ⟨xp, yp, zp, vp⟩ := Bp.facts
  obtain ⟨xa, ya, za, va⟩ := Ba.facts
  obtain ⟨xb, yb, zb, vb⟩ := Bb.facts
  go_wp2_with fail
  refine (ca _).mono ?_
  rintro e w3 ⟨rfl, hb⟩
  clear xp yp zp vp xa ya za va xb yb zb vb
  replace Bp := Bp.ext hb rfl
  replace Ba := Ba.ext hb rfl
  replace Bb := Bb.ext hb rfl
  replace hw := hw.trans (hb.mono hw.size)
  clear hb
  obtain ⟨xp, yp, zp, vp⟩ := Bp.facts
  obtain ⟨xa, ya, za, va⟩ := Ba.facts
  obtain ⟨xb, yb, zb, vb⟩ := Bb.facts
  go_wp2
  go_ret
  exact ⟨rfl, hw⟩

theorem ron_2 (p a b : Pt) (hp : vld p = true) (ha : vld a = true) (hb : vld b = false) (w : World) :
    Calls Try.prog 47 #[.agg #[.int .i64 p.x, .int .i64 p.y], .agg #[.int .i64 a.x, .int .i64 a.y], .agg #[.int .i64 b.x, .int .i64 b.y]] w fun e w' => e = .returned (.bool false) ∧ Below w.heap.size w w' := by
  have cp := rvalid_any p
  rw [hp] at cp
  have ca := rvalid_any a
  rw [ha] at ca
  have cb := rvalid_any b
  rw [hb] at cb
  clear hp ha hb
  go_enter Try.func47, Try.ntmps47
  go_wp2_with fail
  refine at_call fun W1 hW => ?_
  have Bp : Box W1 (w.heap.size) [.int .i64 p.x, .int .i64 p.y] 33 := by rw [hW]; exact ((Box.new rfl).old _).old _
  have Ba : Box W1 (w.heap.size + 1) [.int .i64 a.x, .int .i64 a.y] 33 := by rw [hW]; exact (Box.new (by simp)).old _
  have Bb : Box W1 (w.heap.size + 1 + 1) [.int .i64 b.x, .int .i64 b.y] 33 := by rw [hW]; exact Box.new (by simp)
  have hw : Below w.heap.size w W1 := by rw [hW]; go_grown
  clear hW
  refine (cp _).mono ?_
  rintro e w2 ⟨rfl, hb⟩
  replace Bp := Bp.ext hb rfl
  replace Ba := Ba.ext hb rfl
  replace Bb := Bb.ext hb rfl
  replace hw := hw.trans (hb.mono hw.size)
  clear hb
  obtain ⟨xp, yp, zp, vp⟩ := Bp.facts
  obtain ⟨xa, ya, za, va⟩ := Ba.facts
  obtain ⟨xb, yb, zb, vb⟩ := Bb.facts
  go_wp2_with fail
  refine (ca _).mono ?_
  rintro e w3 ⟨rfl, hb⟩
  clear xp yp zp vp xa ya za va xb yb zb vb
  replace Bp := Bp.ext hb rfl
  replace Ba := Ba.ext hb rfl
  replace Bb := Bb.ext hb rfl
  replace hw := hw.trans (hb.mono hw.size)
  clear hb
  obtain ⟨xp, yp, zp, vp⟩ := Bp.facts
  obtain ⟨xa, ya, za, va⟩ := Ba.facts
  obtain ⟨xb, yb, zb, vb⟩ := Bb.facts
  go_wp2_with fail
  refine (cb _).mono ?_
  rintro e w4 ⟨rfl, hb⟩
  clear xp yp zp vp xa ya za va xb yb zb vb
  replace Bp := Bp.ext hb rfl
  replace Ba := Ba.ext hb rfl
  replace Bb := Bb.ext hb rfl
  replace hw := hw.trans (hb.mono hw.size)
  clear hb
  obtain ⟨xp, yp, zp, vp⟩ := Bp.facts
  obtain ⟨xa, ya, za, va⟩ := Ba.facts
  obtain ⟨xb, yb, zb, vb⟩ := Bb.facts
  go_wp2
  go_ret
  exact ⟨rfl, hw⟩

theorem ron_3 (p a b : Pt) (hp : vld p = true) (ha : vld a = true) (hb : vld b = true) (h0 : ¬ det a b p = 0) (w : World) :
    Calls Try.prog 47 #[.agg #[.int .i64 p.x, .int .i64 p.y], .agg #[.int .i64 a.x, .int .i64 a.y], .agg #[.int .i64 b.x, .int .i64 b.y]] w fun e w' => e = .returned (.bool false) ∧ Below w.heap.size w w' := by
  have cp := rvalid_any p
  rw [hp] at cp
  have ca := rvalid_any a
  rw [ha] at ca
  have cb := rvalid_any b
  rw [hb] at cb
  have ct := rtwice_any a b p ha hb hp
  clear ha hb hp
  generalize det a b p = D at *
  have t0 : (D == 0) = false := by simpa using h0
  clear h0
  go_enter Try.func47, Try.ntmps47
  go_wp2_with fail
  refine at_call fun W1 hW => ?_
  have Bp : Box W1 (w.heap.size) [.int .i64 p.x, .int .i64 p.y] 33 := by rw [hW]; exact ((Box.new rfl).old _).old _
  have Ba : Box W1 (w.heap.size + 1) [.int .i64 a.x, .int .i64 a.y] 33 := by rw [hW]; exact (Box.new (by simp)).old _
  have Bb : Box W1 (w.heap.size + 1 + 1) [.int .i64 b.x, .int .i64 b.y] 33 := by rw [hW]; exact Box.new (by simp)
  have hw : Below w.heap.size w W1 := by rw [hW]; go_grown
  clear hW
  refine (cp _).mono ?_
  rintro e w2 ⟨rfl, hb⟩
  replace Bp := Bp.ext hb rfl
  replace Ba := Ba.ext hb rfl
  replace Bb := Bb.ext hb rfl
  replace hw := hw.trans (hb.mono hw.size)
  clear hb
  obtain ⟨xp, yp, zp, vp⟩ := Bp.facts
  obtain ⟨xa, ya, za, va⟩ := Ba.facts
  obtain ⟨xb, yb, zb, vb⟩ := Bb.facts
  go_wp2_with fail
  refine (ca _).mono ?_
  rintro e w3 ⟨rfl, hb⟩
  clear xp yp zp vp xa ya za va xb yb zb vb
  replace Bp := Bp.ext hb rfl
  replace Ba := Ba.ext hb rfl
  replace Bb := Bb.ext hb rfl
  replace hw := hw.trans (hb.mono hw.size)
  clear hb
  obtain ⟨xp, yp, zp, vp⟩ := Bp.facts
  obtain ⟨xa, ya, za, va⟩ := Ba.facts
  obtain ⟨xb, yb, zb, vb⟩ := Bb.facts
  go_wp2_with fail
  refine (cb _).mono ?_
  rintro e w4 ⟨rfl, hb⟩
  clear xp yp zp vp xa ya za va xb yb zb vb
  replace Bp := Bp.ext hb rfl
  replace Ba := Ba.ext hb rfl
  replace Bb := Bb.ext hb rfl
  replace hw := hw.trans (hb.mono hw.size)
  clear hb
  obtain ⟨xp, yp, zp, vp⟩ := Bp.facts
  obtain ⟨xa, ya, za, va⟩ := Ba.facts
  obtain ⟨xb, yb, zb, vb⟩ := Bb.facts
  go_wp2_with fail
  refine (ct _).mono ?_
  rintro e w5 ⟨rfl, hb⟩
  clear xp yp zp vp xa ya za va xb yb zb vb
  replace Bp := Bp.ext hb rfl
  replace Ba := Ba.ext hb rfl
  replace Bb := Bb.ext hb rfl
  replace hw := hw.trans (hb.mono hw.size)
  clear hb
  obtain ⟨xp, yp, zp, vp⟩ := Bp.facts
  obtain ⟨xa, ya, za, va⟩ := Ba.facts
  obtain ⟨xb, yb, zb, vb⟩ := Bb.facts
  go_wp2
  go_ret
  exact ⟨rfl, hw⟩

theorem ron_4 (p a b : Pt) (hp : vld p = true) (ha : vld a = true) (hb : vld b = true) (h0 : det a b p = 0) (h1 : btw p.x a.x b.x = false) (w : World) :
    Calls Try.prog 47 #[.agg #[.int .i64 p.x, .int .i64 p.y], .agg #[.int .i64 a.x, .int .i64 a.y], .agg #[.int .i64 b.x, .int .i64 b.y]] w fun e w' => e = .returned (.bool false) ∧ Below w.heap.size w w' := by
  have cp := rvalid_any p
  rw [hp] at cp
  have ca := rvalid_any a
  rw [ha] at ca
  have cb := rvalid_any b
  rw [hb] at cb
  have ct := rtwice_any a b p ha hb hp
  clear ha hb hp
  rw [h0] at ct
  clear h0
  have k1 := same_below (btw_any p.x a.x b.x)
  rw [h1] at k1
  clear h1
  go_enter Try.func47, Try.ntmps47
  go_wp2_with fail
  refine at_call fun W1 hW => ?_
  have Bp : Box W1 (w.heap.size) [.int .i64 p.x, .int .i64 p.y] 33 := by rw [hW]; exact ((Box.new rfl).old _).old _
  have Ba : Box W1 (w.heap.size + 1) [.int .i64 a.x, .int .i64 a.y] 33 := by rw [hW]; exact (Box.new (by simp)).old _
  have Bb : Box W1 (w.heap.size + 1 + 1) [.int .i64 b.x, .int .i64 b.y] 33 := by rw [hW]; exact Box.new (by simp)
  have hw : Below w.heap.size w W1 := by rw [hW]; go_grown
  clear hW
  refine (cp _).mono ?_
  rintro e w2 ⟨rfl, hb⟩
  replace Bp := Bp.ext hb rfl
  replace Ba := Ba.ext hb rfl
  replace Bb := Bb.ext hb rfl
  replace hw := hw.trans (hb.mono hw.size)
  clear hb
  obtain ⟨xp, yp, zp, vp⟩ := Bp.facts
  obtain ⟨xa, ya, za, va⟩ := Ba.facts
  obtain ⟨xb, yb, zb, vb⟩ := Bb.facts
  go_wp2_with fail
  refine (ca _).mono ?_
  rintro e w3 ⟨rfl, hb⟩
  clear xp yp zp vp xa ya za va xb yb zb vb
  replace Bp := Bp.ext hb rfl
  replace Ba := Ba.ext hb rfl
  replace Bb := Bb.ext hb rfl
  replace hw := hw.trans (hb.mono hw.size)
  clear hb
  obtain ⟨xp, yp, zp, vp⟩ := Bp.facts
  obtain ⟨xa, ya, za, va⟩ := Ba.facts
  obtain ⟨xb, yb, zb, vb⟩ := Bb.facts
  go_wp2_with fail
  refine (cb _).mono ?_
  rintro e w4 ⟨rfl, hb⟩
  clear xp yp zp vp xa ya za va xb yb zb vb
  replace Bp := Bp.ext hb rfl
  replace Ba := Ba.ext hb rfl
  replace Bb := Bb.ext hb rfl
  replace hw := hw.trans (hb.mono hw.size)
  clear hb
  obtain ⟨xp, yp, zp, vp⟩ := Bp.facts
  obtain ⟨xa, ya, za, va⟩ := Ba.facts
  obtain ⟨xb, yb, zb, vb⟩ := Bb.facts
  go_wp2_with fail
  refine (ct _).mono ?_
  rintro e w5 ⟨rfl, hb⟩
  clear xp yp zp vp xa ya za va xb yb zb vb
  replace Bp := Bp.ext hb rfl
  replace Ba := Ba.ext hb rfl
  replace Bb := Bb.ext hb rfl
  replace hw := hw.trans (hb.mono hw.size)
  clear hb
  obtain ⟨xp, yp, zp, vp⟩ := Bp.facts
  obtain ⟨xa, ya, za, va⟩ := Ba.facts
  obtain ⟨xb, yb, zb, vb⟩ := Bb.facts
  go_wp2_with fail
  refine (k1 _).mono ?_
  rintro e w6 ⟨rfl, hb⟩
  clear xp yp zp vp xa ya za va xb yb zb vb
  replace Bp := Bp.ext hb rfl
  replace Ba := Ba.ext hb rfl
  replace Bb := Bb.ext hb rfl
  replace hw := hw.trans (hb.mono hw.size)
  clear hb
  obtain ⟨xp, yp, zp, vp⟩ := Bp.facts
  obtain ⟨xa, ya, za, va⟩ := Ba.facts
  obtain ⟨xb, yb, zb, vb⟩ := Bb.facts
  go_wp2
  go_ret
  exact ⟨rfl, hw⟩

theorem ron_5 (p a b : Pt) (hp : vld p = true) (ha : vld a = true) (hb : vld b = true) (h0 : det a b p = 0) (h1 : btw p.x a.x b.x = true) (w : World) :
    Calls Try.prog 47 #[.agg #[.int .i64 p.x, .int .i64 p.y], .agg #[.int .i64 a.x, .int .i64 a.y], .agg #[.int .i64 b.x, .int .i64 b.y]] w fun e w' => e = .returned (.bool (btw p.y a.y b.y)) ∧ Below w.heap.size w w' := by
  have cp := rvalid_any p
  rw [hp] at cp
  have ca := rvalid_any a
  rw [ha] at ca
  have cb := rvalid_any b
  rw [hb] at cb
  have ct := rtwice_any a b p ha hb hp
  clear ha hb hp
  rw [h0] at ct
  clear h0
  have k1 := same_below (btw_any p.x a.x b.x)
  rw [h1] at k1
  clear h1
  have k2 := same_below (btw_any p.y a.y b.y)
  generalize btw p.y a.y b.y = B at *
  go_enter Try.func47, Try.ntmps47
  go_wp2_with fail
  refine at_call fun W1 hW => ?_
  have Bp : Box W1 (w.heap.size) [.int .i64 p.x, .int .i64 p.y] 33 := by rw [hW]; exact ((Box.new rfl).old _).old _
  have Ba : Box W1 (w.heap.size + 1) [.int .i64 a.x, .int .i64 a.y] 33 := by rw [hW]; exact (Box.new (by simp)).old _
  have Bb : Box W1 (w.heap.size + 1 + 1) [.int .i64 b.x, .int .i64 b.y] 33 := by rw [hW]; exact Box.new (by simp)
  have hw : Below w.heap.size w W1 := by rw [hW]; go_grown
  clear hW
  refine (cp _).mono ?_
  rintro e w2 ⟨rfl, hb⟩
  replace Bp := Bp.ext hb rfl
  replace Ba := Ba.ext hb rfl
  replace Bb := Bb.ext hb rfl
  replace hw := hw.trans (hb.mono hw.size)
  clear hb
  obtain ⟨xp, yp, zp, vp⟩ := Bp.facts
  obtain ⟨xa, ya, za, va⟩ := Ba.facts
  obtain ⟨xb, yb, zb, vb⟩ := Bb.facts
  go_wp2_with fail
  refine (ca _).mono ?_
  rintro e w3 ⟨rfl, hb⟩
  clear xp yp zp vp xa ya za va xb yb zb vb
  replace Bp := Bp.ext hb rfl
  replace Ba := Ba.ext hb rfl
  replace Bb := Bb.ext hb rfl
  replace hw := hw.trans (hb.mono hw.size)
  clear hb
  obtain ⟨xp, yp, zp, vp⟩ := Bp.facts
  obtain ⟨xa, ya, za, va⟩ := Ba.facts
  obtain ⟨xb, yb, zb, vb⟩ := Bb.facts
  go_wp2_with fail
  refine (cb _).mono ?_
  rintro e w4 ⟨rfl, hb⟩
  clear xp yp zp vp xa ya za va xb yb zb vb
  replace Bp := Bp.ext hb rfl
  replace Ba := Ba.ext hb rfl
  replace Bb := Bb.ext hb rfl
  replace hw := hw.trans (hb.mono hw.size)
  clear hb
  obtain ⟨xp, yp, zp, vp⟩ := Bp.facts
  obtain ⟨xa, ya, za, va⟩ := Ba.facts
  obtain ⟨xb, yb, zb, vb⟩ := Bb.facts
  go_wp2_with fail
  refine (ct _).mono ?_
  rintro e w5 ⟨rfl, hb⟩
  clear xp yp zp vp xa ya za va xb yb zb vb
  replace Bp := Bp.ext hb rfl
  replace Ba := Ba.ext hb rfl
  replace Bb := Bb.ext hb rfl
  replace hw := hw.trans (hb.mono hw.size)
  clear hb
  obtain ⟨xp, yp, zp, vp⟩ := Bp.facts
  obtain ⟨xa, ya, za, va⟩ := Ba.facts
  obtain ⟨xb, yb, zb, vb⟩ := Bb.facts
  go_wp2_with fail
  refine (k1 _).mono ?_
  rintro e w6 ⟨rfl, hb⟩
  clear xp yp zp vp xa ya za va xb yb zb vb
  replace Bp := Bp.ext hb rfl
  replace Ba := Ba.ext hb rfl
  replace Bb := Bb.ext hb rfl
  replace hw := hw.trans (hb.mono hw.size)
  clear hb
  obtain ⟨xp, yp, zp, vp⟩ := Bp.facts
  obtain ⟨xa, ya, za, va⟩ := Ba.facts
  obtain ⟨xb, yb, zb, vb⟩ := Bb.facts
  go_wp2_with fail
  refine (k2 _).mono ?_
  rintro e w7 ⟨rfl, hb⟩
  clear xp yp zp vp xa ya za va xb yb zb vb
  replace Bp := Bp.ext hb rfl
  replace Ba := Ba.ext hb rfl
  replace Bb := Bb.ext hb rfl
  replace hw := hw.trans (hb.mono hw.size)
  clear hb
  obtain ⟨xp, yp, zp, vp⟩ := Bp.facts
  obtain ⟨xa, ya, za, va⟩ := Ba.facts
  obtain ⟨xb, yb, zb, vb⟩ := Bb.facts
  go_wp2
  go_ret
  exact ⟨rfl, hw⟩

theorem ron_any (p a b : Pt) (w : World) :
    Calls Try.prog 47 #[.agg #[.int .i64 p.x, .int .i64 p.y], .agg #[.int .i64 a.x, .int .i64 a.y], .agg #[.int .i64 b.x, .int .i64 b.y]] w fun e w' => e = .returned (.bool (onR p a b)) ∧ Below w.heap.size w w' := by
  cases hp : vld p with
  | false => rw [show onR p a b = false by unfold onR; rw [hp]; rfl]; exact ron_0 p a b hp w
  | true => cases ha : vld a with
    | false => rw [show onR p a b = false by unfold onR; rw [hp, ha]; rfl]; exact ron_1 p a b hp ha w
    | true => cases hb : vld b with
      | false => rw [show onR p a b = false by unfold onR; rw [hp, ha, hb]; rfl]; exact ron_2 p a b hp ha hb w
      | true =>
        by_cases h0 : det a b p = 0
        · cases h1 : btw p.x a.x b.x with
          | false => rw [show onR p a b = false by unfold onR; rw [hp, ha, hb, h0, h1]; rfl]; exact ron_4 p a b hp ha hb h0 h1 w
          | true => rw [show onR p a b = btw p.y a.y b.y by unfold onR; rw [hp, ha, hb, h0, h1]; rfl]; exact ron_5 p a b hp ha hb h0 h1 w
        · rw [show onR p a b = false by unfold onR; rw [hp, ha, hb]; simp [h0]]; exact ron_3 p a b hp ha hb h0 w
def rl (p q : Pt) : Pt := if cmpP p q < 0 then p else q
theorem rl_0 (p q : Pt) (h : decide (cmpP p q < 0) = false) (w : World) :
    Calls Try.prog 42 #[.agg #[.int .i64 p.x, .int .i64 p.y], .agg #[.int .i64 q.x, .int .i64 q.y]] w fun e w' => e = .returned (.agg #[.int .i64 q.x, .int .i64 q.y]) ∧ Below w.heap.size w w' := by
  have c := rcmp_pt p q
  generalize cmpP p q = n at *
  go_enter Try.func42, Try.ntmps42
  go_wp2_with fail
  refine at_call fun W1 hW => ?_
  have Bp : Box W1 (w.heap.size) [.int .i64 p.x, .int .i64 p.y] 33 := by rw [hW]; exact ((Box.new rfl).old _).old _
  have Bq : Box W1 (w.heap.size + 1) [.int .i64 q.x, .int .i64 q.y] 33 := by rw [hW]; exact (Box.new (by simp)).old _
  have Br : Box W1 (w.heap.size + 1 + 1) [.int .i64 0, .int .i64 0] 33 := by rw [hW]; exact Box.new (by simp)
  have hw : Below w.heap.size w W1 := by rw [hW]; go_grown
  clear hW
  refine (c _).mono ?_
  rintro e w2 ⟨rfl, hb⟩
  replace Bp := Bp.ext hb rfl
  replace Bq := Bq.ext hb rfl
  replace Br := Br.ext hb rfl
  replace hw := hw.trans (hb.mono hw.size)
  clear hb
  obtain ⟨xp, yp, zp, vp⟩ := Bp.facts
  obtain ⟨xq, yq, zq, vq⟩ := Bq.facts
  obtain ⟨xr, yr, zr, vr⟩ := Br.facts
  go_wp2_with fail
  refine bodyPost_ret (v := .agg #[.int .i64 q.x, .int .i64 q.y]) (by simp [results, Try.results42, go_sem, xr]) rfl ⟨rfl, by have hl := hw.size; go_grown⟩

theorem rl_1 (p q : Pt) (h : decide (cmpP p q < 0) = true) (w : World) :
    Calls Try.prog 42 #[.agg #[.int .i64 p.x, .int .i64 p.y], .agg #[.int .i64 q.x, .int .i64 q.y]] w fun e w' => e = .returned (.agg #[.int .i64 p.x, .int .i64 p.y]) ∧ Below w.heap.size w w' := by
  have c := rcmp_pt p q
  generalize cmpP p q = n at *
  go_enter Try.func42, Try.ntmps42
  go_wp2_with fail
  refine at_call fun W1 hW => ?_
  have Bp : Box W1 (w.heap.size) [.int .i64 p.x, .int .i64 p.y] 33 := by rw [hW]; exact ((Box.new rfl).old _).old _
  have Bq : Box W1 (w.heap.size + 1) [.int .i64 q.x, .int .i64 q.y] 33 := by rw [hW]; exact (Box.new (by simp)).old _
  have Br : Box W1 (w.heap.size + 1 + 1) [.int .i64 0, .int .i64 0] 33 := by rw [hW]; exact Box.new (by simp)
  have hw : Below w.heap.size w W1 := by rw [hW]; go_grown
  clear hW
  refine (c _).mono ?_
  rintro e w2 ⟨rfl, hb⟩
  replace Bp := Bp.ext hb rfl
  replace Bq := Bq.ext hb rfl
  replace Br := Br.ext hb rfl
  replace hw := hw.trans (hb.mono hw.size)
  clear hb
  obtain ⟨xp, yp, zp, vp⟩ := Bp.facts
  obtain ⟨xq, yq, zq, vq⟩ := Bq.facts
  obtain ⟨xr, yr, zr, vr⟩ := Br.facts
  go_wp2_with fail
  refine bodyPost_ret (v := .agg #[.int .i64 p.x, .int .i64 p.y]) (by simp [results, Try.results42, go_sem, xr]) rfl ⟨rfl, by have hl := hw.size; go_grown⟩

theorem rl_any (p q : Pt) (w : World) :
    Calls Try.prog 42 #[.agg #[.int .i64 p.x, .int .i64 p.y], .agg #[.int .i64 q.x, .int .i64 q.y]] w fun e w' => e = .returned (.agg #[.int .i64 (rl p q).x, .int .i64 (rl p q).y]) ∧ Below w.heap.size w w' := by
  by_cases h : cmpP p q < 0
  · rw [show rl p q = p by unfold rl; rw [if_pos h]]; exact rl_1 p q (by simpa using h) w
  · rw [show rl p q = q by unfold rl; rw [if_neg h]]; exact rl_0 p q (by simpa using h) w
def rg (p q : Pt) : Pt := if cmpP p q < 0 then q else p
theorem rg_0 (p q : Pt) (h : decide (cmpP p q < 0) = false) (w : World) :
    Calls Try.prog 43 #[.agg #[.int .i64 p.x, .int .i64 p.y], .agg #[.int .i64 q.x, .int .i64 q.y]] w fun e w' => e = .returned (.agg #[.int .i64 p.x, .int .i64 p.y]) ∧ Below w.heap.size w w' := by
  have c := rcmp_pt p q
  generalize cmpP p q = n at *
  go_enter Try.func43, Try.ntmps43
  go_wp2_with fail
  refine at_call fun W1 hW => ?_
  have Bp : Box W1 (w.heap.size) [.int .i64 p.x, .int .i64 p.y] 33 := by rw [hW]; exact ((Box.new rfl).old _).old _
  have Bq : Box W1 (w.heap.size + 1) [.int .i64 q.x, .int .i64 q.y] 33 := by rw [hW]; exact (Box.new (by simp)).old _
  have Br : Box W1 (w.heap.size + 1 + 1) [.int .i64 0, .int .i64 0] 33 := by rw [hW]; exact Box.new (by simp)
  have hw : Below w.heap.size w W1 := by rw [hW]; go_grown
  clear hW
  refine (c _).mono ?_
  rintro e w2 ⟨rfl, hb⟩
  replace Bp := Bp.ext hb rfl
  replace Bq := Bq.ext hb rfl
  replace Br := Br.ext hb rfl
  replace hw := hw.trans (hb.mono hw.size)
  clear hb
  obtain ⟨xp, yp, zp, vp⟩ := Bp.facts
  obtain ⟨xq, yq, zq, vq⟩ := Bq.facts
  obtain ⟨xr, yr, zr, vr⟩ := Br.facts
  go_wp2_with fail
  refine bodyPost_ret (v := .agg #[.int .i64 p.x, .int .i64 p.y]) (by simp [results, Try.results43, go_sem, xr]) rfl ⟨rfl, by have hl := hw.size; go_grown⟩

theorem rg_1 (p q : Pt) (h : decide (cmpP p q < 0) = true) (w : World) :
    Calls Try.prog 43 #[.agg #[.int .i64 p.x, .int .i64 p.y], .agg #[.int .i64 q.x, .int .i64 q.y]] w fun e w' => e = .returned (.agg #[.int .i64 q.x, .int .i64 q.y]) ∧ Below w.heap.size w w' := by
  have c := rcmp_pt p q
  generalize cmpP p q = n at *
  go_enter Try.func43, Try.ntmps43
  go_wp2_with fail
  refine at_call fun W1 hW => ?_
  have Bp : Box W1 (w.heap.size) [.int .i64 p.x, .int .i64 p.y] 33 := by rw [hW]; exact ((Box.new rfl).old _).old _
  have Bq : Box W1 (w.heap.size + 1) [.int .i64 q.x, .int .i64 q.y] 33 := by rw [hW]; exact (Box.new (by simp)).old _
  have Br : Box W1 (w.heap.size + 1 + 1) [.int .i64 0, .int .i64 0] 33 := by rw [hW]; exact Box.new (by simp)
  have hw : Below w.heap.size w W1 := by rw [hW]; go_grown
  clear hW
  refine (c _).mono ?_
  rintro e w2 ⟨rfl, hb⟩
  replace Bp := Bp.ext hb rfl
  replace Bq := Bq.ext hb rfl
  replace Br := Br.ext hb rfl
  replace hw := hw.trans (hb.mono hw.size)
  clear hb
  obtain ⟨xp, yp, zp, vp⟩ := Bp.facts
  obtain ⟨xq, yq, zq, vq⟩ := Bq.facts
  obtain ⟨xr, yr, zr, vr⟩ := Br.facts
  go_wp2_with fail
  refine bodyPost_ret (v := .agg #[.int .i64 q.x, .int .i64 q.y]) (by simp [results, Try.results43, go_sem, xr]) rfl ⟨rfl, by have hl := hw.size; go_grown⟩

theorem rg_any (p q : Pt) (w : World) :
    Calls Try.prog 43 #[.agg #[.int .i64 p.x, .int .i64 p.y], .agg #[.int .i64 q.x, .int .i64 q.y]] w fun e w' => e = .returned (.agg #[.int .i64 (rg p q).x, .int .i64 (rg p q).y]) ∧ Below w.heap.size w w' := by
  by_cases h : cmpP p q < 0
  · rw [show rg p q = q by unfold rg; rw [if_pos h]]; exact rg_1 p q (by simpa using h) w
  · rw [show rg p q = p by unfold rg; rw [if_neg h]]; exact rg_0 p q (by simpa using h) w
def tch (p a b : Pt) : Int := if onR p a b = false then 0 else if peqI p.x p.y a.x a.y = true then 0 else if peqI p.x p.y b.x b.y = true then 0 else 2
theorem tch_0 (p a b : Pt) (h : onR p a b = false) (w : World) :
    Calls Try.prog 53 #[.agg #[.int .i64 p.x, .int .i64 p.y], .agg #[.int .i64 a.x, .int .i64 a.y], .agg #[.int .i64 b.x, .int .i64 b.y]] w fun e w' => e = .returned (.int .i64 0) ∧ Below w.heap.size w w' := by
  have c := ron_any p a b
  rw [h] at c
  clear h
  go_enter Try.func53, Try.ntmps53
  go_wp2_with fail
  refine at_call fun W1 hW => ?_
  have Bp : Box W1 (w.heap.size) [.int .i64 p.x, .int .i64 p.y] 33 := by rw [hW]; exact ((Box.new rfl).old _).old _
  have Ba : Box W1 (w.heap.size + 1) [.int .i64 a.x, .int .i64 a.y] 33 := by rw [hW]; exact (Box.new (by simp)).old _
  have Bb : Box W1 (w.heap.size + 1 + 1) [.int .i64 b.x, .int .i64 b.y] 33 := by rw [hW]; exact Box.new (by simp)
  have hw : Below w.heap.size w W1 := by rw [hW]; go_grown
  clear hW
  refine (c _).mono ?_
  rintro e w2 ⟨rfl, hb⟩
  replace Bp := Bp.ext hb rfl
  replace Ba := Ba.ext hb rfl
  replace Bb := Bb.ext hb rfl
  replace hw := hw.trans (hb.mono hw.size)
  clear hb
  obtain ⟨xp, yp, zp, vp⟩ := Bp.facts
  obtain ⟨xa, ya, za, va⟩ := Ba.facts
  obtain ⟨xb, yb, zb, vb⟩ := Bb.facts
  go_wp2
  go_ret
  exact ⟨rfl, hw⟩

theorem tch_1 (p a b : Pt) (h : onR p a b = true) (e1 : peqI p.x p.y a.x a.y = true) (w : World) :
    Calls Try.prog 53 #[.agg #[.int .i64 p.x, .int .i64 p.y], .agg #[.int .i64 a.x, .int .i64 a.y], .agg #[.int .i64 b.x, .int .i64 b.y]] w fun e w' => e = .returned (.int .i64 0) ∧ Below w.heap.size w w' := by
  have c := ron_any p a b
  rw [h] at c
  clear h
  go_enter Try.func53, Try.ntmps53
  go_wp2_with fail
  refine at_call fun W1 hW => ?_
  have Bp : Box W1 (w.heap.size) [.int .i64 p.x, .int .i64 p.y] 33 := by rw [hW]; exact ((Box.new rfl).old _).old _
  have Ba : Box W1 (w.heap.size + 1) [.int .i64 a.x, .int .i64 a.y] 33 := by rw [hW]; exact (Box.new (by simp)).old _
  have Bb : Box W1 (w.heap.size + 1 + 1) [.int .i64 b.x, .int .i64 b.y] 33 := by rw [hW]; exact Box.new (by simp)
  have hw : Below w.heap.size w W1 := by rw [hW]; go_grown
  clear hW
  refine (c _).mono ?_
  rintro e w2 ⟨rfl, hb⟩
  replace Bp := Bp.ext hb rfl
  replace Ba := Ba.ext hb rfl
  replace Bb := Bb.ext hb rfl
  replace hw := hw.trans (hb.mono hw.size)
  clear hb
  obtain ⟨xp, yp, zp, vp⟩ := Bp.facts
  obtain ⟨xa, ya, za, va⟩ := Ba.facts
  obtain ⟨xb, yb, zb, vb⟩ := Bb.facts
  go_wp2
  go_ret
  exact ⟨rfl, hw⟩

theorem tch_2 (p a b : Pt) (h : onR p a b = true) (e1 : peqI p.x p.y a.x a.y = false) (e2 : peqI p.x p.y b.x b.y = true) (w : World) :
    Calls Try.prog 53 #[.agg #[.int .i64 p.x, .int .i64 p.y], .agg #[.int .i64 a.x, .int .i64 a.y], .agg #[.int .i64 b.x, .int .i64 b.y]] w fun e w' => e = .returned (.int .i64 0) ∧ Below w.heap.size w w' := by
  have c := ron_any p a b
  rw [h] at c
  clear h
  go_enter Try.func53, Try.ntmps53
  go_wp2_with fail
  refine at_call fun W1 hW => ?_
  have Bp : Box W1 (w.heap.size) [.int .i64 p.x, .int .i64 p.y] 33 := by rw [hW]; exact ((Box.new rfl).old _).old _
  have Ba : Box W1 (w.heap.size + 1) [.int .i64 a.x, .int .i64 a.y] 33 := by rw [hW]; exact (Box.new (by simp)).old _
  have Bb : Box W1 (w.heap.size + 1 + 1) [.int .i64 b.x, .int .i64 b.y] 33 := by rw [hW]; exact Box.new (by simp)
  have hw : Below w.heap.size w W1 := by rw [hW]; go_grown
  clear hW
  refine (c _).mono ?_
  rintro e w2 ⟨rfl, hb⟩
  replace Bp := Bp.ext hb rfl
  replace Ba := Ba.ext hb rfl
  replace Bb := Bb.ext hb rfl
  replace hw := hw.trans (hb.mono hw.size)
  clear hb
  obtain ⟨xp, yp, zp, vp⟩ := Bp.facts
  obtain ⟨xa, ya, za, va⟩ := Ba.facts
  obtain ⟨xb, yb, zb, vb⟩ := Bb.facts
  go_wp2
  go_ret
  exact ⟨rfl, hw⟩

theorem tch_3 (p a b : Pt) (h : onR p a b = true) (e1 : peqI p.x p.y a.x a.y = false) (e2 : peqI p.x p.y b.x b.y = false) (w : World) :
    Calls Try.prog 53 #[.agg #[.int .i64 p.x, .int .i64 p.y], .agg #[.int .i64 a.x, .int .i64 a.y], .agg #[.int .i64 b.x, .int .i64 b.y]] w fun e w' => e = .returned (.int .i64 2) ∧ Below w.heap.size w w' := by
  have c := ron_any p a b
  rw [h] at c
  clear h
  go_enter Try.func53, Try.ntmps53
  go_wp2_with fail
  refine at_call fun W1 hW => ?_
  have Bp : Box W1 (w.heap.size) [.int .i64 p.x, .int .i64 p.y] 33 := by rw [hW]; exact ((Box.new rfl).old _).old _
  have Ba : Box W1 (w.heap.size + 1) [.int .i64 a.x, .int .i64 a.y] 33 := by rw [hW]; exact (Box.new (by simp)).old _
  have Bb : Box W1 (w.heap.size + 1 + 1) [.int .i64 b.x, .int .i64 b.y] 33 := by rw [hW]; exact Box.new (by simp)
  have hw : Below w.heap.size w W1 := by rw [hW]; go_grown
  clear hW
  refine (c _).mono ?_
  rintro e w2 ⟨rfl, hb⟩
  replace Bp := Bp.ext hb rfl
  replace Ba := Ba.ext hb rfl
  replace Bb := Bb.ext hb rfl
  replace hw := hw.trans (hb.mono hw.size)
  clear hb
  obtain ⟨xp, yp, zp, vp⟩ := Bp.facts
  obtain ⟨xa, ya, za, va⟩ := Ba.facts
  obtain ⟨xb, yb, zb, vb⟩ := Bb.facts
  go_wp2
  go_ret
  exact ⟨rfl, hw⟩

theorem tch_any (p a b : Pt) (w : World) :
    Calls Try.prog 53 #[.agg #[.int .i64 p.x, .int .i64 p.y], .agg #[.int .i64 a.x, .int .i64 a.y], .agg #[.int .i64 b.x, .int .i64 b.y]] w fun e w' => e = .returned (.int .i64 (tch p a b)) ∧ Below w.heap.size w w' := by
  cases h : onR p a b with
  | false => rw [show tch p a b = 0 by unfold tch; rw [if_pos h]]; exact tch_0 p a b h w
  | true =>
    cases e1 : peqI p.x p.y a.x a.y with
    | true => rw [show tch p a b = 0 by unfold tch; simp [h, e1]]; exact tch_1 p a b h e1 w
    | false => cases e2 : peqI p.x p.y b.x b.y with
      | true => rw [show tch p a b = 0 by unfold tch; simp [h, e1, e2]]; exact tch_2 p a b h e1 e2 w
      | false => rw [show tch p a b = 2 by unfold tch; simp [h, e1, e2]]; exact tch_3 p a b h e1 e2 w
end Go.Proofs.Ytnocdecimcpkfaa
