/- The document's own ValidTri and HasPoint, over the program. -/
import Derived.Test.YtomdlhdpbdkdhaaRows
import Derived.Test.YtomdlhdpbdkdhaaExV
import Derived.Test.YtomdlhdpbdkdhaaPost
import Derived.WalkKit
import Derived.WalkSpells
import Derived.WalkLawsBesides
import Derived.Laws.Externs
import Derived.Deep.QuietTactic
import Derived.BigQuiet
import Derived.Lib.Hide
import Derived.Handy
namespace Go.Proofs.Ytomdlhdpbdkdhaa
open Go.RowKit Go.Sort
attribute [local go_sem] rOper rAt rUpon cell_set sg_i64 sg_u64 alloc_cell alloc_frozen
attribute [local go_sem 10000] pt_eql pt_neq tri_eql
attribute [local irreducible] rWalk

def valT (T : Tri3) : Bool := !decide (ori T.A T.B T.C = 0) && teq (mk T.A T.B T.C) T
theorem rvalT_0 (T : Tri3) (h : (!decide (ori T.A T.B T.C = 0)) = false) (w : World) :
    Calls Try.prog 37 #[.agg #[.int .i64 T.A.x, .int .i64 T.A.y, .int .i64 T.B.x, .int .i64 T.B.y, .int .i64 T.C.x, .int .i64 T.C.y]] w fun e w' => e = .returned (.bool false) ∧ Below w.heap.size w w' := by
  have cm := rmake_any T.A T.B T.C
  rw [h] at cm
  clear h
  generalize mk T.A T.B T.C = M at *
  go_enter Try.func37, Try.ntmps37
  go_wp2_with fail
  refine at_call fun W1 hW => ?_
  have Bt : Box W1 (w.heap.size) [.int .i64 T.A.x, .int .i64 T.A.y, .int .i64 T.B.x, .int .i64 T.B.y, .int .i64 T.C.x, .int .i64 T.C.y] 25 := by rw [hW]; exact Box.new rfl
  have hw : Below w.heap.size w W1 := by rw [hW]; go_grown
  clear hW
  refine (cm _).mono ?_
  rintro e w2 ⟨rfl, hb⟩
  replace Bt := Bt.ext hb rfl
  replace hw := hw.trans (hb.mono hw.size)
  clear hb
  obtain ⟨xt, yt, zt, vt⟩ := Bt.facts
  go_wp2
  go_ret
  exact ⟨rfl, by have hl := hw.size; go_grown⟩

theorem rvalT_1 (T : Tri3) (h : (!decide (ori T.A T.B T.C = 0)) = true) (w : World) :
    Calls Try.prog 37 #[.agg #[.int .i64 T.A.x, .int .i64 T.A.y, .int .i64 T.B.x, .int .i64 T.B.y, .int .i64 T.C.x, .int .i64 T.C.y]] w fun e w' => e = .returned (.bool (teq (mk T.A T.B T.C) T)) ∧ Below w.heap.size w w' := by
  have cm := rmake_any T.A T.B T.C
  rw [h] at cm
  clear h
  generalize mk T.A T.B T.C = M at *
  go_enter Try.func37, Try.ntmps37
  go_wp2_with fail
  refine at_call fun W1 hW => ?_
  have Bt : Box W1 (w.heap.size) [.int .i64 T.A.x, .int .i64 T.A.y, .int .i64 T.B.x, .int .i64 T.B.y, .int .i64 T.C.x, .int .i64 T.C.y] 25 := by rw [hW]; exact Box.new rfl
  have hw : Below w.heap.size w W1 := by rw [hW]; go_grown
  clear hW
  refine (cm _).mono ?_
  rintro e w2 ⟨rfl, hb⟩
  replace Bt := Bt.ext hb rfl
  replace hw := hw.trans (hb.mono hw.size)
  clear hb
  obtain ⟨xt, yt, zt, vt⟩ := Bt.facts
  go_wp2
  go_ret
  exact ⟨rfl, by have hl := hw.size; go_grown⟩

theorem rvalT_any (T : Tri3) (w : World) :
    Calls Try.prog 37 #[.agg #[.int .i64 T.A.x, .int .i64 T.A.y, .int .i64 T.B.x, .int .i64 T.B.y, .int .i64 T.C.x, .int .i64 T.C.y]] w fun e w' => e = .returned (.bool (valT T)) ∧ Below w.heap.size w w' := by
  unfold valT
  cases h : (!decide (ori T.A T.B T.C = 0)) with
  | false => exact rvalT_0 T h w
  | true => exact rvalT_1 T h w
def hasP (T : Tri3) (p : Pt) : Bool := valT T && (vld p && (decide (0 ≤ ori T.A T.B p) && (decide (0 ≤ ori T.B T.C p) && decide (0 ≤ ori T.C T.A p))))
theorem rhasP_0 (T : Tri3) (p : Pt) (h0 : valT T = false) (w : World) :
    Calls Try.prog 19 #[.agg #[.int .i64 T.A.x, .int .i64 T.A.y, .int .i64 T.B.x, .int .i64 T.B.y, .int .i64 T.C.x, .int .i64 T.C.y], .agg #[.int .i64 p.x, .int .i64 p.y]] w fun e w' => e = .returned (.bool false) ∧ Below w.heap.size w w' := by
  have cv := rvalT_any T
  rw [h0] at cv
  clear h0
  go_enter Try.func19, Try.ntmps19
  go_wp2_with fail
  refine at_call fun W1 hW => ?_
  have Bt : Box W1 (w.heap.size) [.int .i64 T.A.x, .int .i64 T.A.y, .int .i64 T.B.x, .int .i64 T.B.y, .int .i64 T.C.x, .int .i64 T.C.y] 25 := by rw [hW]; exact (Box.new rfl).old _
  have Bp : Box W1 (w.heap.size + 1) [.int .i64 p.x, .int .i64 p.y] 23 := by rw [hW]; exact Box.new (by simp)
  have hw : Below w.heap.size w W1 := by rw [hW]; go_grown
  clear hW
  refine (cv _).mono ?_
  rintro e w2 ⟨rfl, hb⟩
  replace Bt := Bt.ext hb rfl
  replace Bp := Bp.ext hb rfl
  replace hw := hw.trans (hb.mono hw.size)
  clear hb
  obtain ⟨xt, yt, zt, vt⟩ := Bt.facts
  obtain ⟨xp, yp, zp, vp⟩ := Bp.facts
  go_wp2
  go_ret
  exact ⟨rfl, hw⟩

theorem rhasP_1 (T : Tri3) (p : Pt) (h0 : valT T = true) (h1 : vld p = false) (w : World) :
    Calls Try.prog 19 #[.agg #[.int .i64 T.A.x, .int .i64 T.A.y, .int .i64 T.B.x, .int .i64 T.B.y, .int .i64 T.C.x, .int .i64 T.C.y], .agg #[.int .i64 p.x, .int .i64 p.y]] w fun e w' => e = .returned (.bool false) ∧ Below w.heap.size w w' := by
  have cv := rvalT_any T
  rw [h0] at cv
  clear h0
  have cp := rvalid_any p
  rw [h1] at cp
  clear h1
  go_enter Try.func19, Try.ntmps19
  go_wp2_with fail
  refine at_call fun W1 hW => ?_
  have Bt : Box W1 (w.heap.size) [.int .i64 T.A.x, .int .i64 T.A.y, .int .i64 T.B.x, .int .i64 T.B.y, .int .i64 T.C.x, .int .i64 T.C.y] 25 := by rw [hW]; exact (Box.new rfl).old _
  have Bp : Box W1 (w.heap.size + 1) [.int .i64 p.x, .int .i64 p.y] 23 := by rw [hW]; exact Box.new (by simp)
  have hw : Below w.heap.size w W1 := by rw [hW]; go_grown
  clear hW
  refine (cv _).mono ?_
  rintro e w2 ⟨rfl, hb⟩
  replace Bt := Bt.ext hb rfl
  replace Bp := Bp.ext hb rfl
  replace hw := hw.trans (hb.mono hw.size)
  clear hb
  obtain ⟨xt, yt, zt, vt⟩ := Bt.facts
  obtain ⟨xp, yp, zp, vp⟩ := Bp.facts
  go_wp2_with fail
  refine (cp _).mono ?_
  rintro e w3 ⟨rfl, hb⟩
  clear xt yt zt vt xp yp zp vp
  replace Bt := Bt.ext hb rfl
  replace Bp := Bp.ext hb rfl
  replace hw := hw.trans (hb.mono hw.size)
  clear hb
  obtain ⟨xt, yt, zt, vt⟩ := Bt.facts
  obtain ⟨xp, yp, zp, vp⟩ := Bp.facts
  go_wp2
  go_ret
  exact ⟨rfl, hw⟩

theorem rhasP_2 (T : Tri3) (p : Pt) (h0 : valT T = true) (h1 : vld p = true) (g0 : decide (0 ≤ ori T.A T.B p) = false) (w : World) :
    Calls Try.prog 19 #[.agg #[.int .i64 T.A.x, .int .i64 T.A.y, .int .i64 T.B.x, .int .i64 T.B.y, .int .i64 T.C.x, .int .i64 T.C.y], .agg #[.int .i64 p.x, .int .i64 p.y]] w fun e w' => e = .returned (.bool false) ∧ Below w.heap.size w w' := by
  have cv := rvalT_any T
  rw [h0] at cv
  clear h0
  have cp := rvalid_any p
  rw [h1] at cp
  clear h1
  have o0 := rorient_any T.A T.B p
  generalize ori T.A T.B p = O0 at *
  go_enter Try.func19, Try.ntmps19
  go_wp2_with fail
  refine at_call fun W1 hW => ?_
  have Bt : Box W1 (w.heap.size) [.int .i64 T.A.x, .int .i64 T.A.y, .int .i64 T.B.x, .int .i64 T.B.y, .int .i64 T.C.x, .int .i64 T.C.y] 25 := by rw [hW]; exact (Box.new rfl).old _
  have Bp : Box W1 (w.heap.size + 1) [.int .i64 p.x, .int .i64 p.y] 23 := by rw [hW]; exact Box.new (by simp)
  have hw : Below w.heap.size w W1 := by rw [hW]; go_grown
  clear hW
  refine (cv _).mono ?_
  rintro e w2 ⟨rfl, hb⟩
  replace Bt := Bt.ext hb rfl
  replace Bp := Bp.ext hb rfl
  replace hw := hw.trans (hb.mono hw.size)
  clear hb
  obtain ⟨xt, yt, zt, vt⟩ := Bt.facts
  obtain ⟨xp, yp, zp, vp⟩ := Bp.facts
  go_wp2_with fail
  refine (cp _).mono ?_
  rintro e w3 ⟨rfl, hb⟩
  clear xt yt zt vt xp yp zp vp
  replace Bt := Bt.ext hb rfl
  replace Bp := Bp.ext hb rfl
  replace hw := hw.trans (hb.mono hw.size)
  clear hb
  obtain ⟨xt, yt, zt, vt⟩ := Bt.facts
  obtain ⟨xp, yp, zp, vp⟩ := Bp.facts
  go_wp2_with fail
  refine (o0 _).mono ?_
  rintro e w4 ⟨rfl, hb⟩
  clear xt yt zt vt xp yp zp vp
  replace Bt := Bt.ext hb rfl
  replace Bp := Bp.ext hb rfl
  replace hw := hw.trans (hb.mono hw.size)
  clear hb
  obtain ⟨xt, yt, zt, vt⟩ := Bt.facts
  obtain ⟨xp, yp, zp, vp⟩ := Bp.facts
  go_wp2
  go_ret
  exact ⟨rfl, hw⟩

theorem rhasP_3 (T : Tri3) (p : Pt) (h0 : valT T = true) (h1 : vld p = true) (g0 : decide (0 ≤ ori T.A T.B p) = true) (g1 : decide (0 ≤ ori T.B T.C p) = false) (w : World) :
    Calls Try.prog 19 #[.agg #[.int .i64 T.A.x, .int .i64 T.A.y, .int .i64 T.B.x, .int .i64 T.B.y, .int .i64 T.C.x, .int .i64 T.C.y], .agg #[.int .i64 p.x, .int .i64 p.y]] w fun e w' => e = .returned (.bool false) ∧ Below w.heap.size w w' := by
  have cv := rvalT_any T
  rw [h0] at cv
  clear h0
  have cp := rvalid_any p
  rw [h1] at cp
  clear h1
  have o0 := rorient_any T.A T.B p
  generalize ori T.A T.B p = O0 at *
  have o1 := rorient_any T.B T.C p
  generalize ori T.B T.C p = O1 at *
  go_enter Try.func19, Try.ntmps19
  go_wp2_with fail
  refine at_call fun W1 hW => ?_
  have Bt : Box W1 (w.heap.size) [.int .i64 T.A.x, .int .i64 T.A.y, .int .i64 T.B.x, .int .i64 T.B.y, .int .i64 T.C.x, .int .i64 T.C.y] 25 := by rw [hW]; exact (Box.new rfl).old _
  have Bp : Box W1 (w.heap.size + 1) [.int .i64 p.x, .int .i64 p.y] 23 := by rw [hW]; exact Box.new (by simp)
  have hw : Below w.heap.size w W1 := by rw [hW]; go_grown
  clear hW
  refine (cv _).mono ?_
  rintro e w2 ⟨rfl, hb⟩
  replace Bt := Bt.ext hb rfl
  replace Bp := Bp.ext hb rfl
  replace hw := hw.trans (hb.mono hw.size)
  clear hb
  obtain ⟨xt, yt, zt, vt⟩ := Bt.facts
  obtain ⟨xp, yp, zp, vp⟩ := Bp.facts
  go_wp2_with fail
  refine (cp _).mono ?_
  rintro e w3 ⟨rfl, hb⟩
  clear xt yt zt vt xp yp zp vp
  replace Bt := Bt.ext hb rfl
  replace Bp := Bp.ext hb rfl
  replace hw := hw.trans (hb.mono hw.size)
  clear hb
  obtain ⟨xt, yt, zt, vt⟩ := Bt.facts
  obtain ⟨xp, yp, zp, vp⟩ := Bp.facts
  go_wp2_with fail
  refine (o0 _).mono ?_
  rintro e w4 ⟨rfl, hb⟩
  clear xt yt zt vt xp yp zp vp
  replace Bt := Bt.ext hb rfl
  replace Bp := Bp.ext hb rfl
  replace hw := hw.trans (hb.mono hw.size)
  clear hb
  obtain ⟨xt, yt, zt, vt⟩ := Bt.facts
  obtain ⟨xp, yp, zp, vp⟩ := Bp.facts
  go_wp2_with fail
  refine (o1 _).mono ?_
  rintro e w5 ⟨rfl, hb⟩
  clear xt yt zt vt xp yp zp vp
  replace Bt := Bt.ext hb rfl
  replace Bp := Bp.ext hb rfl
  replace hw := hw.trans (hb.mono hw.size)
  clear hb
  obtain ⟨xt, yt, zt, vt⟩ := Bt.facts
  obtain ⟨xp, yp, zp, vp⟩ := Bp.facts
  go_wp2
  go_ret
  exact ⟨rfl, hw⟩

theorem rhasP_4 (T : Tri3) (p : Pt) (h0 : valT T = true) (h1 : vld p = true) (g0 : decide (0 ≤ ori T.A T.B p) = true) (g1 : decide (0 ≤ ori T.B T.C p) = true) (w : World) :
    Calls Try.prog 19 #[.agg #[.int .i64 T.A.x, .int .i64 T.A.y, .int .i64 T.B.x, .int .i64 T.B.y, .int .i64 T.C.x, .int .i64 T.C.y], .agg #[.int .i64 p.x, .int .i64 p.y]] w fun e w' => e = .returned (.bool (decide (0 ≤ ori T.C T.A p))) ∧ Below w.heap.size w w' := by
  have cv := rvalT_any T
  rw [h0] at cv
  clear h0
  have cp := rvalid_any p
  rw [h1] at cp
  clear h1
  have o0 := rorient_any T.A T.B p
  generalize ori T.A T.B p = O0 at *
  have o1 := rorient_any T.B T.C p
  generalize ori T.B T.C p = O1 at *
  have o2 := rorient_any T.C T.A p
  generalize ori T.C T.A p = O2 at *
  go_enter Try.func19, Try.ntmps19
  go_wp2_with fail
  refine at_call fun W1 hW => ?_
  have Bt : Box W1 (w.heap.size) [.int .i64 T.A.x, .int .i64 T.A.y, .int .i64 T.B.x, .int .i64 T.B.y, .int .i64 T.C.x, .int .i64 T.C.y] 25 := by rw [hW]; exact (Box.new rfl).old _
  have Bp : Box W1 (w.heap.size + 1) [.int .i64 p.x, .int .i64 p.y] 23 := by rw [hW]; exact Box.new (by simp)
  have hw : Below w.heap.size w W1 := by rw [hW]; go_grown
  clear hW
  refine (cv _).mono ?_
  rintro e w2 ⟨rfl, hb⟩
  replace Bt := Bt.ext hb rfl
  replace Bp := Bp.ext hb rfl
  replace hw := hw.trans (hb.mono hw.size)
  clear hb
  obtain ⟨xt, yt, zt, vt⟩ := Bt.facts
  obtain ⟨xp, yp, zp, vp⟩ := Bp.facts
  go_wp2_with fail
  refine (cp _).mono ?_
  rintro e w3 ⟨rfl, hb⟩
  clear xt yt zt vt xp yp zp vp
  replace Bt := Bt.ext hb rfl
  replace Bp := Bp.ext hb rfl
  replace hw := hw.trans (hb.mono hw.size)
  clear hb
  obtain ⟨xt, yt, zt, vt⟩ := Bt.facts
  obtain ⟨xp, yp, zp, vp⟩ := Bp.facts
  go_wp2_with fail
  refine (o0 _).mono ?_
  rintro e w4 ⟨rfl, hb⟩
  clear xt yt zt vt xp yp zp vp
  replace Bt := Bt.ext hb rfl
  replace Bp := Bp.ext hb rfl
  replace hw := hw.trans (hb.mono hw.size)
  clear hb
  obtain ⟨xt, yt, zt, vt⟩ := Bt.facts
  obtain ⟨xp, yp, zp, vp⟩ := Bp.facts
  go_wp2_with fail
  refine (o1 _).mono ?_
  rintro e w5 ⟨rfl, hb⟩
  clear xt yt zt vt xp yp zp vp
  replace Bt := Bt.ext hb rfl
  replace Bp := Bp.ext hb rfl
  replace hw := hw.trans (hb.mono hw.size)
  clear hb
  obtain ⟨xt, yt, zt, vt⟩ := Bt.facts
  obtain ⟨xp, yp, zp, vp⟩ := Bp.facts
  go_wp2_with fail
  refine (o2 _).mono ?_
  rintro e w6 ⟨rfl, hb⟩
  clear xt yt zt vt xp yp zp vp
  replace Bt := Bt.ext hb rfl
  replace Bp := Bp.ext hb rfl
  replace hw := hw.trans (hb.mono hw.size)
  clear hb
  obtain ⟨xt, yt, zt, vt⟩ := Bt.facts
  obtain ⟨xp, yp, zp, vp⟩ := Bp.facts
  go_wp2
  go_ret
  exact ⟨rfl, hw⟩

theorem rhasP_any (T : Tri3) (p : Pt) (w : World) :
    Calls Try.prog 19 #[.agg #[.int .i64 T.A.x, .int .i64 T.A.y, .int .i64 T.B.x, .int .i64 T.B.y, .int .i64 T.C.x, .int .i64 T.C.y], .agg #[.int .i64 p.x, .int .i64 p.y]] w fun e w' => e = .returned (.bool (hasP T p)) ∧ Below w.heap.size w w' := by
  unfold hasP
  cases h0 : valT T with
  | false => exact rhasP_0 T p h0 w
  | true => cases h1 : vld p with
    | false => exact rhasP_1 T p h0 h1 w
    | true => cases g0 : decide (0 ≤ ori T.A T.B p) with
      | false => exact rhasP_2 T p h0 h1 g0 w
      | true => cases g1 : decide (0 ≤ ori T.B T.C p) with
        | false => exact rhasP_3 T p h0 h1 g0 g1 w
        | true => exact rhasP_4 T p h0 h1 g0 g1 w
theorem ht_pos {u : Pt} (h : u ≠ ⟨0, 0⟩) : 0 < ht u := by
  have h1 := sq_pos u.x
  have h2 := sq_pos u.y
  have h3 : ht u ≠ 0 := fun h0 => by
    unfold ht at h0
    have g1 : u.x * u.x = 0 := by omega
    have g2 : u.y * u.y = 0 := by omega
    apply h; rw [Pt.eq_iff]
    exact ⟨by rcases Int.mul_eq_zero.1 g1 with k | k <;> exact k, by rcases Int.mul_eq_zero.1 g2 with k | k <;> exact k⟩
  have : 0 ≤ ht u := by unfold ht; omega
  omega
theorem way_ne {d a : Pt} (h : d ≠ a) : way d a ≠ ⟨0, 0⟩ := fun k => h (by rw [Pt.eq_iff] at k ⊢; unfold way at k; simp only at k; omega)
/-- Who is in a triangle, and no corner, is in its circle. -/
theorem in_circ {a b c d : Pt} (h : ori a b c = 1) (hv : vld d = true) (o1 : 0 ≤ ori a b d) (o2 : 0 ≤ ori b c d) (o3 : 0 ≤ ori c a d) (e1 : d ≠ a) (e2 : d ≠ b) (e3 : d ≠ c) : circ a b c d = 1 := by
  have h0 : ¬ ori a b c = 0 := by omega
  obtain ⟨va, vb, vc⟩ := ori_vld h0
  rw [ori_v va vb hv] at o1
  rw [ori_v vb vc hv] at o2
  rw [ori_v vc va hv] at o3
  rw [ori_v va vb vc, sgn_pos] at h
  have p1 := ht_pos (way_ne e1)
  have p2 := ht_pos (way_ne e2)
  have p3 := ht_pos (way_ne e3)
  have i1 : det a b d = cr (way d a) (way d b) := by unfold det cr way; grind
  have i2 : det b c d = cr (way d b) (way d c) := by unfold det cr way; grind
  have i3 : det c a d = cr (way d c) (way d a) := by unfold det cr way; grind
  have i4 : det a b c = cr (way d b) (way d c) + cr (way d c) (way d a) + cr (way d a) (way d b) := by unfold det cr way; grind
  rw [i1] at o1
  rw [i2] at o2
  rw [i3] at o3
  rw [i4] at h
  have hl : 0 < lft a b c d := by
    unfold lft
    generalize way d a = u at *
    generalize way d b = v at *
    generalize way d c = z at *
    have c1 := sgn_cases (cr u v)
    have c2 := sgn_cases (cr v z)
    have c3 := sgn_cases (cr z u)
    have t1 : 0 ≤ ht u * cr v z := Int.mul_nonneg (by omega) (by omega)
    have t2 : 0 ≤ ht v * cr z u := Int.mul_nonneg (by omega) (by omega)
    have t3 : 0 ≤ ht z * cr u v := Int.mul_nonneg (by omega) (by omega)
    by_cases k1 : 0 < cr v z
    · have := Int.mul_pos p1 k1; omega
    · by_cases k2 : 0 < cr z u
      · have := Int.mul_pos p2 k2; omega
      · have := Int.mul_pos p3 (show 0 < cr u v by omega); omega
  rw [circ_main h0 hv e1 e2 e3, sgn_p hl, if_pos (by omega)]
theorem mk_circ {a b c d : Pt} (h0 : ¬ ori a b c = 0) (hh : hasP (mk a b c) d = true) (e1 : d ≠ a) (e2 : d ≠ b) (e3 : d ≠ c) : circ (mk a b c).A (mk a b c).B (mk a b c).C d = 1 := by
  obtain ⟨va, vb, vc⟩ := ori_vld h0
  obtain ⟨d1, d2, d3⟩ := ori_distinct h0
  have n1 : key a ≠ key b := fun h => d1 (key_inj va vb h).symm
  have n2 : key a ≠ key c := fun h => d2 (key_inj va vc h).symm
  have n3 : key b ≠ key c := fun h => d3 (key_inj vb vc h).symm
  have hb := ori_bd a b c
  unfold hasP at hh
  simp only [Bool.and_eq_true, decide_eq_true_eq] at hh
  obtain ⟨_, hv, o1, o2, o3⟩ := hh
  by_cases h1 : ori a b c = 1
  · rw [show mk a b c = mkT a b c by unfold mk; rw [if_neg h0, if_pos h1]] at o1 o2 o3 ⊢
    rcases mkT_rot va vb vc n1 n2 n3 with ⟨_, _, e⟩ | ⟨_, _, e⟩ | ⟨_, _, e⟩ <;> rw [e] at o1 o2 o3 ⊢
    · exact in_circ h1 hv o1 o2 o3 e1 e2 e3
    · exact in_circ (by rw [ori_cyc]; exact h1) hv o1 o2 o3 e2 e3 e1
    · exact in_circ (by rw [← ori_cyc]; exact h1) hv o1 o2 o3 e3 e1 e2
  · have h2 : ori a c b = 1 := by rw [ori_swap2]; omega
    rw [show mk a b c = mkT a c b by unfold mk; rw [if_neg h0, if_neg h1]] at o1 o2 o3 ⊢
    rcases mkT_rot va vc vb n2 n1 n3.symm with ⟨_, _, e⟩ | ⟨_, _, e⟩ | ⟨_, _, e⟩ <;> rw [e] at o1 o2 o3 ⊢
    · exact in_circ h2 hv o1 o2 o3 e1 e3 e2
    · exact in_circ (by rw [ori_cyc]; exact h2) hv o1 o2 o3 e3 e2 e1
    · exact in_circ (by rw [← ori_cyc]; exact h2) hv o1 o2 o3 e2 e1 e3
end Go.Proofs.Ytomdlhdpbdkdhaa
