/- The contracts of package tri's Edge, Cmp, Has, Inside, Twice, over the program. -/
import Derived.Test.YtijdbddjhnjcdaaRows
import Derived.Test.YtijdbddjhnjcdaaStr
import Derived.Test.YtijdbddjhnjcdaaTrA
import Derived.Test.YtijdbddjhnjcdaaPost
import Derived.WalkKit
import Derived.WalkSpells
import Derived.WalkLawsBesides
import Derived.Laws.Externs
import Derived.Deep.QuietTactic
import Derived.BigQuiet
import Derived.Lib.Hide
import Derived.Handy
namespace Go.Proofs.Ytijdbddjhnjcdaa
open Go.RowKit Go.Sort
attribute [local go_sem] rOper rAt rUpon cell_set sg_i64 sg_u64 alloc_cell alloc_frozen
attribute [local go_sem 10000] pt_eql pt_neq tri_eql
attribute [local irreducible] rWalk

set_option maxHeartbeats 1000000 in
theorem edge_any (T : Tri3) (i : Int) (w : World) :
    Calls Try.prog 9 #[.agg #[.int .i64 T.A.x, .int .i64 T.A.y, .int .i64 T.B.x, .int .i64 T.B.y, .int .i64 T.C.x, .int .i64 T.C.y], .int .i64 i] w fun e w' => e = .returned (.tuple #[.agg #[.int .i64 (crn T i).x, .int .i64 (crn T i).y], .agg #[.int .i64 (crn T (i + 1)).x, .int .i64 (crn T (i + 1)).y]]) ∧ Below w.heap.size w w' := by
  have cp := place_any i
  have d1 := corner_any T (plc i)
  have d2 := corner_any T (plc i + 1)
  rw [crn_plc] at d1
  rw [crn_next] at d2
  have hk := plc_cases i
  have hq : wrap64 (plc i + 1) = plc i + 1 := by rw [w64]; omega
  have hq2 : IntKind.i64.wrap (plc i + 1) = plc i + 1 := by rw [IntKind.wrap_i64]; omega
  generalize crn T i = P at *
  generalize crn T (i + 1) = Q at *
  generalize plc i = k at *
  clear hk
  go_enter Try.func9, Try.ntmps9
  go_wp2_with fail
  refine at_call fun W1 hW => ?_
  have Bt : Box W1 (w.heap.size) [.int .i64 T.A.x, .int .i64 T.A.y, .int .i64 T.B.x, .int .i64 T.B.y, .int .i64 T.C.x, .int .i64 T.C.y] 25 := by rw [hW]; exact ((Box.new rfl).old _).old _
  have Br : Box W1 (w.heap.size + 1) [.int .i64 0, .int .i64 0] 23 := by rw [hW]; exact (Box.new (by simp)).old _
  have Bq : Box W1 (w.heap.size + 1 + 1) [.int .i64 0, .int .i64 0] 23 := by rw [hW]; exact Box.new (by simp)
  have hw : Below w.heap.size w W1 := by rw [hW]; go_grown
  clear hW
  refine (cp _).mono ?_
  rintro e w2 ⟨rfl, hb⟩
  replace Bt := Bt.ext hb rfl
  replace Br := Br.ext hb rfl
  replace Bq := Bq.ext hb rfl
  replace hw := hw.trans (hb.mono hw.size)
  clear hb
  obtain ⟨xt, yt, zt, vt⟩ := Bt.facts
  obtain ⟨xr, yr, zr, vr⟩ := Br.facts
  obtain ⟨xq, yq, zq, vq⟩ := Bq.facts
  go_wp2_with fail
  refine at_world fun W9 hW => ?_
  replace hw : Below w.heap.size w W9 := by rw [hW]; exact hw
  replace Bt : Box W9 (w.heap.size) [.int .i64 T.A.x, .int .i64 T.A.y, .int .i64 T.B.x, .int .i64 T.B.y, .int .i64 T.C.x, .int .i64 T.C.y] 25 := by rw [hW]; exact Bt
  replace Br : Box W9 (w.heap.size + 1) [.int .i64 0, .int .i64 0] 23 := by rw [hW]; exact Br
  replace Bq : Box W9 (w.heap.size + 1 + 1) [.int .i64 0, .int .i64 0] 23 := by rw [hW]; exact Bq
  clear hW
  clear xt yt zt vt xr yr zr vr xq yq zq vq
  have gt := Bt.cells
  have gr := Br.cells
  have gq := Bq.cells
  refine rgn 7 (fun w3 hb => ?_)
  clear gt gr gq
  replace Bt := Bt.ext hb rfl
  replace Br := Br.ext hb rfl
  replace Bq := Bq.ext hb rfl
  replace hw := hw.trans (hb.mono hw.size)
  obtain ⟨xt, yt, zt, vt⟩ := Bt.facts
  obtain ⟨xr, yr, zr, vr⟩ := Br.facts
  obtain ⟨xq, yq, zq, vq⟩ := Bq.facts
  go_wp2_with fail
  refine bodyPost_ret (v := .tuple #[.agg #[.int .i64 P.x, .int .i64 P.y], .agg #[.int .i64 Q.x, .int .i64 Q.y]]) (by simp [results, Try.results9, go_sem, xr, xq]) rfl ⟨rfl, by have hl := hw.size; go_grown⟩

def mn3 (x y z : Int) : Int := if z < (if y < x then y else x) then z else (if y < x then y else x)
theorem run_mn3 {P : Program} (w : World) (ts : Array TypeId) (t : TypeId) (k k' k'' : IntKind) (x y z : Int) : (Builtin.min_ ts t #[.int k x, .int k' y, .int k'' z]).run P w = .ok (.int k (mn3 x y z)) w := run_min_int3 w ts t k k' k'' x y z
attribute [local go_sem 10000] run_mn3
def sde (T : Tri3) (p : Pt) : Int := mn3 (ori T.A T.B p) (ori T.B T.C p) (ori T.C T.A p)
set_option maxHeartbeats 1000000 in
theorem side_any (T : Tri3) (p : Pt) (w : World) :
    Calls Try.prog 25 #[.agg #[.int .i64 T.A.x, .int .i64 T.A.y, .int .i64 T.B.x, .int .i64 T.B.y, .int .i64 T.C.x, .int .i64 T.C.y], .agg #[.int .i64 p.x, .int .i64 p.y]] w fun e w' => e = .returned (.int .i64 (sde T p)) ∧ Below w.heap.size w w' := by
  unfold sde
  have d1 := orient_any T.A T.B p
  have d2 := orient_any T.B T.C p
  have d3 := orient_any T.C T.A p
  generalize ori T.A T.B p = m at *
  generalize ori T.B T.C p = n at *
  generalize ori T.C T.A p = o at *
  go_enter Try.func25, Try.ntmps25
  go_wp2_with fail
  refine at_world fun W1 hW => ?_
  have Bt : Box W1 (w.heap.size) [.int .i64 T.A.x, .int .i64 T.A.y, .int .i64 T.B.x, .int .i64 T.B.y, .int .i64 T.C.x, .int .i64 T.C.y] 25 := by rw [hW]; exact (Box.new rfl).old _
  have Bp : Box W1 (w.heap.size + 1) [.int .i64 p.x, .int .i64 p.y] 23 := by rw [hW]; exact Box.new (by simp)
  have hw : Below w.heap.size w W1 := by rw [hW]; go_grown
  clear hW
  have gt := Bt.cells
  have gp := Bp.cells
  refine rgn 18 (fun w2 hb => ?_)
  clear gt gp
  replace Bt := Bt.ext hb rfl
  replace Bp := Bp.ext hb rfl
  replace hw := hw.trans (hb.mono hw.size)
  obtain ⟨xt, yt, zt, vt⟩ := Bt.facts
  obtain ⟨xp, yp, zp, vp⟩ := Bp.facts
  go_wp2
  go_ret
  exact ⟨ret_int rfl, by have hl := hw.size; go_grown⟩

def hasS (T : Tri3) (p : Pt) : Bool := valT T && (vld p && decide (0 ≤ sde T p))
def insS (T : Tri3) (p : Pt) : Bool := valT T && decide (0 < sde T p)
theorem has_0 (T : Tri3) (p : Pt) (h0 : valT T = false) (w : World) :
    Calls Try.prog 11 #[.agg #[.int .i64 T.A.x, .int .i64 T.A.y, .int .i64 T.B.x, .int .i64 T.B.y, .int .i64 T.C.x, .int .i64 T.C.y], .agg #[.int .i64 p.x, .int .i64 p.y]] w fun e w' => e = .returned (.bool false) ∧ Below w.heap.size w w' := by
  have c1 := tvalid_any T
  rw [h0] at c1
  clear h0
  go_enter Try.func11, Try.ntmps11
  go_wp2_with fail
  refine at_call fun W1 hW => ?_
  have Bt : Box W1 (w.heap.size) [.int .i64 T.A.x, .int .i64 T.A.y, .int .i64 T.B.x, .int .i64 T.B.y, .int .i64 T.C.x, .int .i64 T.C.y] 25 := by rw [hW]; exact (Box.new rfl).old _
  have Bp : Box W1 (w.heap.size + 1) [.int .i64 p.x, .int .i64 p.y] 23 := by rw [hW]; exact Box.new (by simp)
  have hw : Below w.heap.size w W1 := by rw [hW]; go_grown
  clear hW
  refine (c1 _).mono ?_
  rintro e w2 ⟨rfl, hb⟩
  replace Bt := Bt.ext hb rfl
  replace Bp := Bp.ext hb rfl
  replace hw := hw.trans (hb.mono hw.size)
  clear hb
  obtain ⟨xt, yt, zt, vt⟩ := Bt.facts
  obtain ⟨xp, yp, zp, vp⟩ := Bp.facts
  go_wp2
  go_ret
  exact ⟨rfl, by have hl := hw.size; go_grown⟩

theorem has_1 (T : Tri3) (p : Pt) (h0 : valT T = true) (h1 : vld p = false) (w : World) :
    Calls Try.prog 11 #[.agg #[.int .i64 T.A.x, .int .i64 T.A.y, .int .i64 T.B.x, .int .i64 T.B.y, .int .i64 T.C.x, .int .i64 T.C.y], .agg #[.int .i64 p.x, .int .i64 p.y]] w fun e w' => e = .returned (.bool false) ∧ Below w.heap.size w w' := by
  have c1 := tvalid_any T
  rw [h0] at c1
  clear h0
  have c2 := valid_any p
  rw [h1] at c2
  clear h1
  go_enter Try.func11, Try.ntmps11
  go_wp2_with fail
  refine at_call fun W1 hW => ?_
  have Bt : Box W1 (w.heap.size) [.int .i64 T.A.x, .int .i64 T.A.y, .int .i64 T.B.x, .int .i64 T.B.y, .int .i64 T.C.x, .int .i64 T.C.y] 25 := by rw [hW]; exact (Box.new rfl).old _
  have Bp : Box W1 (w.heap.size + 1) [.int .i64 p.x, .int .i64 p.y] 23 := by rw [hW]; exact Box.new (by simp)
  have hw : Below w.heap.size w W1 := by rw [hW]; go_grown
  clear hW
  refine (c1 _).mono ?_
  rintro e w2 ⟨rfl, hb⟩
  replace Bt := Bt.ext hb rfl
  replace Bp := Bp.ext hb rfl
  replace hw := hw.trans (hb.mono hw.size)
  clear hb
  obtain ⟨xt, yt, zt, vt⟩ := Bt.facts
  obtain ⟨xp, yp, zp, vp⟩ := Bp.facts
  go_wp2_with fail
  refine (c2 _).mono ?_
  rintro e w3 ⟨rfl, hb⟩
  clear xt yt zt vt xp yp zp vp
  replace Bt := Bt.ext hb rfl
  replace Bp := Bp.ext hb rfl
  replace hw := hw.trans (hb.mono hw.size)
  clear hb
  obtain ⟨xt, yt, zt, vt⟩ := Bt.facts
  obtain ⟨xp, yp, zp, vp⟩ := Bp.facts
  go_wp2
  go_ret
  exact ⟨rfl, by have hl := hw.size; go_grown⟩

theorem has_2 (T : Tri3) (p : Pt) (h0 : valT T = true) (h1 : vld p = true) (w : World) :
    Calls Try.prog 11 #[.agg #[.int .i64 T.A.x, .int .i64 T.A.y, .int .i64 T.B.x, .int .i64 T.B.y, .int .i64 T.C.x, .int .i64 T.C.y], .agg #[.int .i64 p.x, .int .i64 p.y]] w fun e w' => e = .returned (.bool (decide (0 ≤ sde T p))) ∧ Below w.heap.size w w' := by
  have c1 := tvalid_any T
  rw [h0] at c1
  clear h0
  have c2 := valid_any p
  rw [h1] at c2
  clear h1
  have c3 := side_any T p
  generalize sde T p = n at *
  go_enter Try.func11, Try.ntmps11
  go_wp2_with fail
  refine at_call fun W1 hW => ?_
  have Bt : Box W1 (w.heap.size) [.int .i64 T.A.x, .int .i64 T.A.y, .int .i64 T.B.x, .int .i64 T.B.y, .int .i64 T.C.x, .int .i64 T.C.y] 25 := by rw [hW]; exact (Box.new rfl).old _
  have Bp : Box W1 (w.heap.size + 1) [.int .i64 p.x, .int .i64 p.y] 23 := by rw [hW]; exact Box.new (by simp)
  have hw : Below w.heap.size w W1 := by rw [hW]; go_grown
  clear hW
  refine (c1 _).mono ?_
  rintro e w2 ⟨rfl, hb⟩
  replace Bt := Bt.ext hb rfl
  replace Bp := Bp.ext hb rfl
  replace hw := hw.trans (hb.mono hw.size)
  clear hb
  obtain ⟨xt, yt, zt, vt⟩ := Bt.facts
  obtain ⟨xp, yp, zp, vp⟩ := Bp.facts
  go_wp2_with fail
  refine (c2 _).mono ?_
  rintro e w3 ⟨rfl, hb⟩
  clear xt yt zt vt xp yp zp vp
  replace Bt := Bt.ext hb rfl
  replace Bp := Bp.ext hb rfl
  replace hw := hw.trans (hb.mono hw.size)
  clear hb
  obtain ⟨xt, yt, zt, vt⟩ := Bt.facts
  obtain ⟨xp, yp, zp, vp⟩ := Bp.facts
  go_wp2_with fail
  refine (c3 _).mono ?_
  rintro e w4 ⟨rfl, hb⟩
  clear xt yt zt vt xp yp zp vp
  replace Bt := Bt.ext hb rfl
  replace Bp := Bp.ext hb rfl
  replace hw := hw.trans (hb.mono hw.size)
  clear hb
  obtain ⟨xt, yt, zt, vt⟩ := Bt.facts
  obtain ⟨xp, yp, zp, vp⟩ := Bp.facts
  go_wp2
  go_ret
  exact ⟨rfl, by have hl := hw.size; go_grown⟩

theorem ins_0 (T : Tri3) (p : Pt) (h0 : valT T = false) (w : World) :
    Calls Try.prog 12 #[.agg #[.int .i64 T.A.x, .int .i64 T.A.y, .int .i64 T.B.x, .int .i64 T.B.y, .int .i64 T.C.x, .int .i64 T.C.y], .agg #[.int .i64 p.x, .int .i64 p.y]] w fun e w' => e = .returned (.bool false) ∧ Below w.heap.size w w' := by
  have c1 := tvalid_any T
  rw [h0] at c1
  clear h0
  go_enter Try.func12, Try.ntmps12
  go_wp2_with fail
  refine at_call fun W1 hW => ?_
  have Bt : Box W1 (w.heap.size) [.int .i64 T.A.x, .int .i64 T.A.y, .int .i64 T.B.x, .int .i64 T.B.y, .int .i64 T.C.x, .int .i64 T.C.y] 25 := by rw [hW]; exact (Box.new rfl).old _
  have Bp : Box W1 (w.heap.size + 1) [.int .i64 p.x, .int .i64 p.y] 23 := by rw [hW]; exact Box.new (by simp)
  have hw : Below w.heap.size w W1 := by rw [hW]; go_grown
  clear hW
  refine (c1 _).mono ?_
  rintro e w2 ⟨rfl, hb⟩
  replace Bt := Bt.ext hb rfl
  replace Bp := Bp.ext hb rfl
  replace hw := hw.trans (hb.mono hw.size)
  clear hb
  obtain ⟨xt, yt, zt, vt⟩ := Bt.facts
  obtain ⟨xp, yp, zp, vp⟩ := Bp.facts
  go_wp2
  go_ret
  exact ⟨rfl, by have hl := hw.size; go_grown⟩

theorem ins_1 (T : Tri3) (p : Pt) (h0 : valT T = true) (w : World) :
    Calls Try.prog 12 #[.agg #[.int .i64 T.A.x, .int .i64 T.A.y, .int .i64 T.B.x, .int .i64 T.B.y, .int .i64 T.C.x, .int .i64 T.C.y], .agg #[.int .i64 p.x, .int .i64 p.y]] w fun e w' => e = .returned (.bool (decide (0 < sde T p))) ∧ Below w.heap.size w w' := by
  have c1 := tvalid_any T
  rw [h0] at c1
  clear h0
  have c2 := side_any T p
  generalize sde T p = n at *
  go_enter Try.func12, Try.ntmps12
  go_wp2_with fail
  refine at_call fun W1 hW => ?_
  have Bt : Box W1 (w.heap.size) [.int .i64 T.A.x, .int .i64 T.A.y, .int .i64 T.B.x, .int .i64 T.B.y, .int .i64 T.C.x, .int .i64 T.C.y] 25 := by rw [hW]; exact (Box.new rfl).old _
  have Bp : Box W1 (w.heap.size + 1) [.int .i64 p.x, .int .i64 p.y] 23 := by rw [hW]; exact Box.new (by simp)
  have hw : Below w.heap.size w W1 := by rw [hW]; go_grown
  clear hW
  refine (c1 _).mono ?_
  rintro e w2 ⟨rfl, hb⟩
  replace Bt := Bt.ext hb rfl
  replace Bp := Bp.ext hb rfl
  replace hw := hw.trans (hb.mono hw.size)
  clear hb
  obtain ⟨xt, yt, zt, vt⟩ := Bt.facts
  obtain ⟨xp, yp, zp, vp⟩ := Bp.facts
  go_wp2_with fail
  refine (c2 _).mono ?_
  rintro e w3 ⟨rfl, hb⟩
  clear xt yt zt vt xp yp zp vp
  replace Bt := Bt.ext hb rfl
  replace Bp := Bp.ext hb rfl
  replace hw := hw.trans (hb.mono hw.size)
  clear hb
  obtain ⟨xt, yt, zt, vt⟩ := Bt.facts
  obtain ⟨xp, yp, zp, vp⟩ := Bp.facts
  go_wp2
  go_ret
  exact ⟨rfl, by have hl := hw.size; go_grown⟩

theorem has_any (T : Tri3) (p : Pt) (w : World) :
    Calls Try.prog 11 #[.agg #[.int .i64 T.A.x, .int .i64 T.A.y, .int .i64 T.B.x, .int .i64 T.B.y, .int .i64 T.C.x, .int .i64 T.C.y], .agg #[.int .i64 p.x, .int .i64 p.y]] w fun e w' => e = .returned (.bool (hasS T p)) ∧ Below w.heap.size w w' := by
  unfold hasS
  cases h0 : valT T with
  | false => exact has_0 T p h0 w
  | true => cases h1 : vld p with
    | false => exact has_1 T p h0 h1 w
    | true => exact has_2 T p h0 h1 w
theorem ins_any (T : Tri3) (p : Pt) (w : World) :
    Calls Try.prog 12 #[.agg #[.int .i64 T.A.x, .int .i64 T.A.y, .int .i64 T.B.x, .int .i64 T.B.y, .int .i64 T.C.x, .int .i64 T.C.y], .agg #[.int .i64 p.x, .int .i64 p.y]] w fun e w' => e = .returned (.bool (insS T p)) ∧ Below w.heap.size w w' := by
  unfold insS
  cases h0 : valT T with
  | false => exact ins_0 T p h0 w
  | true => exact ins_1 T p h0 w
def insP (T : Tri3) (p : Pt) : Bool := valT T && (decide (0 < ori T.A T.B p) && (decide (0 < ori T.B T.C p) && decide (0 < ori T.C T.A p)))
theorem mn3_le {x y z : Int} : (0 ≤ mn3 x y z ↔ 0 ≤ x ∧ 0 ≤ y ∧ 0 ≤ z) ∧ (0 < mn3 x y z ↔ 0 < x ∧ 0 < y ∧ 0 < z) := by unfold mn3; (repeat' split) <;> omega
theorem has_eq (T : Tri3) (p : Pt) : hasS T p = hasP T p := by
  unfold hasS hasP sde
  rw [Bool.eq_iff_iff]
  simp only [Bool.and_eq_true, decide_eq_true_eq, mn3_le.1]
theorem ins_eq (T : Tri3) (p : Pt) : insS T p = insP T p := by
  unfold insS insP sde
  rw [Bool.eq_iff_iff]
  simp only [Bool.and_eq_true, decide_eq_true_eq, mn3_le.2]
end Go.Proofs.Ytijdbddjhnjcdaa
