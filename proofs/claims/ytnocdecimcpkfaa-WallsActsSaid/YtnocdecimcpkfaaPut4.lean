/- Put together: ExG. -/
import Derived.Test.YtnocdecimcpkfaaRows
import Derived.Test.YtnocdecimcpkfaaPut3
import Derived.Test.YtnocdecimcpkfaaPut1
import Derived.WalkKit
import Derived.WalkSpells
import Derived.WalkLawsBesides
import Derived.Laws.Externs
import Derived.Deep.QuietTactic
import Derived.BigQuiet
import Derived.Lib.Hide
import Derived.Handy
namespace Go.Proofs.Ytnocdecimcpkfaa
open Go.RowKit Go.Sort
attribute [local go_sem] rOper rAt rUpon cell_set sg_i64 sg_u64 alloc_cell alloc_frozen
attribute [local go_sem 10000] pt_eql pt_neq
attribute [local irreducible] rWalk

theorem cmpN_bd (a b : Int) : -1 ≤ cmpN a b ∧ cmpN a b ≤ 1 := sgn_bd _
theorem cmpP_bd (p q : Pt) : -1 ≤ cmpP p q ∧ cmpP p q ≤ 1 := by unfold cmpP; split <;> exact sgn_bd _
theorem mul_bd1 {a b : Int} (ha : -1 ≤ a ∧ a ≤ 1) (hb : -1 ≤ b ∧ b ≤ 1) : -1 ≤ a * b ∧ a * b ≤ 1 := by
  have h1 : a = -1 ∨ a = 0 ∨ a = 1 := by omega
  rcases h1 with rfl | rfl | rfl <;> omega
def onS (p a b : Pt) : Bool := vld p && (vld a && (vld b && (decide (ori a b p = 0) && decide (0 ≤ cmpP a p * cmpP p b))))
theorem on_0 (p a b : Pt) (hp : vld p = false) (w : World) :
    Calls Try.prog 46 #[.agg #[.int .i64 p.x, .int .i64 p.y], .agg #[.int .i64 a.x, .int .i64 a.y], .agg #[.int .i64 b.x, .int .i64 b.y]] w fun e w' => e = .returned (.bool false) ∧ Below w.heap.size w w' := by
  have cp := valid_any p
  rw [hp] at cp
  clear hp
  go_enter Try.func46, Try.ntmps46
  go_wp2_with fail
  refine at_call fun W1 hW => ?_
  have Bp : Box W1 (w.heap.size) [.int .i64 p.x, .int .i64 p.y] 33 := by rw [hW]; exact ((Box.new rfl).old _).old _
  have Ba : Box W1 (w.heap.size + 1) [.int .i64 a.x, .int .i64 a.y] 33 := by rw [hW]; exact (Box.new (by simp)).old _
  have Bb : Box W1 (w.heap.size + 1 + 1) [.int .i64 b.x, .int .i64 b.y] 33 := by rw [hW]; exact Box.new (by simp)
  have hw : Below w.heap.size w W1 := by rw [hW]; go_grown
  clear hW
  refine (cp _).mono ?_
  rintro e w2 ⟨rfl, hb⟩
  replace Bp := Bp.ext hb rfl
  replace Ba := Ba.ext hb rfl
  replace Bb := Bb.ext hb rfl
  replace hw := hw.trans (hb.mono hw.size)
  clear hb
  obtain ⟨xp, yp, zp, vp⟩ := Bp.facts
  obtain ⟨xa, ya, za, va⟩ := Ba.facts
  obtain ⟨xb, yb, zb, vb⟩ := Bb.facts
  go_wp2
  go_ret
  exact ⟨rfl, hw⟩

theorem on_1 (p a b : Pt) (hp : vld p = true) (ha : vld a = false) (w : World) :
    Calls Try.prog 46 #[.agg #[.int .i64 p.x, .int .i64 p.y], .agg #[.int .i64 a.x, .int .i64 a.y], .agg #[.int .i64 b.x, .int .i64 b.y]] w fun e w' => e = .returned (.bool false) ∧ Below w.heap.size w w' := by
  have cp := valid_any p
  rw [hp] at cp
  clear hp
  have ca := valid_any a
  rw [ha] at ca
  clear ha
  go_enter Try.func46, Try.ntmps46
  go_wp2_with fail
  refine at_call fun W1 hW => ?_
  have Bp : Box W1 (w.heap.size) [.int .i64 p.x, .int .i64 p.y] 33 := by rw [hW]; exact ((Box.new rfl).old _).old _
  have Ba : Box W1 (w.heap.size + 1) [.int .i64 a.x, .int .i64 a.y] 33 := by rw [hW]; exact (Box.new (by simp)).old _
  have Bb : Box W1 (w.heap.size + 1 + 1) [.int .i64 b.x, .int .i64 b.y] 33 := by rw [hW]; exact Box.new (by simp)
  have hw : Below w.heap.size w W1 := by rw [hW]; go_grown
  clear hW
  refine (cp _).mono ?_
  rintro e w2 ⟨rfl, hb⟩
  replace Bp := Bp.ext hb rfl
  replace Ba := Ba.ext hb rfl
  replace Bb := Bb.ext hb rfl
  replace hw := hw.trans (hb.mono hw.size)
  clear hb
  obtain ⟨xp, yp, zp, vp⟩ := Bp.facts
  obtain ⟨xa, ya, za, va⟩ := Ba.facts
  obtain ⟨xb, yb, zb, vb⟩ := Bb.facts
  go_wp2_with fail
  refine (ca _).mono ?_
  rintro e w3 ⟨rfl, hb⟩
  clear xp yp zp vp xa ya za va xb yb zb vb
  replace Bp := Bp.ext hb rfl
  replace Ba := Ba.ext hb rfl
  replace Bb := Bb.ext hb rfl
  replace hw := hw.trans (hb.mono hw.size)
  clear hb
  obtain ⟨xp, yp, zp, vp⟩ := Bp.facts
  obtain ⟨xa, ya, za, va⟩ := Ba.facts
  obtain ⟨xb, yb, zb, vb⟩ := Bb.facts
  go_wp2
  go_ret
  exact ⟨rfl, hw⟩

theorem on_2 (p a b : Pt) (hp : vld p = true) (ha : vld a = true) (hb : vld b = false) (w : World) :
    Calls Try.prog 46 #[.agg #[.int .i64 p.x, .int .i64 p.y], .agg #[.int .i64 a.x, .int .i64 a.y], .agg #[.int .i64 b.x, .int .i64 b.y]] w fun e w' => e = .returned (.bool false) ∧ Below w.heap.size w w' := by
  have cp := valid_any p
  rw [hp] at cp
  clear hp
  have ca := valid_any a
  rw [ha] at ca
  clear ha
  have cb := valid_any b
  rw [hb] at cb
  clear hb
  go_enter Try.func46, Try.ntmps46
  go_wp2_with fail
  refine at_call fun W1 hW => ?_
  have Bp : Box W1 (w.heap.size) [.int .i64 p.x, .int .i64 p.y] 33 := by rw [hW]; exact ((Box.new rfl).old _).old _
  have Ba : Box W1 (w.heap.size + 1) [.int .i64 a.x, .int .i64 a.y] 33 := by rw [hW]; exact (Box.new (by simp)).old _
  have Bb : Box W1 (w.heap.size + 1 + 1) [.int .i64 b.x, .int .i64 b.y] 33 := by rw [hW]; exact Box.new (by simp)
  have hw : Below w.heap.size w W1 := by rw [hW]; go_grown
  clear hW
  refine (cp _).mono ?_
  rintro e w2 ⟨rfl, hb⟩
  replace Bp := Bp.ext hb rfl
  replace Ba := Ba.ext hb rfl
  replace Bb := Bb.ext hb rfl
  replace hw := hw.trans (hb.mono hw.size)
  clear hb
  obtain ⟨xp, yp, zp, vp⟩ := Bp.facts
  obtain ⟨xa, ya, za, va⟩ := Ba.facts
  obtain ⟨xb, yb, zb, vb⟩ := Bb.facts
  go_wp2_with fail
  refine (ca _).mono ?_
  rintro e w3 ⟨rfl, hb⟩
  clear xp yp zp vp xa ya za va xb yb zb vb
  replace Bp := Bp.ext hb rfl
  replace Ba := Ba.ext hb rfl
  replace Bb := Bb.ext hb rfl
  replace hw := hw.trans (hb.mono hw.size)
  clear hb
  obtain ⟨xp, yp, zp, vp⟩ := Bp.facts
  obtain ⟨xa, ya, za, va⟩ := Ba.facts
  obtain ⟨xb, yb, zb, vb⟩ := Bb.facts
  go_wp2_with fail
  refine (cb _).mono ?_
  rintro e w4 ⟨rfl, hb⟩
  clear xp yp zp vp xa ya za va xb yb zb vb
  replace Bp := Bp.ext hb rfl
  replace Ba := Ba.ext hb rfl
  replace Bb := Bb.ext hb rfl
  replace hw := hw.trans (hb.mono hw.size)
  clear hb
  obtain ⟨xp, yp, zp, vp⟩ := Bp.facts
  obtain ⟨xa, ya, za, va⟩ := Ba.facts
  obtain ⟨xb, yb, zb, vb⟩ := Bb.facts
  go_wp2
  go_ret
  exact ⟨rfl, hw⟩

theorem on_3 (p a b : Pt) (hp : vld p = true) (ha : vld a = true) (hb : vld b = true) (h0 : ¬ ori a b p = 0) (w : World) :
    Calls Try.prog 46 #[.agg #[.int .i64 p.x, .int .i64 p.y], .agg #[.int .i64 a.x, .int .i64 a.y], .agg #[.int .i64 b.x, .int .i64 b.y]] w fun e w' => e = .returned (.bool false) ∧ Below w.heap.size w w' := by
  have cp := valid_any p
  rw [hp] at cp
  clear hp
  have ca := valid_any a
  rw [ha] at ca
  clear ha
  have cb := valid_any b
  rw [hb] at cb
  clear hb
  have co := orient_any a b p
  generalize ori a b p = o at *
  have t0 : (o == 0) = false := by simpa using h0
  clear h0
  go_enter Try.func46, Try.ntmps46
  go_wp2_with fail
  refine at_call fun W1 hW => ?_
  have Bp : Box W1 (w.heap.size) [.int .i64 p.x, .int .i64 p.y] 33 := by rw [hW]; exact ((Box.new rfl).old _).old _
  have Ba : Box W1 (w.heap.size + 1) [.int .i64 a.x, .int .i64 a.y] 33 := by rw [hW]; exact (Box.new (by simp)).old _
  have Bb : Box W1 (w.heap.size + 1 + 1) [.int .i64 b.x, .int .i64 b.y] 33 := by rw [hW]; exact Box.new (by simp)
  have hw : Below w.heap.size w W1 := by rw [hW]; go_grown
  clear hW
  refine (cp _).mono ?_
  rintro e w2 ⟨rfl, hb⟩
  replace Bp := Bp.ext hb rfl
  replace Ba := Ba.ext hb rfl
  replace Bb := Bb.ext hb rfl
  replace hw := hw.trans (hb.mono hw.size)
  clear hb
  obtain ⟨xp, yp, zp, vp⟩ := Bp.facts
  obtain ⟨xa, ya, za, va⟩ := Ba.facts
  obtain ⟨xb, yb, zb, vb⟩ := Bb.facts
  go_wp2_with fail
  refine (ca _).mono ?_
  rintro e w3 ⟨rfl, hb⟩
  clear xp yp zp vp xa ya za va xb yb zb vb
  replace Bp := Bp.ext hb rfl
  replace Ba := Ba.ext hb rfl
  replace Bb := Bb.ext hb rfl
  replace hw := hw.trans (hb.mono hw.size)
  clear hb
  obtain ⟨xp, yp, zp, vp⟩ := Bp.facts
  obtain ⟨xa, ya, za, va⟩ := Ba.facts
  obtain ⟨xb, yb, zb, vb⟩ := Bb.facts
  go_wp2_with fail
  refine (cb _).mono ?_
  rintro e w4 ⟨rfl, hb⟩
  clear xp yp zp vp xa ya za va xb yb zb vb
  replace Bp := Bp.ext hb rfl
  replace Ba := Ba.ext hb rfl
  replace Bb := Bb.ext hb rfl
  replace hw := hw.trans (hb.mono hw.size)
  clear hb
  obtain ⟨xp, yp, zp, vp⟩ := Bp.facts
  obtain ⟨xa, ya, za, va⟩ := Ba.facts
  obtain ⟨xb, yb, zb, vb⟩ := Bb.facts
  go_wp2
  refine at_world fun W9 hW => ?_
  replace hw : Below w.heap.size w W9 := by rw [hW]; exact hw
  replace Bp : Box W9 (w.heap.size) [.int .i64 p.x, .int .i64 p.y] 33 := by rw [hW]; exact Bp
  replace Ba : Box W9 (w.heap.size + 1) [.int .i64 a.x, .int .i64 a.y] 33 := by rw [hW]; exact Ba
  replace Bb : Box W9 (w.heap.size + 1 + 1) [.int .i64 b.x, .int .i64 b.y] 33 := by rw [hW]; exact Bb
  clear hW
  clear xp yp zp vp xa ya za va xb yb zb vb
  have gp := Bp.cells
  have ga := Ba.cells
  have gb := Bb.cells
  refine wp_region_tail 15 (by kernel_rfl) (by kernel_rfl) (C := fun w' => ∃ p : Regrown, w' = grow (redrawn W9 p.d) p.os) (fun w' h => regrown_of_below h) ?_
  simp only [List.take_succ_cons, List.take_zero, List.drop_succ_cons, List.drop_zero]
  repeat (first | (refine rWalk_skip (Eq.refl false) ?_; simp only [Act.put, List.setIfInBounds_toArray, List.set_cons_succ, List.set_cons_zero]) | (refine rWalk_step (fun K hK => ?_); go_simp; first | (refine hK _ ?_; clear hK K) | (apply Exists.intro; refine ⟨fun _ => ?_, hK _ ?_⟩; (first | with_reducible exact toExt co _); clear hK K)))
  refine rWalk_nil ?_
  intro w5 hb
  clear gp ga gb
  replace Bp := Bp.ext hb rfl
  replace Ba := Ba.ext hb rfl
  replace Bb := Bb.ext hb rfl
  replace hw := hw.trans (hb.mono hw.size)
  go_wp2
  go_ret
  exact ⟨rfl, hw⟩

theorem on_4 (p a b : Pt) (hp : vld p = true) (ha : vld a = true) (hb : vld b = true) (h0 : ori a b p = 0) (w : World) :
    Calls Try.prog 46 #[.agg #[.int .i64 p.x, .int .i64 p.y], .agg #[.int .i64 a.x, .int .i64 a.y], .agg #[.int .i64 b.x, .int .i64 b.y]] w fun e w' => e = .returned (.bool (decide (0 ≤ cmpP a p * cmpP p b))) ∧ Below w.heap.size w w' := by
  have cp := valid_any p
  rw [hp] at cp
  clear hp
  have ca := valid_any a
  rw [ha] at ca
  clear ha
  have cb := valid_any b
  rw [hb] at cb
  clear hb
  have co := orient_any a b p
  rw [h0] at co
  have c1 := cmp_pt a p
  have c2 := cmp_pt p b
  have q := mul_bd1 (cmpP_bd a p) (cmpP_bd p b)
  generalize cmpP a p = x at *
  generalize cmpP p b = y at *
  have ew : IntKind.i64.wrap (x * y) = x * y := by rw [IntKind.wrap_i64]; omega
  clear h0 q
  go_enter Try.func46, Try.ntmps46
  go_wp2_with fail
  refine at_call fun W1 hW => ?_
  have Bp : Box W1 (w.heap.size) [.int .i64 p.x, .int .i64 p.y] 33 := by rw [hW]; exact ((Box.new rfl).old _).old _
  have Ba : Box W1 (w.heap.size + 1) [.int .i64 a.x, .int .i64 a.y] 33 := by rw [hW]; exact (Box.new (by simp)).old _
  have Bb : Box W1 (w.heap.size + 1 + 1) [.int .i64 b.x, .int .i64 b.y] 33 := by rw [hW]; exact Box.new (by simp)
  have hw : Below w.heap.size w W1 := by rw [hW]; go_grown
  clear hW
  refine (cp _).mono ?_
  rintro e w2 ⟨rfl, hb⟩
  replace Bp := Bp.ext hb rfl
  replace Ba := Ba.ext hb rfl
  replace Bb := Bb.ext hb rfl
  replace hw := hw.trans (hb.mono hw.size)
  clear hb
  obtain ⟨xp, yp, zp, vp⟩ := Bp.facts
  obtain ⟨xa, ya, za, va⟩ := Ba.facts
  obtain ⟨xb, yb, zb, vb⟩ := Bb.facts
  go_wp2_with fail
  refine (ca _).mono ?_
  rintro e w3 ⟨rfl, hb⟩
  clear xp yp zp vp xa ya za va xb yb zb vb
  replace Bp := Bp.ext hb rfl
  replace Ba := Ba.ext hb rfl
  replace Bb := Bb.ext hb rfl
  replace hw := hw.trans (hb.mono hw.size)
  clear hb
  obtain ⟨xp, yp, zp, vp⟩ := Bp.facts
  obtain ⟨xa, ya, za, va⟩ := Ba.facts
  obtain ⟨xb, yb, zb, vb⟩ := Bb.facts
  go_wp2_with fail
  refine (cb _).mono ?_
  rintro e w4 ⟨rfl, hb⟩
  clear xp yp zp vp xa ya za va xb yb zb vb
  replace Bp := Bp.ext hb rfl
  replace Ba := Ba.ext hb rfl
  replace Bb := Bb.ext hb rfl
  replace hw := hw.trans (hb.mono hw.size)
  clear hb
  obtain ⟨xp, yp, zp, vp⟩ := Bp.facts
  obtain ⟨xa, ya, za, va⟩ := Ba.facts
  obtain ⟨xb, yb, zb, vb⟩ := Bb.facts
  go_wp2
  refine at_world fun W9 hW => ?_
  replace hw : Below w.heap.size w W9 := by rw [hW]; exact hw
  replace Bp : Box W9 (w.heap.size) [.int .i64 p.x, .int .i64 p.y] 33 := by rw [hW]; exact Bp
  replace Ba : Box W9 (w.heap.size + 1) [.int .i64 a.x, .int .i64 a.y] 33 := by rw [hW]; exact Ba
  replace Bb : Box W9 (w.heap.size + 1 + 1) [.int .i64 b.x, .int .i64 b.y] 33 := by rw [hW]; exact Bb
  clear hW
  clear xp yp zp vp xa ya za va xb yb zb vb
  have gp := Bp.cells
  have ga := Ba.cells
  have gb := Bb.cells
  refine wp_region_tail 15 (by kernel_rfl) (by kernel_rfl) (C := fun w' => ∃ p : Regrown, w' = grow (redrawn W9 p.d) p.os) (fun w' h => regrown_of_below h) ?_
  simp only [List.take_succ_cons, List.take_zero, List.drop_succ_cons, List.drop_zero]
  repeat (first | (refine rWalk_skip (Eq.refl false) ?_; simp only [Act.put, List.setIfInBounds_toArray, List.set_cons_succ, List.set_cons_zero]) | (refine rWalk_step (fun K hK => ?_); go_simp; first | (refine hK _ ?_; clear hK K) | (apply Exists.intro; refine ⟨fun _ => ?_, hK _ ?_⟩; (first | with_reducible exact toExt co _ | with_reducible exact toExt c1 _ | with_reducible exact toExt c2 _); clear hK K)))
  refine rWalk_nil ?_
  intro w5 hb
  clear gp ga gb
  replace Bp := Bp.ext hb rfl
  replace Ba := Ba.ext hb rfl
  replace Bb := Bb.ext hb rfl
  replace hw := hw.trans (hb.mono hw.size)
  go_wp2
  go_ret
  exact ⟨rfl, hw⟩

theorem on_any (p a b : Pt) (w : World) :
    Calls Try.prog 46 #[.agg #[.int .i64 p.x, .int .i64 p.y], .agg #[.int .i64 a.x, .int .i64 a.y], .agg #[.int .i64 b.x, .int .i64 b.y]] w fun e w' => e = .returned (.bool (onS p a b)) ∧ Below w.heap.size w w' := by
  cases hp : vld p with
  | false => rw [show onS p a b = false by unfold onS; rw [hp]; rfl]; exact on_0 p a b hp w
  | true => cases ha : vld a with
    | false => rw [show onS p a b = false by unfold onS; rw [hp, ha]; rfl]; exact on_1 p a b hp ha w
    | true => cases hb : vld b with
      | false => rw [show onS p a b = false by unfold onS; rw [hp, ha, hb]; rfl]; exact on_2 p a b hp ha hb w
      | true =>
        by_cases h0 : ori a b p = 0
        · rw [show onS p a b = decide (0 ≤ cmpP a p * cmpP p b) by unfold onS; rw [hp, ha, hb, h0]; rfl]; exact on_4 p a b hp ha hb h0 w
        · rw [show onS p a b = false by unfold onS; rw [hp, ha, hb]; simp [h0]]; exact on_3 p a b hp ha hb h0 w
def lo2 (p q : Pt) : Pt := if cmpP q p < 0 then q else p
def hi2 (p q : Pt) : Pt := if cmpP q p < 0 then p else q
def mil (a b c d : Pt) : Int := if cmpP (lo2 a b) (hi2 c d) < 0 then (if cmpP (lo2 c d) (hi2 a b) < 0 then 3 else 0) else 0
theorem mil_000 (a b c d : Pt) (g1 : decide (cmpP b a < 0) = false) (g2 : decide (cmpP d c < 0) = false) (g3 : decide (cmpP a d < 0) = false) (w : World) :
    Calls Try.prog 88 #[.agg #[.int .i64 a.x, .int .i64 a.y], .agg #[.int .i64 b.x, .int .i64 b.y], .agg #[.int .i64 c.x, .int .i64 c.y], .agg #[.int .i64 d.x, .int .i64 d.y]] w fun e w' => e = .returned (.int .i64 0) ∧ Below w.heap.size w w' := by
  have k1 := cmp_pt b a
  have k2 := cmp_pt d c
  have k3 := cmp_pt a d
  generalize cmpP b a = x0 at *
  generalize cmpP d c = x1 at *
  generalize cmpP a d = x2 at *
  go_enter Try.func88, Try.ntmps88
  go_wp2_with fail
  refine at_call fun W1 hW => ?_
  have Ba : Box W1 (w.heap.size) [.int .i64 a.x, .int .i64 a.y] 33 := by rw [hW]; exact (((Box.new rfl).old _).old _).old _
  have Bb : Box W1 (w.heap.size + 1) [.int .i64 b.x, .int .i64 b.y] 33 := by rw [hW]; exact ((Box.new (by simp)).old _).old _
  have Bc : Box W1 (w.heap.size + 1 + 1) [.int .i64 c.x, .int .i64 c.y] 33 := by rw [hW]; exact (Box.new (by simp)).old _
  have Bd : Box W1 (w.heap.size + 1 + 1 + 1) [.int .i64 d.x, .int .i64 d.y] 33 := by rw [hW]; exact Box.new (by simp)
  have hw : Below w.heap.size w W1 := by rw [hW]; go_grown
  clear hW
  refine (k1 _).mono ?_
  rintro e w2 ⟨rfl, hb⟩
  replace Ba := Ba.ext hb rfl
  replace Bb := Bb.ext hb rfl
  replace Bc := Bc.ext hb rfl
  replace Bd := Bd.ext hb rfl
  replace hw := hw.trans (hb.mono hw.size)
  clear hb
  obtain ⟨xa, ya, za, va⟩ := Ba.facts
  obtain ⟨xb, yb, zb, vb⟩ := Bb.facts
  obtain ⟨xc, yc, zc, vc⟩ := Bc.facts
  obtain ⟨xd, yd, zd, vd⟩ := Bd.facts
  go_wp2_with fail
  refine (k2 _).mono ?_
  rintro e w3 ⟨rfl, hb⟩
  clear xa ya za va xb yb zb vb xc yc zc vc xd yd zd vd
  replace Ba := Ba.ext hb rfl
  replace Bb := Bb.ext hb rfl
  replace Bc := Bc.ext hb rfl
  replace Bd := Bd.ext hb rfl
  replace hw := hw.trans (hb.mono hw.size)
  clear hb
  obtain ⟨xa, ya, za, va⟩ := Ba.facts
  obtain ⟨xb, yb, zb, vb⟩ := Bb.facts
  obtain ⟨xc, yc, zc, vc⟩ := Bc.facts
  obtain ⟨xd, yd, zd, vd⟩ := Bd.facts
  go_wp2_with fail
  refine (k3 _).mono ?_
  rintro e w4 ⟨rfl, hb⟩
  clear xa ya za va xb yb zb vb xc yc zc vc xd yd zd vd
  replace Ba := Ba.ext hb rfl
  replace Bb := Bb.ext hb rfl
  replace Bc := Bc.ext hb rfl
  replace Bd := Bd.ext hb rfl
  replace hw := hw.trans (hb.mono hw.size)
  clear hb
  go_wp2
  go_ret
  exact ⟨rfl, hw⟩

theorem mil_001 (a b c d : Pt) (g1 : decide (cmpP b a < 0) = false) (g2 : decide (cmpP d c < 0) = false) (g3 : decide (cmpP a d < 0) = true) (g4 : decide (cmpP c b < 0) = false) (w : World) :
    Calls Try.prog 88 #[.agg #[.int .i64 a.x, .int .i64 a.y], .agg #[.int .i64 b.x, .int .i64 b.y], .agg #[.int .i64 c.x, .int .i64 c.y], .agg #[.int .i64 d.x, .int .i64 d.y]] w fun e w' => e = .returned (.int .i64 0) ∧ Below w.heap.size w w' := by
  have k1 := cmp_pt b a
  have k2 := cmp_pt d c
  have k3 := cmp_pt a d
  have k4 := cmp_pt c b
  generalize cmpP b a = x0 at *
  generalize cmpP d c = x1 at *
  generalize cmpP a d = x2 at *
  generalize cmpP c b = x3 at *
  go_enter Try.func88, Try.ntmps88
  go_wp2_with fail
  refine at_call fun W1 hW => ?_
  have Ba : Box W1 (w.heap.size) [.int .i64 a.x, .int .i64 a.y] 33 := by rw [hW]; exact (((Box.new rfl).old _).old _).old _
  have Bb : Box W1 (w.heap.size + 1) [.int .i64 b.x, .int .i64 b.y] 33 := by rw [hW]; exact ((Box.new (by simp)).old _).old _
  have Bc : Box W1 (w.heap.size + 1 + 1) [.int .i64 c.x, .int .i64 c.y] 33 := by rw [hW]; exact (Box.new (by simp)).old _
  have Bd : Box W1 (w.heap.size + 1 + 1 + 1) [.int .i64 d.x, .int .i64 d.y] 33 := by rw [hW]; exact Box.new (by simp)
  have hw : Below w.heap.size w W1 := by rw [hW]; go_grown
  clear hW
  refine (k1 _).mono ?_
  rintro e w2 ⟨rfl, hb⟩
  replace Ba := Ba.ext hb rfl
  replace Bb := Bb.ext hb rfl
  replace Bc := Bc.ext hb rfl
  replace Bd := Bd.ext hb rfl
  replace hw := hw.trans (hb.mono hw.size)
  clear hb
  obtain ⟨xa, ya, za, va⟩ := Ba.facts
  obtain ⟨xb, yb, zb, vb⟩ := Bb.facts
  obtain ⟨xc, yc, zc, vc⟩ := Bc.facts
  obtain ⟨xd, yd, zd, vd⟩ := Bd.facts
  go_wp2_with fail
  refine (k2 _).mono ?_
  rintro e w3 ⟨rfl, hb⟩
  clear xa ya za va xb yb zb vb xc yc zc vc xd yd zd vd
  replace Ba := Ba.ext hb rfl
  replace Bb := Bb.ext hb rfl
  replace Bc := Bc.ext hb rfl
  replace Bd := Bd.ext hb rfl
  replace hw := hw.trans (hb.mono hw.size)
  clear hb
  obtain ⟨xa, ya, za, va⟩ := Ba.facts
  obtain ⟨xb, yb, zb, vb⟩ := Bb.facts
  obtain ⟨xc, yc, zc, vc⟩ := Bc.facts
  obtain ⟨xd, yd, zd, vd⟩ := Bd.facts
  go_wp2_with fail
  refine (k3 _).mono ?_
  rintro e w4 ⟨rfl, hb⟩
  clear xa ya za va xb yb zb vb xc yc zc vc xd yd zd vd
  replace Ba := Ba.ext hb rfl
  replace Bb := Bb.ext hb rfl
  replace Bc := Bc.ext hb rfl
  replace Bd := Bd.ext hb rfl
  replace hw := hw.trans (hb.mono hw.size)
  clear hb
  obtain ⟨xa, ya, za, va⟩ := Ba.facts
  obtain ⟨xb, yb, zb, vb⟩ := Bb.facts
  obtain ⟨xc, yc, zc, vc⟩ := Bc.facts
  obtain ⟨xd, yd, zd, vd⟩ := Bd.facts
  go_wp2_with fail
  refine (k4 _).mono ?_
  rintro e w5 ⟨rfl, hb⟩
  clear xa ya za va xb yb zb vb xc yc zc vc xd yd zd vd
  replace Ba := Ba.ext hb rfl
  replace Bb := Bb.ext hb rfl
  replace Bc := Bc.ext hb rfl
  replace Bd := Bd.ext hb rfl
  replace hw := hw.trans (hb.mono hw.size)
  clear hb
  go_wp2
  go_ret
  exact ⟨rfl, hw⟩

theorem mil_002 (a b c d : Pt) (g1 : decide (cmpP b a < 0) = false) (g2 : decide (cmpP d c < 0) = false) (g3 : decide (cmpP a d < 0) = true) (g4 : decide (cmpP c b < 0) = true) (w : World) :
    Calls Try.prog 88 #[.agg #[.int .i64 a.x, .int .i64 a.y], .agg #[.int .i64 b.x, .int .i64 b.y], .agg #[.int .i64 c.x, .int .i64 c.y], .agg #[.int .i64 d.x, .int .i64 d.y]] w fun e w' => e = .returned (.int .i64 3) ∧ Below w.heap.size w w' := by
  have k1 := cmp_pt b a
  have k2 := cmp_pt d c
  have k3 := cmp_pt a d
  have k4 := cmp_pt c b
  generalize cmpP b a = x0 at *
  generalize cmpP d c = x1 at *
  generalize cmpP a d = x2 at *
  generalize cmpP c b = x3 at *
  go_enter Try.func88, Try.ntmps88
  go_wp2_with fail
  refine at_call fun W1 hW => ?_
  have Ba : Box W1 (w.heap.size) [.int .i64 a.x, .int .i64 a.y] 33 := by rw [hW]; exact (((Box.new rfl).old _).old _).old _
  have Bb : Box W1 (w.heap.size + 1) [.int .i64 b.x, .int .i64 b.y] 33 := by rw [hW]; exact ((Box.new (by simp)).old _).old _
  have Bc : Box W1 (w.heap.size + 1 + 1) [.int .i64 c.x, .int .i64 c.y] 33 := by rw [hW]; exact (Box.new (by simp)).old _
  have Bd : Box W1 (w.heap.size + 1 + 1 + 1) [.int .i64 d.x, .int .i64 d.y] 33 := by rw [hW]; exact Box.new (by simp)
  have hw : Below w.heap.size w W1 := by rw [hW]; go_grown
  clear hW
  refine (k1 _).mono ?_
  rintro e w2 ⟨rfl, hb⟩
  replace Ba := Ba.ext hb rfl
  replace Bb := Bb.ext hb rfl
  replace Bc := Bc.ext hb rfl
  replace Bd := Bd.ext hb rfl
  replace hw := hw.trans (hb.mono hw.size)
  clear hb
  obtain ⟨xa, ya, za, va⟩ := Ba.facts
  obtain ⟨xb, yb, zb, vb⟩ := Bb.facts
  obtain ⟨xc, yc, zc, vc⟩ := Bc.facts
  obtain ⟨xd, yd, zd, vd⟩ := Bd.facts
  go_wp2_with fail
  refine (k2 _).mono ?_
  rintro e w3 ⟨rfl, hb⟩
  clear xa ya za va xb yb zb vb xc yc zc vc xd yd zd vd
  replace Ba := Ba.ext hb rfl
  replace Bb := Bb.ext hb rfl
  replace Bc := Bc.ext hb rfl
  replace Bd := Bd.ext hb rfl
  replace hw := hw.trans (hb.mono hw.size)
  clear hb
  obtain ⟨xa, ya, za, va⟩ := Ba.facts
  obtain ⟨xb, yb, zb, vb⟩ := Bb.facts
  obtain ⟨xc, yc, zc, vc⟩ := Bc.facts
  obtain ⟨xd, yd, zd, vd⟩ := Bd.facts
  go_wp2_with fail
  refine (k3 _).mono ?_
  rintro e w4 ⟨rfl, hb⟩
  clear xa ya za va xb yb zb vb xc yc zc vc xd yd zd vd
  replace Ba := Ba.ext hb rfl
  replace Bb := Bb.ext hb rfl
  replace Bc := Bc.ext hb rfl
  replace Bd := Bd.ext hb rfl
  replace hw := hw.trans (hb.mono hw.size)
  clear hb
  obtain ⟨xa, ya, za, va⟩ := Ba.facts
  obtain ⟨xb, yb, zb, vb⟩ := Bb.facts
  obtain ⟨xc, yc, zc, vc⟩ := Bc.facts
  obtain ⟨xd, yd, zd, vd⟩ := Bd.facts
  go_wp2_with fail
  refine (k4 _).mono ?_
  rintro e w5 ⟨rfl, hb⟩
  clear xa ya za va xb yb zb vb xc yc zc vc xd yd zd vd
  replace Ba := Ba.ext hb rfl
  replace Bb := Bb.ext hb rfl
  replace Bc := Bc.ext hb rfl
  replace Bd := Bd.ext hb rfl
  replace hw := hw.trans (hb.mono hw.size)
  clear hb
  go_wp2
  go_ret
  exact ⟨rfl, hw⟩

theorem mil_010 (a b c d : Pt) (g1 : decide (cmpP b a < 0) = false) (g2 : decide (cmpP d c < 0) = true) (g3 : decide (cmpP a c < 0) = false) (w : World) :
    Calls Try.prog 88 #[.agg #[.int .i64 a.x, .int .i64 a.y], .agg #[.int .i64 b.x, .int .i64 b.y], .agg #[.int .i64 c.x, .int .i64 c.y], .agg #[.int .i64 d.x, .int .i64 d.y]] w fun e w' => e = .returned (.int .i64 0) ∧ Below w.heap.size w w' := by
  have k1 := cmp_pt b a
  have k2 := cmp_pt d c
  have k3 := cmp_pt a c
  generalize cmpP b a = x0 at *
  generalize cmpP d c = x1 at *
  generalize cmpP a c = x2 at *
  go_enter Try.func88, Try.ntmps88
  go_wp2_with fail
  refine at_call fun W1 hW => ?_
  have Ba : Box W1 (w.heap.size) [.int .i64 a.x, .int .i64 a.y] 33 := by rw [hW]; exact (((Box.new rfl).old _).old _).old _
  have Bb : Box W1 (w.heap.size + 1) [.int .i64 b.x, .int .i64 b.y] 33 := by rw [hW]; exact ((Box.new (by simp)).old _).old _
  have Bc : Box W1 (w.heap.size + 1 + 1) [.int .i64 c.x, .int .i64 c.y] 33 := by rw [hW]; exact (Box.new (by simp)).old _
  have Bd : Box W1 (w.heap.size + 1 + 1 + 1) [.int .i64 d.x, .int .i64 d.y] 33 := by rw [hW]; exact Box.new (by simp)
  have hw : Below w.heap.size w W1 := by rw [hW]; go_grown
  clear hW
  refine (k1 _).mono ?_
  rintro e w2 ⟨rfl, hb⟩
  replace Ba := Ba.ext hb rfl
  replace Bb := Bb.ext hb rfl
  replace Bc := Bc.ext hb rfl
  replace Bd := Bd.ext hb rfl
  replace hw := hw.trans (hb.mono hw.size)
  clear hb
  obtain ⟨xa, ya, za, va⟩ := Ba.facts
  obtain ⟨xb, yb, zb, vb⟩ := Bb.facts
  obtain ⟨xc, yc, zc, vc⟩ := Bc.facts
  obtain ⟨xd, yd, zd, vd⟩ := Bd.facts
  go_wp2_with fail
  refine (k2 _).mono ?_
  rintro e w3 ⟨rfl, hb⟩
  clear xa ya za va xb yb zb vb xc yc zc vc xd yd zd vd
  replace Ba := Ba.ext hb rfl
  replace Bb := Bb.ext hb rfl
  replace Bc := Bc.ext hb rfl
  replace Bd := Bd.ext hb rfl
  replace hw := hw.trans (hb.mono hw.size)
  clear hb
  obtain ⟨xa, ya, za, va⟩ := Ba.facts
  obtain ⟨xb, yb, zb, vb⟩ := Bb.facts
  obtain ⟨xc, yc, zc, vc⟩ := Bc.facts
  obtain ⟨xd, yd, zd, vd⟩ := Bd.facts
  go_wp2_with fail
  refine at_call fun W4 hW => ?_
  have Ca : Box W4 (w.heap.size) [.int .i64 a.x, .int .i64 a.y] 33 := by rw [hW]; exact ((((Ba.set_ne ⟨w.heap.size + 1 + 1, 0, none⟩ (.int .i64 d.x) (by show (w.heap.size + 1 + 1 : Nat) ≠ _; omega)).set_ne ⟨w.heap.size + 1 + 1, 1, none⟩ (.int .i64 d.y) (by show (w.heap.size + 1 + 1 : Nat) ≠ _; omega)).set_ne ⟨w.heap.size + 1 + 1 + 1, 0, none⟩ (.int .i64 c.x) (by show (w.heap.size + 1 + 1 + 1 : Nat) ≠ _; omega)).set_ne ⟨w.heap.size + 1 + 1 + 1, 1, none⟩ (.int .i64 c.y) (by show (w.heap.size + 1 + 1 + 1 : Nat) ≠ _; omega))
  have Cb : Box W4 (w.heap.size + 1) [.int .i64 b.x, .int .i64 b.y] 33 := by rw [hW]; exact ((((Bb.set_ne ⟨w.heap.size + 1 + 1, 0, none⟩ (.int .i64 d.x) (by show (w.heap.size + 1 + 1 : Nat) ≠ _; omega)).set_ne ⟨w.heap.size + 1 + 1, 1, none⟩ (.int .i64 d.y) (by show (w.heap.size + 1 + 1 : Nat) ≠ _; omega)).set_ne ⟨w.heap.size + 1 + 1 + 1, 0, none⟩ (.int .i64 c.x) (by show (w.heap.size + 1 + 1 + 1 : Nat) ≠ _; omega)).set_ne ⟨w.heap.size + 1 + 1 + 1, 1, none⟩ (.int .i64 c.y) (by show (w.heap.size + 1 + 1 + 1 : Nat) ≠ _; omega))
  have Cc : Box W4 (w.heap.size + 1 + 1) [.int .i64 d.x, .int .i64 d.y] 33 := by rw [hW]; exact ((((Bc.set 0 (.int .i64 d.x)).set 1 (.int .i64 d.y)).set_ne ⟨w.heap.size + 1 + 1 + 1, 0, none⟩ (.int .i64 c.x) (by show (w.heap.size + 1 + 1 + 1 : Nat) ≠ _; omega)).set_ne ⟨w.heap.size + 1 + 1 + 1, 1, none⟩ (.int .i64 c.y) (by show (w.heap.size + 1 + 1 + 1 : Nat) ≠ _; omega))
  have Cd : Box W4 (w.heap.size + 1 + 1 + 1) [.int .i64 c.x, .int .i64 c.y] 33 := by rw [hW]; exact ((((Bd.set_ne ⟨w.heap.size + 1 + 1, 0, none⟩ (.int .i64 d.x) (by show (w.heap.size + 1 + 1 : Nat) ≠ _; omega)).set_ne ⟨w.heap.size + 1 + 1, 1, none⟩ (.int .i64 d.y) (by show (w.heap.size + 1 + 1 : Nat) ≠ _; omega)).set 0 (.int .i64 c.x)).set 1 (.int .i64 c.y))
  replace hw : Below w.heap.size w W4 := by have hl := hw.size; rw [hW]; go_grown
  clear xa ya za va xb yb zb vb xc yc zc vc xd yd zd vd
  clear hW Ba Bb Bc Bd
  have Ba := Ca
  have Bb := Cb
  have Bc := Cc
  have Bd := Cd
  clear Ca Cb Cc Cd
  refine (k3 _).mono ?_
  rintro e w5 ⟨rfl, hb⟩
  replace Ba := Ba.ext hb rfl
  replace Bb := Bb.ext hb rfl
  replace Bc := Bc.ext hb rfl
  replace Bd := Bd.ext hb rfl
  replace hw := hw.trans (hb.mono hw.size)
  clear hb
  go_wp2
  go_ret
  exact ⟨rfl, hw⟩

theorem mil_011 (a b c d : Pt) (g1 : decide (cmpP b a < 0) = false) (g2 : decide (cmpP d c < 0) = true) (g3 : decide (cmpP a c < 0) = true) (g4 : decide (cmpP d b < 0) = false) (w : World) :
    Calls Try.prog 88 #[.agg #[.int .i64 a.x, .int .i64 a.y], .agg #[.int .i64 b.x, .int .i64 b.y], .agg #[.int .i64 c.x, .int .i64 c.y], .agg #[.int .i64 d.x, .int .i64 d.y]] w fun e w' => e = .returned (.int .i64 0) ∧ Below w.heap.size w w' := by
  have k1 := cmp_pt b a
  have k2 := cmp_pt d c
  have k3 := cmp_pt a c
  have k4 := cmp_pt d b
  generalize cmpP b a = x0 at *
  generalize cmpP d c = x1 at *
  generalize cmpP a c = x2 at *
  generalize cmpP d b = x3 at *
  go_enter Try.func88, Try.ntmps88
  go_wp2_with fail
  refine at_call fun W1 hW => ?_
  have Ba : Box W1 (w.heap.size) [.int .i64 a.x, .int .i64 a.y] 33 := by rw [hW]; exact (((Box.new rfl).old _).old _).old _
  have Bb : Box W1 (w.heap.size + 1) [.int .i64 b.x, .int .i64 b.y] 33 := by rw [hW]; exact ((Box.new (by simp)).old _).old _
  have Bc : Box W1 (w.heap.size + 1 + 1) [.int .i64 c.x, .int .i64 c.y] 33 := by rw [hW]; exact (Box.new (by simp)).old _
  have Bd : Box W1 (w.heap.size + 1 + 1 + 1) [.int .i64 d.x, .int .i64 d.y] 33 := by rw [hW]; exact Box.new (by simp)
  have hw : Below w.heap.size w W1 := by rw [hW]; go_grown
  clear hW
  refine (k1 _).mono ?_
  rintro e w2 ⟨rfl, hb⟩
  replace Ba := Ba.ext hb rfl
  replace Bb := Bb.ext hb rfl
  replace Bc := Bc.ext hb rfl
  replace Bd := Bd.ext hb rfl
  replace hw := hw.trans (hb.mono hw.size)
  clear hb
  obtain ⟨xa, ya, za, va⟩ := Ba.facts
  obtain ⟨xb, yb, zb, vb⟩ := Bb.facts
  obtain ⟨xc, yc, zc, vc⟩ := Bc.facts
  obtain ⟨xd, yd, zd, vd⟩ := Bd.facts
  go_wp2_with fail
  refine (k2 _).mono ?_
  rintro e w3 ⟨rfl, hb⟩
  clear xa ya za va xb yb zb vb xc yc zc vc xd yd zd vd
  replace Ba := Ba.ext hb rfl
  replace Bb := Bb.ext hb rfl
  replace Bc := Bc.ext hb rfl
  replace Bd := Bd.ext hb rfl
  replace hw := hw.trans (hb.mono hw.size)
  clear hb
  obtain ⟨xa, ya, za, va⟩ := Ba.facts
  obtain ⟨xb, yb, zb, vb⟩ := Bb.facts
  obtain ⟨xc, yc, zc, vc⟩ := Bc.facts
  obtain ⟨xd, yd, zd, vd⟩ := Bd.facts
  go_wp2_with fail
  refine at_call fun W4 hW => ?_
  have Ca : Box W4 (w.heap.size) [.int .i64 a.x, .int .i64 a.y] 33 := by rw [hW]; exact ((((Ba.set_ne ⟨w.heap.size + 1 + 1, 0, none⟩ (.int .i64 d.x) (by show (w.heap.size + 1 + 1 : Nat) ≠ _; omega)).set_ne ⟨w.heap.size + 1 + 1, 1, none⟩ (.int .i64 d.y) (by show (w.heap.size + 1 + 1 : Nat) ≠ _; omega)).set_ne ⟨w.heap.size + 1 + 1 + 1, 0, none⟩ (.int .i64 c.x) (by show (w.heap.size + 1 + 1 + 1 : Nat) ≠ _; omega)).set_ne ⟨w.heap.size + 1 + 1 + 1, 1, none⟩ (.int .i64 c.y) (by show (w.heap.size + 1 + 1 + 1 : Nat) ≠ _; omega))
  have Cb : Box W4 (w.heap.size + 1) [.int .i64 b.x, .int .i64 b.y] 33 := by rw [hW]; exact ((((Bb.set_ne ⟨w.heap.size + 1 + 1, 0, none⟩ (.int .i64 d.x) (by show (w.heap.size + 1 + 1 : Nat) ≠ _; omega)).set_ne ⟨w.heap.size + 1 + 1, 1, none⟩ (.int .i64 d.y) (by show (w.heap.size + 1 + 1 : Nat) ≠ _; omega)).set_ne ⟨w.heap.size + 1 + 1 + 1, 0, none⟩ (.int .i64 c.x) (by show (w.heap.size + 1 + 1 + 1 : Nat) ≠ _; omega)).set_ne ⟨w.heap.size + 1 + 1 + 1, 1, none⟩ (.int .i64 c.y) (by show (w.heap.size + 1 + 1 + 1 : Nat) ≠ _; omega))
  have Cc : Box W4 (w.heap.size + 1 + 1) [.int .i64 d.x, .int .i64 d.y] 33 := by rw [hW]; exact ((((Bc.set 0 (.int .i64 d.x)).set 1 (.int .i64 d.y)).set_ne ⟨w.heap.size + 1 + 1 + 1, 0, none⟩ (.int .i64 c.x) (by show (w.heap.size + 1 + 1 + 1 : Nat) ≠ _; omega)).set_ne ⟨w.heap.size + 1 + 1 + 1, 1, none⟩ (.int .i64 c.y) (by show (w.heap.size + 1 + 1 + 1 : Nat) ≠ _; omega))
  have Cd : Box W4 (w.heap.size + 1 + 1 + 1) [.int .i64 c.x, .int .i64 c.y] 33 := by rw [hW]; exact ((((Bd.set_ne ⟨w.heap.size + 1 + 1, 0, none⟩ (.int .i64 d.x) (by show (w.heap.size + 1 + 1 : Nat) ≠ _; omega)).set_ne ⟨w.heap.size + 1 + 1, 1, none⟩ (.int .i64 d.y) (by show (w.heap.size + 1 + 1 : Nat) ≠ _; omega)).set 0 (.int .i64 c.x)).set 1 (.int .i64 c.y))
  replace hw : Below w.heap.size w W4 := by have hl := hw.size; rw [hW]; go_grown
  clear xa ya za va xb yb zb vb xc yc zc vc xd yd zd vd
  clear hW Ba Bb Bc Bd
  have Ba := Ca
  have Bb := Cb
  have Bc := Cc
  have Bd := Cd
  clear Ca Cb Cc Cd
  refine (k3 _).mono ?_
  rintro e w5 ⟨rfl, hb⟩
  replace Ba := Ba.ext hb rfl
  replace Bb := Bb.ext hb rfl
  replace Bc := Bc.ext hb rfl
  replace Bd := Bd.ext hb rfl
  replace hw := hw.trans (hb.mono hw.size)
  clear hb
  obtain ⟨xa, ya, za, va⟩ := Ba.facts
  obtain ⟨xb, yb, zb, vb⟩ := Bb.facts
  obtain ⟨xc, yc, zc, vc⟩ := Bc.facts
  obtain ⟨xd, yd, zd, vd⟩ := Bd.facts
  go_wp2_with fail
  refine (k4 _).mono ?_
  rintro e w6 ⟨rfl, hb⟩
  clear xa ya za va xb yb zb vb xc yc zc vc xd yd zd vd
  replace Ba := Ba.ext hb rfl
  replace Bb := Bb.ext hb rfl
  replace Bc := Bc.ext hb rfl
  replace Bd := Bd.ext hb rfl
  replace hw := hw.trans (hb.mono hw.size)
  clear hb
  go_wp2
  go_ret
  exact ⟨rfl, hw⟩

theorem mil_012 (a b c d : Pt) (g1 : decide (cmpP b a < 0) = false) (g2 : decide (cmpP d c < 0) = true) (g3 : decide (cmpP a c < 0) = true) (g4 : decide (cmpP d b < 0) = true) (w : World) :
    Calls Try.prog 88 #[.agg #[.int .i64 a.x, .int .i64 a.y], .agg #[.int .i64 b.x, .int .i64 b.y], .agg #[.int .i64 c.x, .int .i64 c.y], .agg #[.int .i64 d.x, .int .i64 d.y]] w fun e w' => e = .returned (.int .i64 3) ∧ Below w.heap.size w w' := by
  have k1 := cmp_pt b a
  have k2 := cmp_pt d c
  have k3 := cmp_pt a c
  have k4 := cmp_pt d b
  generalize cmpP b a = x0 at *
  generalize cmpP d c = x1 at *
  generalize cmpP a c = x2 at *
  generalize cmpP d b = x3 at *
  go_enter Try.func88, Try.ntmps88
  go_wp2_with fail
  refine at_call fun W1 hW => ?_
  have Ba : Box W1 (w.heap.size) [.int .i64 a.x, .int .i64 a.y] 33 := by rw [hW]; exact (((Box.new rfl).old _).old _).old _
  have Bb : Box W1 (w.heap.size + 1) [.int .i64 b.x, .int .i64 b.y] 33 := by rw [hW]; exact ((Box.new (by simp)).old _).old _
  have Bc : Box W1 (w.heap.size + 1 + 1) [.int .i64 c.x, .int .i64 c.y] 33 := by rw [hW]; exact (Box.new (by simp)).old _
  have Bd : Box W1 (w.heap.size + 1 + 1 + 1) [.int .i64 d.x, .int .i64 d.y] 33 := by rw [hW]; exact Box.new (by simp)
  have hw : Below w.heap.size w W1 := by rw [hW]; go_grown
  clear hW
  refine (k1 _).mono ?_
  rintro e w2 ⟨rfl, hb⟩
  replace Ba := Ba.ext hb rfl
  replace Bb := Bb.ext hb rfl
  replace Bc := Bc.ext hb rfl
  replace Bd := Bd.ext hb rfl
  replace hw := hw.trans (hb.mono hw.size)
  clear hb
  obtain ⟨xa, ya, za, va⟩ := Ba.facts
  obtain ⟨xb, yb, zb, vb⟩ := Bb.facts
  obtain ⟨xc, yc, zc, vc⟩ := Bc.facts
  obtain ⟨xd, yd, zd, vd⟩ := Bd.facts
  go_wp2_with fail
  refine (k2 _).mono ?_
  rintro e w3 ⟨rfl, hb⟩
  clear xa ya za va xb yb zb vb xc yc zc vc xd yd zd vd
  replace Ba := Ba.ext hb rfl
  replace Bb := Bb.ext hb rfl
  replace Bc := Bc.ext hb rfl
  replace Bd := Bd.ext hb rfl
  replace hw := hw.trans (hb.mono hw.size)
  clear hb
  obtain ⟨xa, ya, za, va⟩ := Ba.facts
  obtain ⟨xb, yb, zb, vb⟩ := Bb.facts
  obtain ⟨xc, yc, zc, vc⟩ := Bc.facts
  obtain ⟨xd, yd, zd, vd⟩ := Bd.facts
  go_wp2_with fail
  refine at_call fun W4 hW => ?_
  have Ca : Box W4 (w.heap.size) [.int .i64 a.x, .int .i64 a.y] 33 := by rw [hW]; exact ((((Ba.set_ne ⟨w.heap.size + 1 + 1, 0, none⟩ (.int .i64 d.x) (by show (w.heap.size + 1 + 1 : Nat) ≠ _; omega)).set_ne ⟨w.heap.size + 1 + 1, 1, none⟩ (.int .i64 d.y) (by show (w.heap.size + 1 + 1 : Nat) ≠ _; omega)).set_ne ⟨w.heap.size + 1 + 1 + 1, 0, none⟩ (.int .i64 c.x) (by show (w.heap.size + 1 + 1 + 1 : Nat) ≠ _; omega)).set_ne ⟨w.heap.size + 1 + 1 + 1, 1, none⟩ (.int .i64 c.y) (by show (w.heap.size + 1 + 1 + 1 : Nat) ≠ _; omega))
  have Cb : Box W4 (w.heap.size + 1) [.int .i64 b.x, .int .i64 b.y] 33 := by rw [hW]; exact ((((Bb.set_ne ⟨w.heap.size + 1 + 1, 0, none⟩ (.int .i64 d.x) (by show (w.heap.size + 1 + 1 : Nat) ≠ _; omega)).set_ne ⟨w.heap.size + 1 + 1, 1, none⟩ (.int .i64 d.y) (by show (w.heap.size + 1 + 1 : Nat) ≠ _; omega)).set_ne ⟨w.heap.size + 1 + 1 + 1, 0, none⟩ (.int .i64 c.x) (by show (w.heap.size + 1 + 1 + 1 : Nat) ≠ _; omega)).set_ne ⟨w.heap.size + 1 + 1 + 1, 1, none⟩ (.int .i64 c.y) (by show (w.heap.size + 1 + 1 + 1 : Nat) ≠ _; omega))
  have Cc : Box W4 (w.heap.size + 1 + 1) [.int .i64 d.x, .int .i64 d.y] 33 := by rw [hW]; exact ((((Bc.set 0 (.int .i64 d.x)).set 1 (.int .i64 d.y)).set_ne ⟨w.heap.size + 1 + 1 + 1, 0, none⟩ (.int .i64 c.x) (by show (w.heap.size + 1 + 1 + 1 : Nat) ≠ _; omega)).set_ne ⟨w.heap.size + 1 + 1 + 1, 1, none⟩ (.int .i64 c.y) (by show (w.heap.size + 1 + 1 + 1 : Nat) ≠ _; omega))
  have Cd : Box W4 (w.heap.size + 1 + 1 + 1) [.int .i64 c.x, .int .i64 c.y] 33 := by rw [hW]; exact ((((Bd.set_ne ⟨w.heap.size + 1 + 1, 0, none⟩ (.int .i64 d.x) (by show (w.heap.size + 1 + 1 : Nat) ≠ _; omega)).set_ne ⟨w.heap.size + 1 + 1, 1, none⟩ (.int .i64 d.y) (by show (w.heap.size + 1 + 1 : Nat) ≠ _; omega)).set 0 (.int .i64 c.x)).set 1 (.int .i64 c.y))
  replace hw : Below w.heap.size w W4 := by have hl := hw.size; rw [hW]; go_grown
  clear xa ya za va xb yb zb vb xc yc zc vc xd yd zd vd
  clear hW Ba Bb Bc Bd
  have Ba := Ca
  have Bb := Cb
  have Bc := Cc
  have Bd := Cd
  clear Ca Cb Cc Cd
  refine (k3 _).mono ?_
  rintro e w5 ⟨rfl, hb⟩
  replace Ba := Ba.ext hb rfl
  replace Bb := Bb.ext hb rfl
  replace Bc := Bc.ext hb rfl
  replace Bd := Bd.ext hb rfl
  replace hw := hw.trans (hb.mono hw.size)
  clear hb
  obtain ⟨xa, ya, za, va⟩ := Ba.facts
  obtain ⟨xb, yb, zb, vb⟩ := Bb.facts
  obtain ⟨xc, yc, zc, vc⟩ := Bc.facts
  obtain ⟨xd, yd, zd, vd⟩ := Bd.facts
  go_wp2_with fail
  refine (k4 _).mono ?_
  rintro e w6 ⟨rfl, hb⟩
  clear xa ya za va xb yb zb vb xc yc zc vc xd yd zd vd
  replace Ba := Ba.ext hb rfl
  replace Bb := Bb.ext hb rfl
  replace Bc := Bc.ext hb rfl
  replace Bd := Bd.ext hb rfl
  replace hw := hw.trans (hb.mono hw.size)
  clear hb
  go_wp2
  go_ret
  exact ⟨rfl, hw⟩

theorem mil_100 (a b c d : Pt) (g1 : decide (cmpP b a < 0) = true) (g2 : decide (cmpP d c < 0) = false) (g3 : decide (cmpP b d < 0) = false) (w : World) :
    Calls Try.prog 88 #[.agg #[.int .i64 a.x, .int .i64 a.y], .agg #[.int .i64 b.x, .int .i64 b.y], .agg #[.int .i64 c.x, .int .i64 c.y], .agg #[.int .i64 d.x, .int .i64 d.y]] w fun e w' => e = .returned (.int .i64 0) ∧ Below w.heap.size w w' := by
  have k1 := cmp_pt b a
  have k2 := cmp_pt d c
  have k3 := cmp_pt b d
  generalize cmpP b a = x0 at *
  generalize cmpP d c = x1 at *
  generalize cmpP b d = x2 at *
  go_enter Try.func88, Try.ntmps88
  go_wp2_with fail
  refine at_call fun W1 hW => ?_
  have Ba : Box W1 (w.heap.size) [.int .i64 a.x, .int .i64 a.y] 33 := by rw [hW]; exact (((Box.new rfl).old _).old _).old _
  have Bb : Box W1 (w.heap.size + 1) [.int .i64 b.x, .int .i64 b.y] 33 := by rw [hW]; exact ((Box.new (by simp)).old _).old _
  have Bc : Box W1 (w.heap.size + 1 + 1) [.int .i64 c.x, .int .i64 c.y] 33 := by rw [hW]; exact (Box.new (by simp)).old _
  have Bd : Box W1 (w.heap.size + 1 + 1 + 1) [.int .i64 d.x, .int .i64 d.y] 33 := by rw [hW]; exact Box.new (by simp)
  have hw : Below w.heap.size w W1 := by rw [hW]; go_grown
  clear hW
  refine (k1 _).mono ?_
  rintro e w2 ⟨rfl, hb⟩
  replace Ba := Ba.ext hb rfl
  replace Bb := Bb.ext hb rfl
  replace Bc := Bc.ext hb rfl
  replace Bd := Bd.ext hb rfl
  replace hw := hw.trans (hb.mono hw.size)
  clear hb
  obtain ⟨xa, ya, za, va⟩ := Ba.facts
  obtain ⟨xb, yb, zb, vb⟩ := Bb.facts
  obtain ⟨xc, yc, zc, vc⟩ := Bc.facts
  obtain ⟨xd, yd, zd, vd⟩ := Bd.facts
  go_wp2_with fail
  refine at_call fun W3 hW => ?_
  have Ca : Box W3 (w.heap.size) [.int .i64 b.x, .int .i64 b.y] 33 := by rw [hW]; exact ((((Ba.set 0 (.int .i64 b.x)).set 1 (.int .i64 b.y)).set_ne ⟨w.heap.size + 1, 0, none⟩ (.int .i64 a.x) (by show (w.heap.size + 1 : Nat) ≠ _; omega)).set_ne ⟨w.heap.size + 1, 1, none⟩ (.int .i64 a.y) (by show (w.heap.size + 1 : Nat) ≠ _; omega))
  have Cb : Box W3 (w.heap.size + 1) [.int .i64 a.x, .int .i64 a.y] 33 := by rw [hW]; exact ((((Bb.set_ne ⟨w.heap.size, 0, none⟩ (.int .i64 b.x) (by show (w.heap.size : Nat) ≠ _; omega)).set_ne ⟨w.heap.size, 1, none⟩ (.int .i64 b.y) (by show (w.heap.size : Nat) ≠ _; omega)).set 0 (.int .i64 a.x)).set 1 (.int .i64 a.y))
  have Cc : Box W3 (w.heap.size + 1 + 1) [.int .i64 c.x, .int .i64 c.y] 33 := by rw [hW]; exact ((((Bc.set_ne ⟨w.heap.size, 0, none⟩ (.int .i64 b.x) (by show (w.heap.size : Nat) ≠ _; omega)).set_ne ⟨w.heap.size, 1, none⟩ (.int .i64 b.y) (by show (w.heap.size : Nat) ≠ _; omega)).set_ne ⟨w.heap.size + 1, 0, none⟩ (.int .i64 a.x) (by show (w.heap.size + 1 : Nat) ≠ _; omega)).set_ne ⟨w.heap.size + 1, 1, none⟩ (.int .i64 a.y) (by show (w.heap.size + 1 : Nat) ≠ _; omega))
  have Cd : Box W3 (w.heap.size + 1 + 1 + 1) [.int .i64 d.x, .int .i64 d.y] 33 := by rw [hW]; exact ((((Bd.set_ne ⟨w.heap.size, 0, none⟩ (.int .i64 b.x) (by show (w.heap.size : Nat) ≠ _; omega)).set_ne ⟨w.heap.size, 1, none⟩ (.int .i64 b.y) (by show (w.heap.size : Nat) ≠ _; omega)).set_ne ⟨w.heap.size + 1, 0, none⟩ (.int .i64 a.x) (by show (w.heap.size + 1 : Nat) ≠ _; omega)).set_ne ⟨w.heap.size + 1, 1, none⟩ (.int .i64 a.y) (by show (w.heap.size + 1 : Nat) ≠ _; omega))
  replace hw : Below w.heap.size w W3 := by have hl := hw.size; rw [hW]; go_grown
  clear xa ya za va xb yb zb vb xc yc zc vc xd yd zd vd
  clear hW Ba Bb Bc Bd
  have Ba := Ca
  have Bb := Cb
  have Bc := Cc
  have Bd := Cd
  clear Ca Cb Cc Cd
  refine (k2 _).mono ?_
  rintro e w4 ⟨rfl, hb⟩
  replace Ba := Ba.ext hb rfl
  replace Bb := Bb.ext hb rfl
  replace Bc := Bc.ext hb rfl
  replace Bd := Bd.ext hb rfl
  replace hw := hw.trans (hb.mono hw.size)
  clear hb
  obtain ⟨xa, ya, za, va⟩ := Ba.facts
  obtain ⟨xb, yb, zb, vb⟩ := Bb.facts
  obtain ⟨xc, yc, zc, vc⟩ := Bc.facts
  obtain ⟨xd, yd, zd, vd⟩ := Bd.facts
  go_wp2_with fail
  refine (k3 _).mono ?_
  rintro e w5 ⟨rfl, hb⟩
  clear xa ya za va xb yb zb vb xc yc zc vc xd yd zd vd
  replace Ba := Ba.ext hb rfl
  replace Bb := Bb.ext hb rfl
  replace Bc := Bc.ext hb rfl
  replace Bd := Bd.ext hb rfl
  replace hw := hw.trans (hb.mono hw.size)
  clear hb
  go_wp2
  go_ret
  exact ⟨rfl, hw⟩

theorem mil_101 (a b c d : Pt) (g1 : decide (cmpP b a < 0) = true) (g2 : decide (cmpP d c < 0) = false) (g3 : decide (cmpP b d < 0) = true) (g4 : decide (cmpP c a < 0) = false) (w : World) :
    Calls Try.prog 88 #[.agg #[.int .i64 a.x, .int .i64 a.y], .agg #[.int .i64 b.x, .int .i64 b.y], .agg #[.int .i64 c.x, .int .i64 c.y], .agg #[.int .i64 d.x, .int .i64 d.y]] w fun e w' => e = .returned (.int .i64 0) ∧ Below w.heap.size w w' := by
  have k1 := cmp_pt b a
  have k2 := cmp_pt d c
  have k3 := cmp_pt b d
  have k4 := cmp_pt c a
  generalize cmpP b a = x0 at *
  generalize cmpP d c = x1 at *
  generalize cmpP b d = x2 at *
  generalize cmpP c a = x3 at *
  go_enter Try.func88, Try.ntmps88
  go_wp2_with fail
  refine at_call fun W1 hW => ?_
  have Ba : Box W1 (w.heap.size) [.int .i64 a.x, .int .i64 a.y] 33 := by rw [hW]; exact (((Box.new rfl).old _).old _).old _
  have Bb : Box W1 (w.heap.size + 1) [.int .i64 b.x, .int .i64 b.y] 33 := by rw [hW]; exact ((Box.new (by simp)).old _).old _
  have Bc : Box W1 (w.heap.size + 1 + 1) [.int .i64 c.x, .int .i64 c.y] 33 := by rw [hW]; exact (Box.new (by simp)).old _
  have Bd : Box W1 (w.heap.size + 1 + 1 + 1) [.int .i64 d.x, .int .i64 d.y] 33 := by rw [hW]; exact Box.new (by simp)
  have hw : Below w.heap.size w W1 := by rw [hW]; go_grown
  clear hW
  refine (k1 _).mono ?_
  rintro e w2 ⟨rfl, hb⟩
  replace Ba := Ba.ext hb rfl
  replace Bb := Bb.ext hb rfl
  replace Bc := Bc.ext hb rfl
  replace Bd := Bd.ext hb rfl
  replace hw := hw.trans (hb.mono hw.size)
  clear hb
  obtain ⟨xa, ya, za, va⟩ := Ba.facts
  obtain ⟨xb, yb, zb, vb⟩ := Bb.facts
  obtain ⟨xc, yc, zc, vc⟩ := Bc.facts
  obtain ⟨xd, yd, zd, vd⟩ := Bd.facts
  go_wp2_with fail
  refine at_call fun W3 hW => ?_
  have Ca : Box W3 (w.heap.size) [.int .i64 b.x, .int .i64 b.y] 33 := by rw [hW]; exact ((((Ba.set 0 (.int .i64 b.x)).set 1 (.int .i64 b.y)).set_ne ⟨w.heap.size + 1, 0, none⟩ (.int .i64 a.x) (by show (w.heap.size + 1 : Nat) ≠ _; omega)).set_ne ⟨w.heap.size + 1, 1, none⟩ (.int .i64 a.y) (by show (w.heap.size + 1 : Nat) ≠ _; omega))
  have Cb : Box W3 (w.heap.size + 1) [.int .i64 a.x, .int .i64 a.y] 33 := by rw [hW]; exact ((((Bb.set_ne ⟨w.heap.size, 0, none⟩ (.int .i64 b.x) (by show (w.heap.size : Nat) ≠ _; omega)).set_ne ⟨w.heap.size, 1, none⟩ (.int .i64 b.y) (by show (w.heap.size : Nat) ≠ _; omega)).set 0 (.int .i64 a.x)).set 1 (.int .i64 a.y))
  have Cc : Box W3 (w.heap.size + 1 + 1) [.int .i64 c.x, .int .i64 c.y] 33 := by rw [hW]; exact ((((Bc.set_ne ⟨w.heap.size, 0, none⟩ (.int .i64 b.x) (by show (w.heap.size : Nat) ≠ _; omega)).set_ne ⟨w.heap.size, 1, none⟩ (.int .i64 b.y) (by show (w.heap.size : Nat) ≠ _; omega)).set_ne ⟨w.heap.size + 1, 0, none⟩ (.int .i64 a.x) (by show (w.heap.size + 1 : Nat) ≠ _; omega)).set_ne ⟨w.heap.size + 1, 1, none⟩ (.int .i64 a.y) (by show (w.heap.size + 1 : Nat) ≠ _; omega))
  have Cd : Box W3 (w.heap.size + 1 + 1 + 1) [.int .i64 d.x, .int .i64 d.y] 33 := by rw [hW]; exact ((((Bd.set_ne ⟨w.heap.size, 0, none⟩ (.int .i64 b.x) (by show (w.heap.size : Nat) ≠ _; omega)).set_ne ⟨w.heap.size, 1, none⟩ (.int .i64 b.y) (by show (w.heap.size : Nat) ≠ _; omega)).set_ne ⟨w.heap.size + 1, 0, none⟩ (.int .i64 a.x) (by show (w.heap.size + 1 : Nat) ≠ _; omega)).set_ne ⟨w.heap.size + 1, 1, none⟩ (.int .i64 a.y) (by show (w.heap.size + 1 : Nat) ≠ _; omega))
  replace hw : Below w.heap.size w W3 := by have hl := hw.size; rw [hW]; go_grown
  clear xa ya za va xb yb zb vb xc yc zc vc xd yd zd vd
  clear hW Ba Bb Bc Bd
  have Ba := Ca
  have Bb := Cb
  have Bc := Cc
  have Bd := Cd
  clear Ca Cb Cc Cd
  refine (k2 _).mono ?_
  rintro e w4 ⟨rfl, hb⟩
  replace Ba := Ba.ext hb rfl
  replace Bb := Bb.ext hb rfl
  replace Bc := Bc.ext hb rfl
  replace Bd := Bd.ext hb rfl
  replace hw := hw.trans (hb.mono hw.size)
  clear hb
  obtain ⟨xa, ya, za, va⟩ := Ba.facts
  obtain ⟨xb, yb, zb, vb⟩ := Bb.facts
  obtain ⟨xc, yc, zc, vc⟩ := Bc.facts
  obtain ⟨xd, yd, zd, vd⟩ := Bd.facts
  go_wp2_with fail
  refine (k3 _).mono ?_
  rintro e w5 ⟨rfl, hb⟩
  clear xa ya za va xb yb zb vb xc yc zc vc xd yd zd vd
  replace Ba := Ba.ext hb rfl
  replace Bb := Bb.ext hb rfl
  replace Bc := Bc.ext hb rfl
  replace Bd := Bd.ext hb rfl
  replace hw := hw.trans (hb.mono hw.size)
  clear hb
  obtain ⟨xa, ya, za, va⟩ := Ba.facts
  obtain ⟨xb, yb, zb, vb⟩ := Bb.facts
  obtain ⟨xc, yc, zc, vc⟩ := Bc.facts
  obtain ⟨xd, yd, zd, vd⟩ := Bd.facts
  go_wp2_with fail
  refine (k4 _).mono ?_
  rintro e w6 ⟨rfl, hb⟩
  clear xa ya za va xb yb zb vb xc yc zc vc xd yd zd vd
  replace Ba := Ba.ext hb rfl
  replace Bb := Bb.ext hb rfl
  replace Bc := Bc.ext hb rfl
  replace Bd := Bd.ext hb rfl
  replace hw := hw.trans (hb.mono hw.size)
  clear hb
  go_wp2
  go_ret
  exact ⟨rfl, hw⟩

theorem mil_102 (a b c d : Pt) (g1 : decide (cmpP b a < 0) = true) (g2 : decide (cmpP d c < 0) = false) (g3 : decide (cmpP b d < 0) = true) (g4 : decide (cmpP c a < 0) = true) (w : World) :
    Calls Try.prog 88 #[.agg #[.int .i64 a.x, .int .i64 a.y], .agg #[.int .i64 b.x, .int .i64 b.y], .agg #[.int .i64 c.x, .int .i64 c.y], .agg #[.int .i64 d.x, .int .i64 d.y]] w fun e w' => e = .returned (.int .i64 3) ∧ Below w.heap.size w w' := by
  have k1 := cmp_pt b a
  have k2 := cmp_pt d c
  have k3 := cmp_pt b d
  have k4 := cmp_pt c a
  generalize cmpP b a = x0 at *
  generalize cmpP d c = x1 at *
  generalize cmpP b d = x2 at *
  generalize cmpP c a = x3 at *
  go_enter Try.func88, Try.ntmps88
  go_wp2_with fail
  refine at_call fun W1 hW => ?_
  have Ba : Box W1 (w.heap.size) [.int .i64 a.x, .int .i64 a.y] 33 := by rw [hW]; exact (((Box.new rfl).old _).old _).old _
  have Bb : Box W1 (w.heap.size + 1) [.int .i64 b.x, .int .i64 b.y] 33 := by rw [hW]; exact ((Box.new (by simp)).old _).old _
  have Bc : Box W1 (w.heap.size + 1 + 1) [.int .i64 c.x, .int .i64 c.y] 33 := by rw [hW]; exact (Box.new (by simp)).old _
  have Bd : Box W1 (w.heap.size + 1 + 1 + 1) [.int .i64 d.x, .int .i64 d.y] 33 := by rw [hW]; exact Box.new (by simp)
  have hw : Below w.heap.size w W1 := by rw [hW]; go_grown
  clear hW
  refine (k1 _).mono ?_
  rintro e w2 ⟨rfl, hb⟩
  replace Ba := Ba.ext hb rfl
  replace Bb := Bb.ext hb rfl
  replace Bc := Bc.ext hb rfl
  replace Bd := Bd.ext hb rfl
  replace hw := hw.trans (hb.mono hw.size)
  clear hb
  obtain ⟨xa, ya, za, va⟩ := Ba.facts
  obtain ⟨xb, yb, zb, vb⟩ := Bb.facts
  obtain ⟨xc, yc, zc, vc⟩ := Bc.facts
  obtain ⟨xd, yd, zd, vd⟩ := Bd.facts
  go_wp2_with fail
  refine at_call fun W3 hW => ?_
  have Ca : Box W3 (w.heap.size) [.int .i64 b.x, .int .i64 b.y] 33 := by rw [hW]; exact ((((Ba.set 0 (.int .i64 b.x)).set 1 (.int .i64 b.y)).set_ne ⟨w.heap.size + 1, 0, none⟩ (.int .i64 a.x) (by show (w.heap.size + 1 : Nat) ≠ _; omega)).set_ne ⟨w.heap.size + 1, 1, none⟩ (.int .i64 a.y) (by show (w.heap.size + 1 : Nat) ≠ _; omega))
  have Cb : Box W3 (w.heap.size + 1) [.int .i64 a.x, .int .i64 a.y] 33 := by rw [hW]; exact ((((Bb.set_ne ⟨w.heap.size, 0, none⟩ (.int .i64 b.x) (by show (w.heap.size : Nat) ≠ _; omega)).set_ne ⟨w.heap.size, 1, none⟩ (.int .i64 b.y) (by show (w.heap.size : Nat) ≠ _; omega)).set 0 (.int .i64 a.x)).set 1 (.int .i64 a.y))
  have Cc : Box W3 (w.heap.size + 1 + 1) [.int .i64 c.x, .int .i64 c.y] 33 := by rw [hW]; exact ((((Bc.set_ne ⟨w.heap.size, 0, none⟩ (.int .i64 b.x) (by show (w.heap.size : Nat) ≠ _; omega)).set_ne ⟨w.heap.size, 1, none⟩ (.int .i64 b.y) (by show (w.heap.size : Nat) ≠ _; omega)).set_ne ⟨w.heap.size + 1, 0, none⟩ (.int .i64 a.x) (by show (w.heap.size + 1 : Nat) ≠ _; omega)).set_ne ⟨w.heap.size + 1, 1, none⟩ (.int .i64 a.y) (by show (w.heap.size + 1 : Nat) ≠ _; omega))
  have Cd : Box W3 (w.heap.size + 1 + 1 + 1) [.int .i64 d.x, .int .i64 d.y] 33 := by rw [hW]; exact ((((Bd.set_ne ⟨w.heap.size, 0, none⟩ (.int .i64 b.x) (by show (w.heap.size : Nat) ≠ _; omega)).set_ne ⟨w.heap.size, 1, none⟩ (.int .i64 b.y) (by show (w.heap.size : Nat) ≠ _; omega)).set_ne ⟨w.heap.size + 1, 0, none⟩ (.int .i64 a.x) (by show (w.heap.size + 1 : Nat) ≠ _; omega)).set_ne ⟨w.heap.size + 1, 1, none⟩ (.int .i64 a.y) (by show (w.heap.size + 1 : Nat) ≠ _; omega))
  replace hw : Below w.heap.size w W3 := by have hl := hw.size; rw [hW]; go_grown
  clear xa ya za va xb yb zb vb xc yc zc vc xd yd zd vd
  clear hW Ba Bb Bc Bd
  have Ba := Ca
  have Bb := Cb
  have Bc := Cc
  have Bd := Cd
  clear Ca Cb Cc Cd
  refine (k2 _).mono ?_
  rintro e w4 ⟨rfl, hb⟩
  replace Ba := Ba.ext hb rfl
  replace Bb := Bb.ext hb rfl
  replace Bc := Bc.ext hb rfl
  replace Bd := Bd.ext hb rfl
  replace hw := hw.trans (hb.mono hw.size)
  clear hb
  obtain ⟨xa, ya, za, va⟩ := Ba.facts
  obtain ⟨xb, yb, zb, vb⟩ := Bb.facts
  obtain ⟨xc, yc, zc, vc⟩ := Bc.facts
  obtain ⟨xd, yd, zd, vd⟩ := Bd.facts
  go_wp2_with fail
  refine (k3 _).mono ?_
  rintro e w5 ⟨rfl, hb⟩
  clear xa ya za va xb yb zb vb xc yc zc vc xd yd zd vd
  replace Ba := Ba.ext hb rfl
  replace Bb := Bb.ext hb rfl
  replace Bc := Bc.ext hb rfl
  replace Bd := Bd.ext hb rfl
  replace hw := hw.trans (hb.mono hw.size)
  clear hb
  obtain ⟨xa, ya, za, va⟩ := Ba.facts
  obtain ⟨xb, yb, zb, vb⟩ := Bb.facts
  obtain ⟨xc, yc, zc, vc⟩ := Bc.facts
  obtain ⟨xd, yd, zd, vd⟩ := Bd.facts
  go_wp2_with fail
  refine (k4 _).mono ?_
  rintro e w6 ⟨rfl, hb⟩
  clear xa ya za va xb yb zb vb xc yc zc vc xd yd zd vd
  replace Ba := Ba.ext hb rfl
  replace Bb := Bb.ext hb rfl
  replace Bc := Bc.ext hb rfl
  replace Bd := Bd.ext hb rfl
  replace hw := hw.trans (hb.mono hw.size)
  clear hb
  go_wp2
  go_ret
  exact ⟨rfl, hw⟩

theorem mil_110 (a b c d : Pt) (g1 : decide (cmpP b a < 0) = true) (g2 : decide (cmpP d c < 0) = true) (g3 : decide (cmpP b c < 0) = false) (w : World) :
    Calls Try.prog 88 #[.agg #[.int .i64 a.x, .int .i64 a.y], .agg #[.int .i64 b.x, .int .i64 b.y], .agg #[.int .i64 c.x, .int .i64 c.y], .agg #[.int .i64 d.x, .int .i64 d.y]] w fun e w' => e = .returned (.int .i64 0) ∧ Below w.heap.size w w' := by
  have k1 := cmp_pt b a
  have k2 := cmp_pt d c
  have k3 := cmp_pt b c
  generalize cmpP b a = x0 at *
  generalize cmpP d c = x1 at *
  generalize cmpP b c = x2 at *
  go_enter Try.func88, Try.ntmps88
  go_wp2_with fail
  refine at_call fun W1 hW => ?_
  have Ba : Box W1 (w.heap.size) [.int .i64 a.x, .int .i64 a.y] 33 := by rw [hW]; exact (((Box.new rfl).old _).old _).old _
  have Bb : Box W1 (w.heap.size + 1) [.int .i64 b.x, .int .i64 b.y] 33 := by rw [hW]; exact ((Box.new (by simp)).old _).old _
  have Bc : Box W1 (w.heap.size + 1 + 1) [.int .i64 c.x, .int .i64 c.y] 33 := by rw [hW]; exact (Box.new (by simp)).old _
  have Bd : Box W1 (w.heap.size + 1 + 1 + 1) [.int .i64 d.x, .int .i64 d.y] 33 := by rw [hW]; exact Box.new (by simp)
  have hw : Below w.heap.size w W1 := by rw [hW]; go_grown
  clear hW
  refine (k1 _).mono ?_
  rintro e w2 ⟨rfl, hb⟩
  replace Ba := Ba.ext hb rfl
  replace Bb := Bb.ext hb rfl
  replace Bc := Bc.ext hb rfl
  replace Bd := Bd.ext hb rfl
  replace hw := hw.trans (hb.mono hw.size)
  clear hb
  obtain ⟨xa, ya, za, va⟩ := Ba.facts
  obtain ⟨xb, yb, zb, vb⟩ := Bb.facts
  obtain ⟨xc, yc, zc, vc⟩ := Bc.facts
  obtain ⟨xd, yd, zd, vd⟩ := Bd.facts
  go_wp2_with fail
  refine at_call fun W3 hW => ?_
  have Ca : Box W3 (w.heap.size) [.int .i64 b.x, .int .i64 b.y] 33 := by rw [hW]; exact ((((Ba.set 0 (.int .i64 b.x)).set 1 (.int .i64 b.y)).set_ne ⟨w.heap.size + 1, 0, none⟩ (.int .i64 a.x) (by show (w.heap.size + 1 : Nat) ≠ _; omega)).set_ne ⟨w.heap.size + 1, 1, none⟩ (.int .i64 a.y) (by show (w.heap.size + 1 : Nat) ≠ _; omega))
  have Cb : Box W3 (w.heap.size + 1) [.int .i64 a.x, .int .i64 a.y] 33 := by rw [hW]; exact ((((Bb.set_ne ⟨w.heap.size, 0, none⟩ (.int .i64 b.x) (by show (w.heap.size : Nat) ≠ _; omega)).set_ne ⟨w.heap.size, 1, none⟩ (.int .i64 b.y) (by show (w.heap.size : Nat) ≠ _; omega)).set 0 (.int .i64 a.x)).set 1 (.int .i64 a.y))
  have Cc : Box W3 (w.heap.size + 1 + 1) [.int .i64 c.x, .int .i64 c.y] 33 := by rw [hW]; exact ((((Bc.set_ne ⟨w.heap.size, 0, none⟩ (.int .i64 b.x) (by show (w.heap.size : Nat) ≠ _; omega)).set_ne ⟨w.heap.size, 1, none⟩ (.int .i64 b.y) (by show (w.heap.size : Nat) ≠ _; omega)).set_ne ⟨w.heap.size + 1, 0, none⟩ (.int .i64 a.x) (by show (w.heap.size + 1 : Nat) ≠ _; omega)).set_ne ⟨w.heap.size + 1, 1, none⟩ (.int .i64 a.y) (by show (w.heap.size + 1 : Nat) ≠ _; omega))
  have Cd : Box W3 (w.heap.size + 1 + 1 + 1) [.int .i64 d.x, .int .i64 d.y] 33 := by rw [hW]; exact ((((Bd.set_ne ⟨w.heap.size, 0, none⟩ (.int .i64 b.x) (by show (w.heap.size : Nat) ≠ _; omega)).set_ne ⟨w.heap.size, 1, none⟩ (.int .i64 b.y) (by show (w.heap.size : Nat) ≠ _; omega)).set_ne ⟨w.heap.size + 1, 0, none⟩ (.int .i64 a.x) (by show (w.heap.size + 1 : Nat) ≠ _; omega)).set_ne ⟨w.heap.size + 1, 1, none⟩ (.int .i64 a.y) (by show (w.heap.size + 1 : Nat) ≠ _; omega))
  replace hw : Below w.heap.size w W3 := by have hl := hw.size; rw [hW]; go_grown
  clear xa ya za va xb yb zb vb xc yc zc vc xd yd zd vd
  clear hW Ba Bb Bc Bd
  have Ba := Ca
  have Bb := Cb
  have Bc := Cc
  have Bd := Cd
  clear Ca Cb Cc Cd
  refine (k2 _).mono ?_
  rintro e w4 ⟨rfl, hb⟩
  replace Ba := Ba.ext hb rfl
  replace Bb := Bb.ext hb rfl
  replace Bc := Bc.ext hb rfl
  replace Bd := Bd.ext hb rfl
  replace hw := hw.trans (hb.mono hw.size)
  clear hb
  obtain ⟨xa, ya, za, va⟩ := Ba.facts
  obtain ⟨xb, yb, zb, vb⟩ := Bb.facts
  obtain ⟨xc, yc, zc, vc⟩ := Bc.facts
  obtain ⟨xd, yd, zd, vd⟩ := Bd.facts
  go_wp2_with fail
  refine at_call fun W5 hW => ?_
  have Ca : Box W5 (w.heap.size) [.int .i64 b.x, .int .i64 b.y] 33 := by rw [hW]; exact ((((Ba.set_ne ⟨w.heap.size + 1 + 1, 0, none⟩ (.int .i64 d.x) (by show (w.heap.size + 1 + 1 : Nat) ≠ _; omega)).set_ne ⟨w.heap.size + 1 + 1, 1, none⟩ (.int .i64 d.y) (by show (w.heap.size + 1 + 1 : Nat) ≠ _; omega)).set_ne ⟨w.heap.size + 1 + 1 + 1, 0, none⟩ (.int .i64 c.x) (by show (w.heap.size + 1 + 1 + 1 : Nat) ≠ _; omega)).set_ne ⟨w.heap.size + 1 + 1 + 1, 1, none⟩ (.int .i64 c.y) (by show (w.heap.size + 1 + 1 + 1 : Nat) ≠ _; omega))
  have Cb : Box W5 (w.heap.size + 1) [.int .i64 a.x, .int .i64 a.y] 33 := by rw [hW]; exact ((((Bb.set_ne ⟨w.heap.size + 1 + 1, 0, none⟩ (.int .i64 d.x) (by show (w.heap.size + 1 + 1 : Nat) ≠ _; omega)).set_ne ⟨w.heap.size + 1 + 1, 1, none⟩ (.int .i64 d.y) (by show (w.heap.size + 1 + 1 : Nat) ≠ _; omega)).set_ne ⟨w.heap.size + 1 + 1 + 1, 0, none⟩ (.int .i64 c.x) (by show (w.heap.size + 1 + 1 + 1 : Nat) ≠ _; omega)).set_ne ⟨w.heap.size + 1 + 1 + 1, 1, none⟩ (.int .i64 c.y) (by show (w.heap.size + 1 + 1 + 1 : Nat) ≠ _; omega))
  have Cc : Box W5 (w.heap.size + 1 + 1) [.int .i64 d.x, .int .i64 d.y] 33 := by rw [hW]; exact ((((Bc.set 0 (.int .i64 d.x)).set 1 (.int .i64 d.y)).set_ne ⟨w.heap.size + 1 + 1 + 1, 0, none⟩ (.int .i64 c.x) (by show (w.heap.size + 1 + 1 + 1 : Nat) ≠ _; omega)).set_ne ⟨w.heap.size + 1 + 1 + 1, 1, none⟩ (.int .i64 c.y) (by show (w.heap.size + 1 + 1 + 1 : Nat) ≠ _; omega))
  have Cd : Box W5 (w.heap.size + 1 + 1 + 1) [.int .i64 c.x, .int .i64 c.y] 33 := by rw [hW]; exact ((((Bd.set_ne ⟨w.heap.size + 1 + 1, 0, none⟩ (.int .i64 d.x) (by show (w.heap.size + 1 + 1 : Nat) ≠ _; omega)).set_ne ⟨w.heap.size + 1 + 1, 1, none⟩ (.int .i64 d.y) (by show (w.heap.size + 1 + 1 : Nat) ≠ _; omega)).set 0 (.int .i64 c.x)).set 1 (.int .i64 c.y))
  replace hw : Below w.heap.size w W5 := by have hl := hw.size; rw [hW]; go_grown
  clear xa ya za va xb yb zb vb xc yc zc vc xd yd zd vd
  clear hW Ba Bb Bc Bd
  have Ba := Ca
  have Bb := Cb
  have Bc := Cc
  have Bd := Cd
  clear Ca Cb Cc Cd
  refine (k3 _).mono ?_
  rintro e w6 ⟨rfl, hb⟩
  replace Ba := Ba.ext hb rfl
  replace Bb := Bb.ext hb rfl
  replace Bc := Bc.ext hb rfl
  replace Bd := Bd.ext hb rfl
  replace hw := hw.trans (hb.mono hw.size)
  clear hb
  go_wp2
  go_ret
  exact ⟨rfl, hw⟩

theorem mil_111 (a b c d : Pt) (g1 : decide (cmpP b a < 0) = true) (g2 : decide (cmpP d c < 0) = true) (g3 : decide (cmpP b c < 0) = true) (g4 : decide (cmpP d a < 0) = false) (w : World) :
    Calls Try.prog 88 #[.agg #[.int .i64 a.x, .int .i64 a.y], .agg #[.int .i64 b.x, .int .i64 b.y], .agg #[.int .i64 c.x, .int .i64 c.y], .agg #[.int .i64 d.x, .int .i64 d.y]] w fun e w' => e = .returned (.int .i64 0) ∧ Below w.heap.size w w' := by
  have k1 := cmp_pt b a
  have k2 := cmp_pt d c
  have k3 := cmp_pt b c
  have k4 := cmp_pt d a
  generalize cmpP b a = x0 at *
  generalize cmpP d c = x1 at *
  generalize cmpP b c = x2 at *
  generalize cmpP d a = x3 at *
  go_enter Try.func88, Try.ntmps88
  go_wp2_with fail
  refine at_call fun W1 hW => ?_
  have Ba : Box W1 (w.heap.size) [.int .i64 a.x, .int .i64 a.y] 33 := by rw [hW]; exact (((Box.new rfl).old _).old _).old _
  have Bb : Box W1 (w.heap.size + 1) [.int .i64 b.x, .int .i64 b.y] 33 := by rw [hW]; exact ((Box.new (by simp)).old _).old _
  have Bc : Box W1 (w.heap.size + 1 + 1) [.int .i64 c.x, .int .i64 c.y] 33 := by rw [hW]; exact (Box.new (by simp)).old _
  have Bd : Box W1 (w.heap.size + 1 + 1 + 1) [.int .i64 d.x, .int .i64 d.y] 33 := by rw [hW]; exact Box.new (by simp)
  have hw : Below w.heap.size w W1 := by rw [hW]; go_grown
  clear hW
  refine (k1 _).mono ?_
  rintro e w2 ⟨rfl, hb⟩
  replace Ba := Ba.ext hb rfl
  replace Bb := Bb.ext hb rfl
  replace Bc := Bc.ext hb rfl
  replace Bd := Bd.ext hb rfl
  replace hw := hw.trans (hb.mono hw.size)
  clear hb
  obtain ⟨xa, ya, za, va⟩ := Ba.facts
  obtain ⟨xb, yb, zb, vb⟩ := Bb.facts
  obtain ⟨xc, yc, zc, vc⟩ := Bc.facts
  obtain ⟨xd, yd, zd, vd⟩ := Bd.facts
  go_wp2_with fail
  refine at_call fun W3 hW => ?_
  have Ca : Box W3 (w.heap.size) [.int .i64 b.x, .int .i64 b.y] 33 := by rw [hW]; exact ((((Ba.set 0 (.int .i64 b.x)).set 1 (.int .i64 b.y)).set_ne ⟨w.heap.size + 1, 0, none⟩ (.int .i64 a.x) (by show (w.heap.size + 1 : Nat) ≠ _; omega)).set_ne ⟨w.heap.size + 1, 1, none⟩ (.int .i64 a.y) (by show (w.heap.size + 1 : Nat) ≠ _; omega))
  have Cb : Box W3 (w.heap.size + 1) [.int .i64 a.x, .int .i64 a.y] 33 := by rw [hW]; exact ((((Bb.set_ne ⟨w.heap.size, 0, none⟩ (.int .i64 b.x) (by show (w.heap.size : Nat) ≠ _; omega)).set_ne ⟨w.heap.size, 1, none⟩ (.int .i64 b.y) (by show (w.heap.size : Nat) ≠ _; omega)).set 0 (.int .i64 a.x)).set 1 (.int .i64 a.y))
  have Cc : Box W3 (w.heap.size + 1 + 1) [.int .i64 c.x, .int .i64 c.y] 33 := by rw [hW]; exact ((((Bc.set_ne ⟨w.heap.size, 0, none⟩ (.int .i64 b.x) (by show (w.heap.size : Nat) ≠ _; omega)).set_ne ⟨w.heap.size, 1, none⟩ (.int .i64 b.y) (by show (w.heap.size : Nat) ≠ _; omega)).set_ne ⟨w.heap.size + 1, 0, none⟩ (.int .i64 a.x) (by show (w.heap.size + 1 : Nat) ≠ _; omega)).set_ne ⟨w.heap.size + 1, 1, none⟩ (.int .i64 a.y) (by show (w.heap.size + 1 : Nat) ≠ _; omega))
  have Cd : Box W3 (w.heap.size + 1 + 1 + 1) [.int .i64 d.x, .int .i64 d.y] 33 := by rw [hW]; exact ((((Bd.set_ne ⟨w.heap.size, 0, none⟩ (.int .i64 b.x) (by show (w.heap.size : Nat) ≠ _; omega)).set_ne ⟨w.heap.size, 1, none⟩ (.int .i64 b.y) (by show (w.heap.size : Nat) ≠ _; omega)).set_ne ⟨w.heap.size + 1, 0, none⟩ (.int .i64 a.x) (by show (w.heap.size + 1 : Nat) ≠ _; omega)).set_ne ⟨w.heap.size + 1, 1, none⟩ (.int .i64 a.y) (by show (w.heap.size + 1 : Nat) ≠ _; omega))
  replace hw : Below w.heap.size w W3 := by have hl := hw.size; rw [hW]; go_grown
  clear xa ya za va xb yb zb vb xc yc zc vc xd yd zd vd
  clear hW Ba Bb Bc Bd
  have Ba := Ca
  have Bb := Cb
  have Bc := Cc
  have Bd := Cd
  clear Ca Cb Cc Cd
  refine (k2 _).mono ?_
  rintro e w4 ⟨rfl, hb⟩
  replace Ba := Ba.ext hb rfl
  replace Bb := Bb.ext hb rfl
  replace Bc := Bc.ext hb rfl
  replace Bd := Bd.ext hb rfl
  replace hw := hw.trans (hb.mono hw.size)
  clear hb
  obtain ⟨xa, ya, za, va⟩ := Ba.facts
  obtain ⟨xb, yb, zb, vb⟩ := Bb.facts
  obtain ⟨xc, yc, zc, vc⟩ := Bc.facts
  obtain ⟨xd, yd, zd, vd⟩ := Bd.facts
  go_wp2_with fail
  refine at_call fun W5 hW => ?_
  have Ca : Box W5 (w.heap.size) [.int .i64 b.x, .int .i64 b.y] 33 := by rw [hW]; exact ((((Ba.set_ne ⟨w.heap.size + 1 + 1, 0, none⟩ (.int .i64 d.x) (by show (w.heap.size + 1 + 1 : Nat) ≠ _; omega)).set_ne ⟨w.heap.size + 1 + 1, 1, none⟩ (.int .i64 d.y) (by show (w.heap.size + 1 + 1 : Nat) ≠ _; omega)).set_ne ⟨w.heap.size + 1 + 1 + 1, 0, none⟩ (.int .i64 c.x) (by show (w.heap.size + 1 + 1 + 1 : Nat) ≠ _; omega)).set_ne ⟨w.heap.size + 1 + 1 + 1, 1, none⟩ (.int .i64 c.y) (by show (w.heap.size + 1 + 1 + 1 : Nat) ≠ _; omega))
  have Cb : Box W5 (w.heap.size + 1) [.int .i64 a.x, .int .i64 a.y] 33 := by rw [hW]; exact ((((Bb.set_ne ⟨w.heap.size + 1 + 1, 0, none⟩ (.int .i64 d.x) (by show (w.heap.size + 1 + 1 : Nat) ≠ _; omega)).set_ne ⟨w.heap.size + 1 + 1, 1, none⟩ (.int .i64 d.y) (by show (w.heap.size + 1 + 1 : Nat) ≠ _; omega)).set_ne ⟨w.heap.size + 1 + 1 + 1, 0, none⟩ (.int .i64 c.x) (by show (w.heap.size + 1 + 1 + 1 : Nat) ≠ _; omega)).set_ne ⟨w.heap.size + 1 + 1 + 1, 1, none⟩ (.int .i64 c.y) (by show (w.heap.size + 1 + 1 + 1 : Nat) ≠ _; omega))
  have Cc : Box W5 (w.heap.size + 1 + 1) [.int .i64 d.x, .int .i64 d.y] 33 := by rw [hW]; exact ((((Bc.set 0 (.int .i64 d.x)).set 1 (.int .i64 d.y)).set_ne ⟨w.heap.size + 1 + 1 + 1, 0, none⟩ (.int .i64 c.x) (by show (w.heap.size + 1 + 1 + 1 : Nat) ≠ _; omega)).set_ne ⟨w.heap.size + 1 + 1 + 1, 1, none⟩ (.int .i64 c.y) (by show (w.heap.size + 1 + 1 + 1 : Nat) ≠ _; omega))
  have Cd : Box W5 (w.heap.size + 1 + 1 + 1) [.int .i64 c.x, .int .i64 c.y] 33 := by rw [hW]; exact ((((Bd.set_ne ⟨w.heap.size + 1 + 1, 0, none⟩ (.int .i64 d.x) (by show (w.heap.size + 1 + 1 : Nat) ≠ _; omega)).set_ne ⟨w.heap.size + 1 + 1, 1, none⟩ (.int .i64 d.y) (by show (w.heap.size + 1 + 1 : Nat) ≠ _; omega)).set 0 (.int .i64 c.x)).set 1 (.int .i64 c.y))
  replace hw : Below w.heap.size w W5 := by have hl := hw.size; rw [hW]; go_grown
  clear xa ya za va xb yb zb vb xc yc zc vc xd yd zd vd
  clear hW Ba Bb Bc Bd
  have Ba := Ca
  have Bb := Cb
  have Bc := Cc
  have Bd := Cd
  clear Ca Cb Cc Cd
  refine (k3 _).mono ?_
  rintro e w6 ⟨rfl, hb⟩
  replace Ba := Ba.ext hb rfl
  replace Bb := Bb.ext hb rfl
  replace Bc := Bc.ext hb rfl
  replace Bd := Bd.ext hb rfl
  replace hw := hw.trans (hb.mono hw.size)
  clear hb
  obtain ⟨xa, ya, za, va⟩ := Ba.facts
  obtain ⟨xb, yb, zb, vb⟩ := Bb.facts
  obtain ⟨xc, yc, zc, vc⟩ := Bc.facts
  obtain ⟨xd, yd, zd, vd⟩ := Bd.facts
  go_wp2_with fail
  refine (k4 _).mono ?_
  rintro e w7 ⟨rfl, hb⟩
  clear xa ya za va xb yb zb vb xc yc zc vc xd yd zd vd
  replace Ba := Ba.ext hb rfl
  replace Bb := Bb.ext hb rfl
  replace Bc := Bc.ext hb rfl
  replace Bd := Bd.ext hb rfl
  replace hw := hw.trans (hb.mono hw.size)
  clear hb
  go_wp2
  go_ret
  exact ⟨rfl, hw⟩

theorem mil_112 (a b c d : Pt) (g1 : decide (cmpP b a < 0) = true) (g2 : decide (cmpP d c < 0) = true) (g3 : decide (cmpP b c < 0) = true) (g4 : decide (cmpP d a < 0) = true) (w : World) :
    Calls Try.prog 88 #[.agg #[.int .i64 a.x, .int .i64 a.y], .agg #[.int .i64 b.x, .int .i64 b.y], .agg #[.int .i64 c.x, .int .i64 c.y], .agg #[.int .i64 d.x, .int .i64 d.y]] w fun e w' => e = .returned (.int .i64 3) ∧ Below w.heap.size w w' := by
  have k1 := cmp_pt b a
  have k2 := cmp_pt d c
  have k3 := cmp_pt b c
  have k4 := cmp_pt d a
  generalize cmpP b a = x0 at *
  generalize cmpP d c = x1 at *
  generalize cmpP b c = x2 at *
  generalize cmpP d a = x3 at *
  go_enter Try.func88, Try.ntmps88
  go_wp2_with fail
  refine at_call fun W1 hW => ?_
  have Ba : Box W1 (w.heap.size) [.int .i64 a.x, .int .i64 a.y] 33 := by rw [hW]; exact (((Box.new rfl).old _).old _).old _
  have Bb : Box W1 (w.heap.size + 1) [.int .i64 b.x, .int .i64 b.y] 33 := by rw [hW]; exact ((Box.new (by simp)).old _).old _
  have Bc : Box W1 (w.heap.size + 1 + 1) [.int .i64 c.x, .int .i64 c.y] 33 := by rw [hW]; exact (Box.new (by simp)).old _
  have Bd : Box W1 (w.heap.size + 1 + 1 + 1) [.int .i64 d.x, .int .i64 d.y] 33 := by rw [hW]; exact Box.new (by simp)
  have hw : Below w.heap.size w W1 := by rw [hW]; go_grown
  clear hW
  refine (k1 _).mono ?_
  rintro e w2 ⟨rfl, hb⟩
  replace Ba := Ba.ext hb rfl
  replace Bb := Bb.ext hb rfl
  replace Bc := Bc.ext hb rfl
  replace Bd := Bd.ext hb rfl
  replace hw := hw.trans (hb.mono hw.size)
  clear hb
  obtain ⟨xa, ya, za, va⟩ := Ba.facts
  obtain ⟨xb, yb, zb, vb⟩ := Bb.facts
  obtain ⟨xc, yc, zc, vc⟩ := Bc.facts
  obtain ⟨xd, yd, zd, vd⟩ := Bd.facts
  go_wp2_with fail
  refine at_call fun W3 hW => ?_
  have Ca : Box W3 (w.heap.size) [.int .i64 b.x, .int .i64 b.y] 33 := by rw [hW]; exact ((((Ba.set 0 (.int .i64 b.x)).set 1 (.int .i64 b.y)).set_ne ⟨w.heap.size + 1, 0, none⟩ (.int .i64 a.x) (by show (w.heap.size + 1 : Nat) ≠ _; omega)).set_ne ⟨w.heap.size + 1, 1, none⟩ (.int .i64 a.y) (by show (w.heap.size + 1 : Nat) ≠ _; omega))
  have Cb : Box W3 (w.heap.size + 1) [.int .i64 a.x, .int .i64 a.y] 33 := by rw [hW]; exact ((((Bb.set_ne ⟨w.heap.size, 0, none⟩ (.int .i64 b.x) (by show (w.heap.size : Nat) ≠ _; omega)).set_ne ⟨w.heap.size, 1, none⟩ (.int .i64 b.y) (by show (w.heap.size : Nat) ≠ _; omega)).set 0 (.int .i64 a.x)).set 1 (.int .i64 a.y))
  have Cc : Box W3 (w.heap.size + 1 + 1) [.int .i64 c.x, .int .i64 c.y] 33 := by rw [hW]; exact ((((Bc.set_ne ⟨w.heap.size, 0, none⟩ (.int .i64 b.x) (by show (w.heap.size : Nat) ≠ _; omega)).set_ne ⟨w.heap.size, 1, none⟩ (.int .i64 b.y) (by show (w.heap.size : Nat) ≠ _; omega)).set_ne ⟨w.heap.size + 1, 0, none⟩ (.int .i64 a.x) (by show (w.heap.size + 1 : Nat) ≠ _; omega)).set_ne ⟨w.heap.size + 1, 1, none⟩ (.int .i64 a.y) (by show (w.heap.size + 1 : Nat) ≠ _; omega))
  have Cd : Box W3 (w.heap.size + 1 + 1 + 1) [.int .i64 d.x, .int .i64 d.y] 33 := by rw [hW]; exact ((((Bd.set_ne ⟨w.heap.size, 0, none⟩ (.int .i64 b.x) (by show (w.heap.size : Nat) ≠ _; omega)).set_ne ⟨w.heap.size, 1, none⟩ (.int .i64 b.y) (by show (w.heap.size : Nat) ≠ _; omega)).set_ne ⟨w.heap.size + 1, 0, none⟩ (.int .i64 a.x) (by show (w.heap.size + 1 : Nat) ≠ _; omega)).set_ne ⟨w.heap.size + 1, 1, none⟩ (.int .i64 a.y) (by show (w.heap.size + 1 : Nat) ≠ _; omega))
  replace hw : Below w.heap.size w W3 := by have hl := hw.size; rw [hW]; go_grown
  clear xa ya za va xb yb zb vb xc yc zc vc xd yd zd vd
  clear hW Ba Bb Bc Bd
  have Ba := Ca
  have Bb := Cb
  have Bc := Cc
  have Bd := Cd
  clear Ca Cb Cc Cd
  refine (k2 _).mono ?_
  rintro e w4 ⟨rfl, hb⟩
  replace Ba := Ba.ext hb rfl
  replace Bb := Bb.ext hb rfl
  replace Bc := Bc.ext hb rfl
  replace Bd := Bd.ext hb rfl
  replace hw := hw.trans (hb.mono hw.size)
  clear hb
  obtain ⟨xa, ya, za, va⟩ := Ba.facts
  obtain ⟨xb, yb, zb, vb⟩ := Bb.facts
  obtain ⟨xc, yc, zc, vc⟩ := Bc.facts
  obtain ⟨xd, yd, zd, vd⟩ := Bd.facts
  go_wp2_with fail
  refine at_call fun W5 hW => ?_
  have Ca : Box W5 (w.heap.size) [.int .i64 b.x, .int .i64 b.y] 33 := by rw [hW]; exact ((((Ba.set_ne ⟨w.heap.size + 1 + 1, 0, none⟩ (.int .i64 d.x) (by show (w.heap.size + 1 + 1 : Nat) ≠ _; omega)).set_ne ⟨w.heap.size + 1 + 1, 1, none⟩ (.int .i64 d.y) (by show (w.heap.size + 1 + 1 : Nat) ≠ _; omega)).set_ne ⟨w.heap.size + 1 + 1 + 1, 0, none⟩ (.int .i64 c.x) (by show (w.heap.size + 1 + 1 + 1 : Nat) ≠ _; omega)).set_ne ⟨w.heap.size + 1 + 1 + 1, 1, none⟩ (.int .i64 c.y) (by show (w.heap.size + 1 + 1 + 1 : Nat) ≠ _; omega))
  have Cb : Box W5 (w.heap.size + 1) [.int .i64 a.x, .int .i64 a.y] 33 := by rw [hW]; exact ((((Bb.set_ne ⟨w.heap.size + 1 + 1, 0, none⟩ (.int .i64 d.x) (by show (w.heap.size + 1 + 1 : Nat) ≠ _; omega)).set_ne ⟨w.heap.size + 1 + 1, 1, none⟩ (.int .i64 d.y) (by show (w.heap.size + 1 + 1 : Nat) ≠ _; omega)).set_ne ⟨w.heap.size + 1 + 1 + 1, 0, none⟩ (.int .i64 c.x) (by show (w.heap.size + 1 + 1 + 1 : Nat) ≠ _; omega)).set_ne ⟨w.heap.size + 1 + 1 + 1, 1, none⟩ (.int .i64 c.y) (by show (w.heap.size + 1 + 1 + 1 : Nat) ≠ _; omega))
  have Cc : Box W5 (w.heap.size + 1 + 1) [.int .i64 d.x, .int .i64 d.y] 33 := by rw [hW]; exact ((((Bc.set 0 (.int .i64 d.x)).set 1 (.int .i64 d.y)).set_ne ⟨w.heap.size + 1 + 1 + 1, 0, none⟩ (.int .i64 c.x) (by show (w.heap.size + 1 + 1 + 1 : Nat) ≠ _; omega)).set_ne ⟨w.heap.size + 1 + 1 + 1, 1, none⟩ (.int .i64 c.y) (by show (w.heap.size + 1 + 1 + 1 : Nat) ≠ _; omega))
  have Cd : Box W5 (w.heap.size + 1 + 1 + 1) [.int .i64 c.x, .int .i64 c.y] 33 := by rw [hW]; exact ((((Bd.set_ne ⟨w.heap.size + 1 + 1, 0, none⟩ (.int .i64 d.x) (by show (w.heap.size + 1 + 1 : Nat) ≠ _; omega)).set_ne ⟨w.heap.size + 1 + 1, 1, none⟩ (.int .i64 d.y) (by show (w.heap.size + 1 + 1 : Nat) ≠ _; omega)).set 0 (.int .i64 c.x)).set 1 (.int .i64 c.y))
  replace hw : Below w.heap.size w W5 := by have hl := hw.size; rw [hW]; go_grown
  clear xa ya za va xb yb zb vb xc yc zc vc xd yd zd vd
  clear hW Ba Bb Bc Bd
  have Ba := Ca
  have Bb := Cb
  have Bc := Cc
  have Bd := Cd
  clear Ca Cb Cc Cd
  refine (k3 _).mono ?_
  rintro e w6 ⟨rfl, hb⟩
  replace Ba := Ba.ext hb rfl
  replace Bb := Bb.ext hb rfl
  replace Bc := Bc.ext hb rfl
  replace Bd := Bd.ext hb rfl
  replace hw := hw.trans (hb.mono hw.size)
  clear hb
  obtain ⟨xa, ya, za, va⟩ := Ba.facts
  obtain ⟨xb, yb, zb, vb⟩ := Bb.facts
  obtain ⟨xc, yc, zc, vc⟩ := Bc.facts
  obtain ⟨xd, yd, zd, vd⟩ := Bd.facts
  go_wp2_with fail
  refine (k4 _).mono ?_
  rintro e w7 ⟨rfl, hb⟩
  clear xa ya za va xb yb zb vb xc yc zc vc xd yd zd vd
  replace Ba := Ba.ext hb rfl
  replace Bb := Bb.ext hb rfl
  replace Bc := Bc.ext hb rfl
  replace Bd := Bd.ext hb rfl
  replace hw := hw.trans (hb.mono hw.size)
  clear hb
  go_wp2
  go_ret
  exact ⟨rfl, hw⟩

theorem mil_any (a b c d : Pt) (w : World) :
    Calls Try.prog 88 #[.agg #[.int .i64 a.x, .int .i64 a.y], .agg #[.int .i64 b.x, .int .i64 b.y], .agg #[.int .i64 c.x, .int .i64 c.y], .agg #[.int .i64 d.x, .int .i64 d.y]] w fun e w' => e = .returned (.int .i64 (mil a b c d)) ∧ Below w.heap.size w w' := by
  have dt : ∀ {x : Int}, x < 0 → decide (x < 0) = true := fun h => by simpa using h
  have df : ∀ {x : Int}, ¬ x < 0 → decide (x < 0) = false := fun h => by simpa using h
  unfold mil lo2 hi2
  by_cases g1 : cmpP b a < 0
  · by_cases g2 : cmpP d c < 0
    · simp only [if_pos g1, if_pos g2]
      by_cases g3 : cmpP b c < 0
      · by_cases g4 : cmpP d a < 0
        · rw [if_pos g3, if_pos g4]; exact mil_112 a b c d (dt g1) (dt g2) (dt g3) (dt g4) w
        · rw [if_pos g3, if_neg g4]; exact mil_111 a b c d (dt g1) (dt g2) (dt g3) (df g4) w
      · rw [if_neg g3]; exact mil_110 a b c d (dt g1) (dt g2) (df g3) w
    · simp only [if_pos g1, if_neg g2]
      by_cases g3 : cmpP b d < 0
      · by_cases g4 : cmpP c a < 0
        · rw [if_pos g3, if_pos g4]; exact mil_102 a b c d (dt g1) (df g2) (dt g3) (dt g4) w
        · rw [if_pos g3, if_neg g4]; exact mil_101 a b c d (dt g1) (df g2) (dt g3) (df g4) w
      · rw [if_neg g3]; exact mil_100 a b c d (dt g1) (df g2) (df g3) w
  · by_cases g2 : cmpP d c < 0
    · simp only [if_neg g1, if_pos g2]
      by_cases g3 : cmpP a c < 0
      · by_cases g4 : cmpP d b < 0
        · rw [if_pos g3, if_pos g4]; exact mil_012 a b c d (df g1) (dt g2) (dt g3) (dt g4) w
        · rw [if_pos g3, if_neg g4]; exact mil_011 a b c d (df g1) (dt g2) (dt g3) (df g4) w
      · rw [if_neg g3]; exact mil_010 a b c d (df g1) (dt g2) (df g3) w
    · simp only [if_neg g1, if_neg g2]
      by_cases g3 : cmpP a d < 0
      · by_cases g4 : cmpP c b < 0
        · rw [if_pos g3, if_pos g4]; exact mil_002 a b c d (df g1) (df g2) (dt g3) (dt g4) w
        · rw [if_pos g3, if_neg g4]; exact mil_001 a b c d (df g1) (df g2) (dt g3) (df g4) w
      · rw [if_neg g3]; exact mil_000 a b c d (df g1) (df g2) (df g3) w
end Go.Proofs.Ytnocdecimcpkfaa
