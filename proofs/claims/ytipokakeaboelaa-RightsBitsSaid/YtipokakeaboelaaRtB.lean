/- Which capability is narrower: package rights' contracts and the document's own. -/
import Derived.Test.YtipokakeaboelaaRows
import Derived.Test.YtipokakeaboelaaRtA
import Derived.WalkKit
import Derived.WalkSpells
import Derived.WalkLawsBesides
import Derived.Deep.QuietTactic
import Derived.BigQuiet
import Derived.Lib.Hide
import Derived.Handy
namespace Go.Proofs.Ytipokakeaboelaa
open Go.RowKit Go.Sort
attribute [local go_sem] rOper rAt rUpon cell_set sg_i64 sg_u64 alloc_cell alloc_frozen
attribute [local irreducible] rWalk

def inn (c p : Cp) : Bool := (c.p == p.p) && wR c.r p.r && decide (c.u ≤ p.u) && ((c.l == p.l) || (p.l == 0))
theorem nar_inn (c p : Cp) : nar c p = ((c.fi == p.i) && (c.fn == p.n) && inn c p) := rfl
theorem inner_0 (c p : Cp) (h1 : (c.p == p.p) = false) (w : World) :
    Calls Try.prog 18 #[.agg #[.int .i64 c.p, .int .i64 c.i, .int .i64 c.n, .int .i64 c.h, .int .i64 c.l, .int .i64 c.r, .int .i64 c.u, .int .i64 c.fi, .int .i64 c.fn], .agg #[.int .i64 p.p, .int .i64 p.i, .int .i64 p.n, .int .i64 p.h, .int .i64 p.l, .int .i64 p.r, .int .i64 p.u, .int .i64 p.fi, .int .i64 p.fn]] w fun e w' => e = .returned (.bool (inn c p)) ∧ Below w.heap.size w w' := by
  unfold inn
  rw [h1]
  go_enter Try.func18, Try.ntmps18
  go_wp2
  go_ret
  exact ⟨rfl, by go_grown⟩
theorem inner_1 (c p : Cp) (hc : rng c.r) (hp : rng p.r) (h1 : (c.p == p.p) = true) (w : World) :
    Calls Try.prog 18 #[.agg #[.int .i64 c.p, .int .i64 c.i, .int .i64 c.n, .int .i64 c.h, .int .i64 c.l, .int .i64 c.r, .int .i64 c.u, .int .i64 c.fi, .int .i64 c.fn], .agg #[.int .i64 p.p, .int .i64 p.i, .int .i64 p.n, .int .i64 p.h, .int .i64 p.l, .int .i64 p.r, .int .i64 p.u, .int .i64 p.fi, .int .i64 p.fn]] w fun e w' => e = .returned (.bool (inn c p)) ∧ Below w.heap.size w w' := by
  have k := within_any hc hp
  unfold inn
  rw [h1]
  generalize wR c.r p.r = W at k ⊢
  go_enter Try.func18, Try.ntmps18
  go_wp2_with fail
  refine at_call fun W1 hW => ?_
  have Bc : Box W1 (w.heap.size) [.int .i64 c.p, .int .i64 c.i, .int .i64 c.n, .int .i64 c.h, .int .i64 c.l, .int .i64 c.r, .int .i64 c.u, .int .i64 c.fi, .int .i64 c.fn] 23 := by rw [hW]; exact (Box.new rfl).old _
  have Bp : Box W1 (w.heap.size + 1) [.int .i64 p.p, .int .i64 p.i, .int .i64 p.n, .int .i64 p.h, .int .i64 p.l, .int .i64 p.r, .int .i64 p.u, .int .i64 p.fi, .int .i64 p.fn] 23 := by rw [hW]; exact Box.new (by simp)
  have hw : Below w.heap.size w W1 := by rw [hW]; go_grown
  clear hW
  refine (k _).mono ?_
  rintro e w2 ⟨rfl, hb⟩
  replace Bc := Bc.ext hb rfl
  replace Bp := Bp.ext hb rfl
  replace hw := hw.trans (hb.mono hw.size)
  clear hb
  obtain ⟨xc, yc, zc, vc⟩ := Bc.facts
  obtain ⟨xp, yp, zp, vp⟩ := Bp.facts
  trace_state
  cases h5 : W with
  | false =>
    go_wp2
    go_ret
    exact ⟨ret_bool (by simp [h5]), hw⟩
  | true =>
    cases h2 : decide (c.u ≤ p.u) with
    | false =>
      go_wp2
      go_ret
      exact ⟨ret_bool (by simp [h5, h2]), hw⟩
    | true =>
      cases h3 : (c.l == p.l) with
      | false =>
        go_wp2
        go_ret
        exact ⟨ret_bool (by simp [h5, h2, h3]), hw⟩
      | true =>
        go_wp2
        go_ret
        exact ⟨ret_bool (by simp [h5, h2, h3]), hw⟩
theorem inner_any (c p : Cp) (hc : rng c.r) (hp : rng p.r) (w : World) :
    Calls Try.prog 18 #[.agg #[.int .i64 c.p, .int .i64 c.i, .int .i64 c.n, .int .i64 c.h, .int .i64 c.l, .int .i64 c.r, .int .i64 c.u, .int .i64 c.fi, .int .i64 c.fn], .agg #[.int .i64 p.p, .int .i64 p.i, .int .i64 p.n, .int .i64 p.h, .int .i64 p.l, .int .i64 p.r, .int .i64 p.u, .int .i64 p.fi, .int .i64 p.fn]] w fun e w' => e = .returned (.bool (inn c p)) ∧ Below w.heap.size w w' := by
  cases h1 : (c.p == p.p) with
  | false => exact inner_0 c p h1 w
  | true => exact inner_1 c p hc hp h1 w
theorem nar_0 (c p : Cp) (h1 : (c.fi == p.i) = false) (w : World) :
    Calls Try.prog 12 #[.agg #[.int .i64 c.p, .int .i64 c.i, .int .i64 c.n, .int .i64 c.h, .int .i64 c.l, .int .i64 c.r, .int .i64 c.u, .int .i64 c.fi, .int .i64 c.fn], .agg #[.int .i64 p.p, .int .i64 p.i, .int .i64 p.n, .int .i64 p.h, .int .i64 p.l, .int .i64 p.r, .int .i64 p.u, .int .i64 p.fi, .int .i64 p.fn]] w fun e w' => e = .returned (.bool (nar c p)) ∧ Below w.heap.size w w' := by
  rw [nar_inn, h1]
  go_enter Try.func12, Try.ntmps12
  go_wp2
  go_ret
  exact ⟨rfl, by go_grown⟩
theorem nar_1 (c p : Cp) (h1 : (c.fi == p.i) = true) (h2 : (c.fn == p.n) = false) (w : World) :
    Calls Try.prog 12 #[.agg #[.int .i64 c.p, .int .i64 c.i, .int .i64 c.n, .int .i64 c.h, .int .i64 c.l, .int .i64 c.r, .int .i64 c.u, .int .i64 c.fi, .int .i64 c.fn], .agg #[.int .i64 p.p, .int .i64 p.i, .int .i64 p.n, .int .i64 p.h, .int .i64 p.l, .int .i64 p.r, .int .i64 p.u, .int .i64 p.fi, .int .i64 p.fn]] w fun e w' => e = .returned (.bool (nar c p)) ∧ Below w.heap.size w w' := by
  rw [nar_inn, h1, h2]
  go_enter Try.func12, Try.ntmps12
  go_wp2
  go_ret
  exact ⟨rfl, by go_grown⟩
theorem nar_2 (c p : Cp) (hc : rng c.r) (hp : rng p.r) (h1 : (c.fi == p.i) = true) (h2 : (c.fn == p.n) = true) (w : World) :
    Calls Try.prog 12 #[.agg #[.int .i64 c.p, .int .i64 c.i, .int .i64 c.n, .int .i64 c.h, .int .i64 c.l, .int .i64 c.r, .int .i64 c.u, .int .i64 c.fi, .int .i64 c.fn], .agg #[.int .i64 p.p, .int .i64 p.i, .int .i64 p.n, .int .i64 p.h, .int .i64 p.l, .int .i64 p.r, .int .i64 p.u, .int .i64 p.fi, .int .i64 p.fn]] w fun e w' => e = .returned (.bool (nar c p)) ∧ Below w.heap.size w w' := by
  have k := inner_any c p hc hp
  rw [nar_inn, h1, h2]
  generalize inn c p = W at k ⊢
  go_enter Try.func12, Try.ntmps12
  go_wp2_with fail
  refine at_call fun W1 hW => ?_
  have Bc : Box W1 (w.heap.size) [.int .i64 c.p, .int .i64 c.i, .int .i64 c.n, .int .i64 c.h, .int .i64 c.l, .int .i64 c.r, .int .i64 c.u, .int .i64 c.fi, .int .i64 c.fn] 23 := by rw [hW]; exact (Box.new rfl).old _
  have Bp : Box W1 (w.heap.size + 1) [.int .i64 p.p, .int .i64 p.i, .int .i64 p.n, .int .i64 p.h, .int .i64 p.l, .int .i64 p.r, .int .i64 p.u, .int .i64 p.fi, .int .i64 p.fn] 23 := by rw [hW]; exact Box.new (by simp)
  have hw : Below w.heap.size w W1 := by rw [hW]; go_grown
  clear hW
  refine (k _).mono ?_
  rintro e w2 ⟨rfl, hb⟩
  replace Bc := Bc.ext hb rfl
  replace Bp := Bp.ext hb rfl
  replace hw := hw.trans (hb.mono hw.size)
  clear hb
  obtain ⟨xc, yc, zc, vc⟩ := Bc.facts
  obtain ⟨xp, yp, zp, vp⟩ := Bp.facts
  go_wp2
  go_ret
  exact ⟨rfl, hw⟩
theorem nar_any (c p : Cp) (hc : rng c.r) (hp : rng p.r) (w : World) :
    Calls Try.prog 12 #[.agg #[.int .i64 c.p, .int .i64 c.i, .int .i64 c.n, .int .i64 c.h, .int .i64 c.l, .int .i64 c.r, .int .i64 c.u, .int .i64 c.fi, .int .i64 c.fn], .agg #[.int .i64 p.p, .int .i64 p.i, .int .i64 p.n, .int .i64 p.h, .int .i64 p.l, .int .i64 p.r, .int .i64 p.u, .int .i64 p.fi, .int .i64 p.fn]] w fun e w' => e = .returned (.bool (nar c p)) ∧ Below w.heap.size w w' := by
  cases h1 : (c.fi == p.i) with
  | false => exact nar_0 c p h1 w
  | true => cases h2 : (c.fn == p.n) with
    | false => exact nar_1 c p h1 h2 w
    | true => exact nar_2 c p hc hp h1 h2 w
def rnr (c p : Cp) : Bool := (c.p == p.p) && vR c.r && vR p.r && zR c.r p.r && decide (c.u ≤ p.u) && ((c.l == p.l) || (p.l == 0)) && (c.fi == p.i) && (c.fn == p.n)
theorem rnr_nar (c p : Cp) : rnr c p = nar c p := by
  unfold rnr nar wR
  cases (c.p == p.p) <;> cases vR c.r <;> cases vR p.r <;> cases zR c.r p.r <;> cases decide (c.u ≤ p.u) <;> cases (c.fi == p.i) <;> cases (c.fn == p.n) <;> simp
theorem rnr_0 (c p : Cp) (h1 : (c.p == p.p) = false) (w : World) :
    Calls Try.prog 13 #[.agg #[.int .i64 c.p, .int .i64 c.i, .int .i64 c.n, .int .i64 c.h, .int .i64 c.l, .int .i64 c.r, .int .i64 c.u, .int .i64 c.fi, .int .i64 c.fn], .agg #[.int .i64 p.p, .int .i64 p.i, .int .i64 p.n, .int .i64 p.h, .int .i64 p.l, .int .i64 p.r, .int .i64 p.u, .int .i64 p.fi, .int .i64 p.fn]] w fun e w' => e = .returned (.bool (nar c p)) ∧ Below w.heap.size w w' := by
  rw [← rnr_nar]
  unfold rnr
  rw [h1]
  go_enter Try.func13, Try.ntmps13
  go_wp2
  go_ret
  exact ⟨rfl, by go_grown⟩
theorem rnr_1 (c p : Cp) (h1 : (c.p == p.p) = true) (h2 : vR c.r = false) (w : World) :
    Calls Try.prog 13 #[.agg #[.int .i64 c.p, .int .i64 c.i, .int .i64 c.n, .int .i64 c.h, .int .i64 c.l, .int .i64 c.r, .int .i64 c.u, .int .i64 c.fi, .int .i64 c.fn], .agg #[.int .i64 p.p, .int .i64 p.i, .int .i64 p.n, .int .i64 p.h, .int .i64 p.l, .int .i64 p.r, .int .i64 p.u, .int .i64 p.fi, .int .i64 p.fn]] w fun e w' => e = .returned (.bool (nar c p)) ∧ Below w.heap.size w w' := by
  have k1 := rvalid_any c.r
  rw [← rnr_nar]
  unfold rnr
  rw [h1, h2]
  rw [h2] at k1
  go_enter Try.func13, Try.ntmps13
  go_wp2_with fail
  refine at_call fun W1 hW => ?_
  have Bc : Box W1 (w.heap.size) [.int .i64 c.p, .int .i64 c.i, .int .i64 c.n, .int .i64 c.h, .int .i64 c.l, .int .i64 c.r, .int .i64 c.u, .int .i64 c.fi, .int .i64 c.fn] 23 := by rw [hW]; exact (Box.new rfl).old _
  have Bp : Box W1 (w.heap.size + 1) [.int .i64 p.p, .int .i64 p.i, .int .i64 p.n, .int .i64 p.h, .int .i64 p.l, .int .i64 p.r, .int .i64 p.u, .int .i64 p.fi, .int .i64 p.fn] 23 := by rw [hW]; exact Box.new (by simp)
  have hw : Below w.heap.size w W1 := by rw [hW]; go_grown
  clear hW
  refine (k1 _).mono ?_
  rintro e w2 ⟨rfl, hb⟩
  replace Bc := Bc.ext hb rfl
  replace Bp := Bp.ext hb rfl
  replace hw := hw.trans (hb.mono hw.size)
  clear hb
  obtain ⟨xc, yc, zc, vc⟩ := Bc.facts
  obtain ⟨xp, yp, zp, vp⟩ := Bp.facts
  go_wp2
  go_ret
  exact ⟨rfl, hw⟩
theorem rnr_2 (c p : Cp) (h1 : (c.p == p.p) = true) (h2 : vR c.r = true) (w : World) :
    Calls Try.prog 13 #[.agg #[.int .i64 c.p, .int .i64 c.i, .int .i64 c.n, .int .i64 c.h, .int .i64 c.l, .int .i64 c.r, .int .i64 c.u, .int .i64 c.fi, .int .i64 c.fn], .agg #[.int .i64 p.p, .int .i64 p.i, .int .i64 p.n, .int .i64 p.h, .int .i64 p.l, .int .i64 p.r, .int .i64 p.u, .int .i64 p.fi, .int .i64 p.fn]] w fun e w' => e = .returned (.bool (nar c p)) ∧ Below w.heap.size w w' := by
  have k1 := rvalid_any c.r
  have k2 := rvalid_any p.r
  rw [← rnr_nar]
  unfold rnr zR
  rw [h1, h2]
  rw [h2] at k1
  generalize vR p.r = W at k2 ⊢
  go_enter Try.func13, Try.ntmps13
  go_wp2_with fail
  refine at_call fun W1 hW => ?_
  have Bc : Box W1 (w.heap.size) [.int .i64 c.p, .int .i64 c.i, .int .i64 c.n, .int .i64 c.h, .int .i64 c.l, .int .i64 c.r, .int .i64 c.u, .int .i64 c.fi, .int .i64 c.fn] 23 := by rw [hW]; exact (Box.new rfl).old _
  have Bp : Box W1 (w.heap.size + 1) [.int .i64 p.p, .int .i64 p.i, .int .i64 p.n, .int .i64 p.h, .int .i64 p.l, .int .i64 p.r, .int .i64 p.u, .int .i64 p.fi, .int .i64 p.fn] 23 := by rw [hW]; exact Box.new (by simp)
  have hw : Below w.heap.size w W1 := by rw [hW]; go_grown
  clear hW
  refine (k1 _).mono ?_
  rintro e w2 ⟨rfl, hb⟩
  replace Bc := Bc.ext hb rfl
  replace Bp := Bp.ext hb rfl
  replace hw := hw.trans (hb.mono hw.size)
  clear hb
  obtain ⟨xc, yc, zc, vc⟩ := Bc.facts
  obtain ⟨xp, yp, zp, vp⟩ := Bp.facts
  go_wp2_with fail
  refine (k2 _).mono ?_
  rintro e w3 ⟨rfl, hb⟩
  clear xc yc zc vc xp yp zp vp
  replace Bc := Bc.ext hb rfl
  replace Bp := Bp.ext hb rfl
  replace hw := hw.trans (hb.mono hw.size)
  clear hb
  obtain ⟨xc, yc, zc, vc⟩ := Bc.facts
  obtain ⟨xp, yp, zp, vp⟩ := Bp.facts
  cases h5 : W with
  | false =>
    go_wp2
    go_ret
    exact ⟨ret_bool (by simp [h5]), hw⟩
  | true =>
    cases h6 : bits .andNot .i64 c.r p.r == 0 with
    | false =>
      go_wp2
      go_ret
      exact ⟨ret_bool (by simp [h5, h6]), hw⟩
    | true =>
      cases h7 : decide (c.u ≤ p.u) with
      | false =>
        go_wp2
        go_ret
        exact ⟨ret_bool (by simp [h5, h6, h7]), hw⟩
      | true =>
        cases h3 : (c.l == p.l) with
        | false =>
          cases h4 : (p.l == 0) with
          | false =>
            go_wp2
            go_ret
            exact ⟨ret_bool (by simp [h5, h6, h7, h3, h4]), hw⟩
          | true =>
            cases h8 : (c.fi == p.i) with
            | false =>
              go_wp2
              go_ret
              exact ⟨ret_bool (by simp [h5, h6, h7, h3, h4, h8]), hw⟩
            | true =>
              cases h9 : (c.fn == p.n) with
              | false =>
                go_wp2
                go_ret
                exact ⟨ret_bool (by simp [h5, h6, h7, h3, h4, h8, h9]), hw⟩
              | true =>
                go_wp2
                go_ret
                exact ⟨ret_bool (by simp [h5, h6, h7, h3, h4, h8, h9]), hw⟩
        | true =>
          cases h8 : (c.fi == p.i) with
          | false =>
            go_wp2
            go_ret
            exact ⟨ret_bool (by simp [h5, h6, h7, h3, h8]), hw⟩
          | true =>
            cases h9 : (c.fn == p.n) with
            | false =>
              go_wp2
              go_ret
              exact ⟨ret_bool (by simp [h5, h6, h7, h3, h8, h9]), hw⟩
            | true =>
              go_wp2
              go_ret
              exact ⟨ret_bool (by simp [h5, h6, h7, h3, h8, h9]), hw⟩
theorem rnr_any (c p : Cp) (w : World) :
    Calls Try.prog 13 #[.agg #[.int .i64 c.p, .int .i64 c.i, .int .i64 c.n, .int .i64 c.h, .int .i64 c.l, .int .i64 c.r, .int .i64 c.u, .int .i64 c.fi, .int .i64 c.fn], .agg #[.int .i64 p.p, .int .i64 p.i, .int .i64 p.n, .int .i64 p.h, .int .i64 p.l, .int .i64 p.r, .int .i64 p.u, .int .i64 p.fi, .int .i64 p.fn]] w fun e w' => e = .returned (.bool (nar c p)) ∧ Below w.heap.size w w' := by
  cases h1 : (c.p == p.p) with
  | false => exact rnr_0 c p h1 w
  | true => cases h2 : vR c.r with
    | false => exact rnr_1 c p h1 h2 w
    | true => exact rnr_2 c p h1 h2 w
end Go.Proofs.Ytipokakeaboelaa
