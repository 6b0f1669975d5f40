/- What is within what is within is within; what is narrower than what is narrower has no right, and no time, that the first one has not: the law RightsGoOn of package hectarelaw15 answers true at every input; no conditions. -/
import Derived.Test.YtipokakeaboelaaRows
import Derived.Test.YtipokakeaboelaaRtB
import Derived.Test.YtipokakeaboelaaRtD
import Derived.Test.YtipokakeaboelaaRtE
import Derived.Test.YtipokakeaboelaaPost
import Derived.WalkKit
import Derived.WalkSpells
import Derived.WalkLawsBesides
import Derived.Laws.Externs
import Derived.Deep.QuietTactic
import Derived.BigQuiet
import Derived.Lib.Hide
import Derived.Handy
import Derived.RegionTactic
import Derived.BigRegion
import Derived.Carry
import Derived.ProofKit
import Derived.Lib.SmallJoins
import Derived.Lib.Strings
namespace Go.Proofs.Ytipokakeaboelaa
open Go.RowKit Go.Sort Go.ChangeShapes Go.WideShapes Go.ChangeAt
attribute [local go_sem] rOper rAt rUpon cell_set sg_i64 sg_u64 alloc_cell alloc_frozen
attribute [local irreducible] rWalk

theorem Box.drew {w : World} {b : Nat} {cs : List Value} {T : TypeId} (h : Box w b cs T) : Box w.drew b cs T := h
theorem wR_trans {a b c : Int} (h1 : wR a b = true) (h2 : wR b c = true) : wR a c = true := by
  unfold wR at *
  simp only [Bool.and_eq_true] at *
  exact ⟨⟨h1.1.1, h2.1.2⟩, zR_trans h1.2 h2.2⟩
theorem inn_trans {a b c : Cp} (h1 : inn a b = true) (h2 : inn b c = true) : inn a c = true := by
  unfold inn at *
  simp only [Bool.and_eq_true, Bool.or_eq_true, beq_iff_eq, decide_eq_true_eq] at *
  obtain ⟨⟨⟨p1, w1⟩, u1⟩, l1⟩ := h1
  obtain ⟨⟨⟨p2, w2⟩, u2⟩, l2⟩ := h2
  refine ⟨⟨⟨p1.trans p2, wR_trans w1 w2⟩, by omega⟩, ?_⟩
  rcases l2 with l2 | l2
  · rcases l1 with l1 | l1
    · left; omega
    · right; omega
  · right; exact l2
set_option maxRecDepth 100000 in
set_option maxHeartbeats 2000000 in
theorem go_f (a b c : Cp) (ra : rng a.r) (rb : rng b.r) (_rc : rng c.r) (hv1 : wR a.r b.r = false) (h1 : inn a b = false) (w : World) :
    Calls Try.prog 4 #[.agg #[.int .i64 a.p, .int .i64 a.i, .int .i64 a.n, .int .i64 a.h, .int .i64 a.l, .int .i64 a.r, .int .i64 a.u, .int .i64 a.fi, .int .i64 a.fn], .agg #[.int .i64 b.p, .int .i64 b.i, .int .i64 b.n, .int .i64 b.h, .int .i64 b.l, .int .i64 b.r, .int .i64 b.u, .int .i64 b.fi, .int .i64 b.fn], .agg #[.int .i64 c.p, .int .i64 c.i, .int .i64 c.n, .int .i64 c.h, .int .i64 c.l, .int .i64 c.r, .int .i64 c.u, .int .i64 c.fi, .int .i64 c.fn]] w fun e w' => e = .returned (.bool true) ∧ Below w.heap.size w w' := by
  have k1 := within_any ra rb
  rw [hv1] at k1
  have n1 := nar_any ⟨a.p, a.i, a.n, a.h, a.l, a.r, a.u, b.i, b.n⟩ ⟨b.p, b.i, b.n, b.h, b.l, b.r, b.u, c.i, c.n⟩ ra rb
  rw [show nar ⟨a.p, a.i, a.n, a.h, a.l, a.r, a.u, b.i, b.n⟩ ⟨b.p, b.i, b.n, b.h, b.l, b.r, b.u, c.i, c.n⟩ = inn a b by simp [nar, inn], h1] at n1
  simp only at n1
  clear hv1 h1
  go_enter Try.func4, Try.ntmps4
  go_wp2_with fail
  refine at_call fun W1 hW => ?_
  have Ba : Box W1 (w.heap.size) [.int .i64 a.p, .int .i64 a.i, .int .i64 a.n, .int .i64 a.h, .int .i64 a.l, .int .i64 a.r, .int .i64 a.u, .int .i64 a.fi, .int .i64 a.fn] 23 := by rw [hW]; exact ((Box.new rfl).old _).old _
  have Bb : Box W1 (w.heap.size + 1) [.int .i64 b.p, .int .i64 b.i, .int .i64 b.n, .int .i64 b.h, .int .i64 b.l, .int .i64 b.r, .int .i64 b.u, .int .i64 b.fi, .int .i64 b.fn] 23 := by rw [hW]; exact (Box.new (by simp)).old _
  have Bc : Box W1 (w.heap.size + 1 + 1) [.int .i64 c.p, .int .i64 c.i, .int .i64 c.n, .int .i64 c.h, .int .i64 c.l, .int .i64 c.r, .int .i64 c.u, .int .i64 c.fi, .int .i64 c.fn] 23 := by rw [hW]; exact Box.new (by simp)
  have hw : Below w.heap.size w W1 := by rw [hW]; go_grown
  clear hW
  refine (k1 _).mono ?_
  rintro e w2 ⟨rfl, hb⟩
  replace Ba := Ba.ext hb rfl
  replace Bb := Bb.ext hb rfl
  replace Bc := Bc.ext hb rfl
  replace hw := hw.trans (hb.mono hw.size)
  clear hb
  obtain ⟨xa, ya, za, va⟩ := Ba.facts
  obtain ⟨xb, yb, zb, vb⟩ := Bb.facts
  obtain ⟨xc, yc, zc, vc⟩ := Bc.facts
  go_wp2_with fail
  refine at_world fun W3 hW => ?_
  replace hw : Below w.heap.size w W3 := by rw [hW]; exact hw
  replace Ba : Box W3 (w.heap.size) [.int .i64 a.p, .int .i64 a.i, .int .i64 a.n, .int .i64 a.h, .int .i64 a.l, .int .i64 a.r, .int .i64 a.u, .int .i64 a.fi, .int .i64 a.fn] 23 := by rw [hW]; exact Ba
  replace Bb : Box W3 (w.heap.size + 1) [.int .i64 b.p, .int .i64 b.i, .int .i64 b.n, .int .i64 b.h, .int .i64 b.l, .int .i64 b.r, .int .i64 b.u, .int .i64 b.fi, .int .i64 b.fn] 23 := by rw [hW]; exact Bb
  replace Bc : Box W3 (w.heap.size + 1 + 1) [.int .i64 c.p, .int .i64 c.i, .int .i64 c.n, .int .i64 c.h, .int .i64 c.l, .int .i64 c.r, .int .i64 c.u, .int .i64 c.fi, .int .i64 c.fn] 23 := by rw [hW]; exact Bc
  clear hW
  clear xa ya za va xb yb zb vb xc yc zc vc
  obtain ⟨xa, ya, za, va⟩ := Ba.facts
  obtain ⟨xb, yb, zb, vb⟩ := Bb.facts
  obtain ⟨xc, yc, zc, vc⟩ := Bc.facts
  go_region
  go_wp2_with fail
  refine at_world fun W4 hW => ?_
  have Ca : Box W4 (w.heap.size) [.int .i64 a.p, .int .i64 a.i, .int .i64 a.n, .int .i64 a.h, .int .i64 a.l, .int .i64 a.r, .int .i64 a.u, .int .i64 a.fi, .int .i64 a.fn] 23 := by rw [hW]; exact (Box.drew ((Ba.set_ne ⟨w.heap.size + 1, 7, none⟩ (.int .i64 c.i) (by first | assumption | (show w.heap.size + 1 ≠ _; omega))).set_ne ⟨w.heap.size + 1, 8, none⟩ (.int .i64 c.n) (by first | assumption | (show w.heap.size + 1 ≠ _; omega))))
  have Cb : Box W4 (w.heap.size + 1) [.int .i64 b.p, .int .i64 b.i, .int .i64 b.n, .int .i64 b.h, .int .i64 b.l, .int .i64 b.r, .int .i64 b.u, .int .i64 c.i, .int .i64 c.n] 23 := by rw [hW]; exact (Box.drew ((Bb.set 7 (.int .i64 c.i)).set 8 (.int .i64 c.n)))
  have Cc : Box W4 (w.heap.size + 1 + 1) [.int .i64 c.p, .int .i64 c.i, .int .i64 c.n, .int .i64 c.h, .int .i64 c.l, .int .i64 c.r, .int .i64 c.u, .int .i64 c.fi, .int .i64 c.fn] 23 := by rw [hW]; exact (Box.drew ((Bc.set_ne ⟨w.heap.size + 1, 7, none⟩ (.int .i64 c.i) (by first | assumption | (show w.heap.size + 1 ≠ _; omega))).set_ne ⟨w.heap.size + 1, 8, none⟩ (.int .i64 c.n) (by first | assumption | (show w.heap.size + 1 ≠ _; omega))))
  replace hw : Below w.heap.size w W4 := by have hl := hw.size; rw [hW]; go_grown
  clear xa ya za va xb yb zb vb xc yc zc vc
  clear hW Ba Bb Bc
  have Ba := Ca
  have Bb := Cb
  have Bc := Cc
  clear Ca Cb Cc
  obtain ⟨xa, ya, za, va⟩ := Ba.facts
  obtain ⟨xb, yb, zb, vb⟩ := Bb.facts
  obtain ⟨xc, yc, zc, vc⟩ := Bc.facts
  go_region
  go_wp2_with fail
  refine at_call fun W5 hW => ?_
  have Ca : Box W5 (w.heap.size) [.int .i64 a.p, .int .i64 a.i, .int .i64 a.n, .int .i64 a.h, .int .i64 a.l, .int .i64 a.r, .int .i64 a.u, .int .i64 b.i, .int .i64 b.n] 23 := by rw [hW]; exact (Box.drew ((Ba.set 7 (.int .i64 b.i)).set 8 (.int .i64 b.n)))
  have Cb : Box W5 (w.heap.size + 1) [.int .i64 b.p, .int .i64 b.i, .int .i64 b.n, .int .i64 b.h, .int .i64 b.l, .int .i64 b.r, .int .i64 b.u, .int .i64 c.i, .int .i64 c.n] 23 := by rw [hW]; exact (Box.drew ((Bb.set_ne ⟨w.heap.size, 7, none⟩ (.int .i64 b.i) (by first | assumption | (show w.heap.size ≠ _; omega))).set_ne ⟨w.heap.size, 8, none⟩ (.int .i64 b.n) (by first | assumption | (show w.heap.size ≠ _; omega))))
  have Cc : Box W5 (w.heap.size + 1 + 1) [.int .i64 c.p, .int .i64 c.i, .int .i64 c.n, .int .i64 c.h, .int .i64 c.l, .int .i64 c.r, .int .i64 c.u, .int .i64 c.fi, .int .i64 c.fn] 23 := by rw [hW]; exact (Box.drew ((Bc.set_ne ⟨w.heap.size, 7, none⟩ (.int .i64 b.i) (by first | assumption | (show w.heap.size ≠ _; omega))).set_ne ⟨w.heap.size, 8, none⟩ (.int .i64 b.n) (by first | assumption | (show w.heap.size ≠ _; omega))))
  replace hw : Below w.heap.size w W5 := by have hl := hw.size; rw [hW]; go_grown
  clear xa ya za va xb yb zb vb xc yc zc vc
  clear hW Ba Bb Bc
  have Ba := Ca
  have Bb := Cb
  have Bc := Cc
  clear Ca Cb Cc
  refine (n1 _).mono ?_
  rintro e w6 ⟨rfl, hb⟩
  replace Ba := Ba.ext hb rfl
  replace Bb := Bb.ext hb rfl
  replace Bc := Bc.ext hb rfl
  replace hw := hw.trans (hb.mono hw.size)
  clear hb
  obtain ⟨xa, ya, za, va⟩ := Ba.facts
  obtain ⟨xb, yb, zb, vb⟩ := Bb.facts
  obtain ⟨xc, yc, zc, vc⟩ := Bc.facts
  go_wp2_with fail
  refine (awake_any _).mono ?_
  rintro e w7 ⟨rfl, hb⟩
  clear xa ya za va xb yb zb vb xc yc zc vc
  replace Ba := Ba.ext hb rfl
  replace Bb := Bb.ext hb rfl
  replace Bc := Bc.ext hb rfl
  replace hw := hw.trans (hb.mono hw.size)
  clear hb
  go_wp2
  go_ret
  exact ⟨rfl, hw⟩
set_option maxRecDepth 100000 in
set_option maxHeartbeats 2000000 in
theorem go_tff (a b c : Cp) (ra : rng a.r) (rb : rng b.r) (rc : rng c.r) (hv1 : wR a.r b.r = true) (hv2 : wR b.r c.r = false) (h1 : inn a b = false) (w : World) :
    Calls Try.prog 4 #[.agg #[.int .i64 a.p, .int .i64 a.i, .int .i64 a.n, .int .i64 a.h, .int .i64 a.l, .int .i64 a.r, .int .i64 a.u, .int .i64 a.fi, .int .i64 a.fn], .agg #[.int .i64 b.p, .int .i64 b.i, .int .i64 b.n, .int .i64 b.h, .int .i64 b.l, .int .i64 b.r, .int .i64 b.u, .int .i64 b.fi, .int .i64 b.fn], .agg #[.int .i64 c.p, .int .i64 c.i, .int .i64 c.n, .int .i64 c.h, .int .i64 c.l, .int .i64 c.r, .int .i64 c.u, .int .i64 c.fi, .int .i64 c.fn]] w fun e w' => e = .returned (.bool true) ∧ Below w.heap.size w w' := by
  have k1 := within_any ra rb
  rw [hv1] at k1
  have k2 := within_any rb rc
  rw [hv2] at k2
  have n1 := nar_any ⟨a.p, a.i, a.n, a.h, a.l, a.r, a.u, b.i, b.n⟩ ⟨b.p, b.i, b.n, b.h, b.l, b.r, b.u, c.i, c.n⟩ ra rb
  rw [show nar ⟨a.p, a.i, a.n, a.h, a.l, a.r, a.u, b.i, b.n⟩ ⟨b.p, b.i, b.n, b.h, b.l, b.r, b.u, c.i, c.n⟩ = inn a b by simp [nar, inn], h1] at n1
  simp only at n1
  clear hv1 h1 hv2
  go_enter Try.func4, Try.ntmps4
  go_wp2_with fail
  refine at_call fun W1 hW => ?_
  have Ba : Box W1 (w.heap.size) [.int .i64 a.p, .int .i64 a.i, .int .i64 a.n, .int .i64 a.h, .int .i64 a.l, .int .i64 a.r, .int .i64 a.u, .int .i64 a.fi, .int .i64 a.fn] 23 := by rw [hW]; exact ((Box.new rfl).old _).old _
  have Bb : Box W1 (w.heap.size + 1) [.int .i64 b.p, .int .i64 b.i, .int .i64 b.n, .int .i64 b.h, .int .i64 b.l, .int .i64 b.r, .int .i64 b.u, .int .i64 b.fi, .int .i64 b.fn] 23 := by rw [hW]; exact (Box.new (by simp)).old _
  have Bc : Box W1 (w.heap.size + 1 + 1) [.int .i64 c.p, .int .i64 c.i, .int .i64 c.n, .int .i64 c.h, .int .i64 c.l, .int .i64 c.r, .int .i64 c.u, .int .i64 c.fi, .int .i64 c.fn] 23 := by rw [hW]; exact Box.new (by simp)
  have hw : Below w.heap.size w W1 := by rw [hW]; go_grown
  clear hW
  refine (k1 _).mono ?_
  rintro e w2 ⟨rfl, hb⟩
  replace Ba := Ba.ext hb rfl
  replace Bb := Bb.ext hb rfl
  replace Bc := Bc.ext hb rfl
  replace hw := hw.trans (hb.mono hw.size)
  clear hb
  obtain ⟨xa, ya, za, va⟩ := Ba.facts
  obtain ⟨xb, yb, zb, vb⟩ := Bb.facts
  obtain ⟨xc, yc, zc, vc⟩ := Bc.facts
  go_wp2_with fail
  refine (k2 _).mono ?_
  rintro e w3 ⟨rfl, hb⟩
  clear xa ya za va xb yb zb vb xc yc zc vc
  replace Ba := Ba.ext hb rfl
  replace Bb := Bb.ext hb rfl
  replace Bc := Bc.ext hb rfl
  replace hw := hw.trans (hb.mono hw.size)
  clear hb
  obtain ⟨xa, ya, za, va⟩ := Ba.facts
  obtain ⟨xb, yb, zb, vb⟩ := Bb.facts
  obtain ⟨xc, yc, zc, vc⟩ := Bc.facts
  go_wp2_with fail
  refine at_world fun W4 hW => ?_
  replace hw : Below w.heap.size w W4 := by rw [hW]; exact hw
  replace Ba : Box W4 (w.heap.size) [.int .i64 a.p, .int .i64 a.i, .int .i64 a.n, .int .i64 a.h, .int .i64 a.l, .int .i64 a.r, .int .i64 a.u, .int .i64 a.fi, .int .i64 a.fn] 23 := by rw [hW]; exact Ba
  replace Bb : Box W4 (w.heap.size + 1) [.int .i64 b.p, .int .i64 b.i, .int .i64 b.n, .int .i64 b.h, .int .i64 b.l, .int .i64 b.r, .int .i64 b.u, .int .i64 b.fi, .int .i64 b.fn] 23 := by rw [hW]; exact Bb
  replace Bc : Box W4 (w.heap.size + 1 + 1) [.int .i64 c.p, .int .i64 c.i, .int .i64 c.n, .int .i64 c.h, .int .i64 c.l, .int .i64 c.r, .int .i64 c.u, .int .i64 c.fi, .int .i64 c.fn] 23 := by rw [hW]; exact Bc
  clear hW
  clear xa ya za va xb yb zb vb xc yc zc vc
  obtain ⟨xa, ya, za, va⟩ := Ba.facts
  obtain ⟨xb, yb, zb, vb⟩ := Bb.facts
  obtain ⟨xc, yc, zc, vc⟩ := Bc.facts
  go_region
  go_wp2_with fail
  refine at_world fun W5 hW => ?_
  have Ca : Box W5 (w.heap.size) [.int .i64 a.p, .int .i64 a.i, .int .i64 a.n, .int .i64 a.h, .int .i64 a.l, .int .i64 a.r, .int .i64 a.u, .int .i64 a.fi, .int .i64 a.fn] 23 := by rw [hW]; exact (Box.drew ((Ba.set_ne ⟨w.heap.size + 1, 7, none⟩ (.int .i64 c.i) (by first | assumption | (show w.heap.size + 1 ≠ _; omega))).set_ne ⟨w.heap.size + 1, 8, none⟩ (.int .i64 c.n) (by first | assumption | (show w.heap.size + 1 ≠ _; omega))))
  have Cb : Box W5 (w.heap.size + 1) [.int .i64 b.p, .int .i64 b.i, .int .i64 b.n, .int .i64 b.h, .int .i64 b.l, .int .i64 b.r, .int .i64 b.u, .int .i64 c.i, .int .i64 c.n] 23 := by rw [hW]; exact (Box.drew ((Bb.set 7 (.int .i64 c.i)).set 8 (.int .i64 c.n)))
  have Cc : Box W5 (w.heap.size + 1 + 1) [.int .i64 c.p, .int .i64 c.i, .int .i64 c.n, .int .i64 c.h, .int .i64 c.l, .int .i64 c.r, .int .i64 c.u, .int .i64 c.fi, .int .i64 c.fn] 23 := by rw [hW]; exact (Box.drew ((Bc.set_ne ⟨w.heap.size + 1, 7, none⟩ (.int .i64 c.i) (by first | assumption | (show w.heap.size + 1 ≠ _; omega))).set_ne ⟨w.heap.size + 1, 8, none⟩ (.int .i64 c.n) (by first | assumption | (show w.heap.size + 1 ≠ _; omega))))
  replace hw : Below w.heap.size w W5 := by have hl := hw.size; rw [hW]; go_grown
  clear xa ya za va xb yb zb vb xc yc zc vc
  clear hW Ba Bb Bc
  have Ba := Ca
  have Bb := Cb
  have Bc := Cc
  clear Ca Cb Cc
  obtain ⟨xa, ya, za, va⟩ := Ba.facts
  obtain ⟨xb, yb, zb, vb⟩ := Bb.facts
  obtain ⟨xc, yc, zc, vc⟩ := Bc.facts
  go_region
  go_wp2_with fail
  refine at_call fun W6 hW => ?_
  have Ca : Box W6 (w.heap.size) [.int .i64 a.p, .int .i64 a.i, .int .i64 a.n, .int .i64 a.h, .int .i64 a.l, .int .i64 a.r, .int .i64 a.u, .int .i64 b.i, .int .i64 b.n] 23 := by rw [hW]; exact (Box.drew ((Ba.set 7 (.int .i64 b.i)).set 8 (.int .i64 b.n)))
  have Cb : Box W6 (w.heap.size + 1) [.int .i64 b.p, .int .i64 b.i, .int .i64 b.n, .int .i64 b.h, .int .i64 b.l, .int .i64 b.r, .int .i64 b.u, .int .i64 c.i, .int .i64 c.n] 23 := by rw [hW]; exact (Box.drew ((Bb.set_ne ⟨w.heap.size, 7, none⟩ (.int .i64 b.i) (by first | assumption | (show w.heap.size ≠ _; omega))).set_ne ⟨w.heap.size, 8, none⟩ (.int .i64 b.n) (by first | assumption | (show w.heap.size ≠ _; omega))))
  have Cc : Box W6 (w.heap.size + 1 + 1) [.int .i64 c.p, .int .i64 c.i, .int .i64 c.n, .int .i64 c.h, .int .i64 c.l, .int .i64 c.r, .int .i64 c.u, .int .i64 c.fi, .int .i64 c.fn] 23 := by rw [hW]; exact (Box.drew ((Bc.set_ne ⟨w.heap.size, 7, none⟩ (.int .i64 b.i) (by first | assumption | (show w.heap.size ≠ _; omega))).set_ne ⟨w.heap.size, 8, none⟩ (.int .i64 b.n) (by first | assumption | (show w.heap.size ≠ _; omega))))
  replace hw : Below w.heap.size w W6 := by have hl := hw.size; rw [hW]; go_grown
  clear xa ya za va xb yb zb vb xc yc zc vc
  clear hW Ba Bb Bc
  have Ba := Ca
  have Bb := Cb
  have Bc := Cc
  clear Ca Cb Cc
  refine (n1 _).mono ?_
  rintro e w7 ⟨rfl, hb⟩
  replace Ba := Ba.ext hb rfl
  replace Bb := Bb.ext hb rfl
  replace Bc := Bc.ext hb rfl
  replace hw := hw.trans (hb.mono hw.size)
  clear hb
  obtain ⟨xa, ya, za, va⟩ := Ba.facts
  obtain ⟨xb, yb, zb, vb⟩ := Bb.facts
  obtain ⟨xc, yc, zc, vc⟩ := Bc.facts
  go_wp2_with fail
  refine (awake_any _).mono ?_
  rintro e w8 ⟨rfl, hb⟩
  clear xa ya za va xb yb zb vb xc yc zc vc
  replace Ba := Ba.ext hb rfl
  replace Bb := Bb.ext hb rfl
  replace Bc := Bc.ext hb rfl
  replace hw := hw.trans (hb.mono hw.size)
  clear hb
  go_wp2
  go_ret
  exact ⟨rfl, hw⟩
set_option maxRecDepth 100000 in
set_option maxHeartbeats 2000000 in
theorem go_tft (a b c : Cp) (ra : rng a.r) (rb : rng b.r) (rc : rng c.r) (hv1 : wR a.r b.r = true) (hv2 : wR b.r c.r = false) (h1 : inn a b = true) (h2 : inn b c = false) (w : World) :
    Calls Try.prog 4 #[.agg #[.int .i64 a.p, .int .i64 a.i, .int .i64 a.n, .int .i64 a.h, .int .i64 a.l, .int .i64 a.r, .int .i64 a.u, .int .i64 a.fi, .int .i64 a.fn], .agg #[.int .i64 b.p, .int .i64 b.i, .int .i64 b.n, .int .i64 b.h, .int .i64 b.l, .int .i64 b.r, .int .i64 b.u, .int .i64 b.fi, .int .i64 b.fn], .agg #[.int .i64 c.p, .int .i64 c.i, .int .i64 c.n, .int .i64 c.h, .int .i64 c.l, .int .i64 c.r, .int .i64 c.u, .int .i64 c.fi, .int .i64 c.fn]] w fun e w' => e = .returned (.bool true) ∧ Below w.heap.size w w' := by
  have k1 := within_any ra rb
  rw [hv1] at k1
  have k2 := within_any rb rc
  rw [hv2] at k2
  have n1 := nar_any ⟨a.p, a.i, a.n, a.h, a.l, a.r, a.u, b.i, b.n⟩ ⟨b.p, b.i, b.n, b.h, b.l, b.r, b.u, c.i, c.n⟩ ra rb
  rw [show nar ⟨a.p, a.i, a.n, a.h, a.l, a.r, a.u, b.i, b.n⟩ ⟨b.p, b.i, b.n, b.h, b.l, b.r, b.u, c.i, c.n⟩ = inn a b by simp [nar, inn], h1] at n1
  simp only at n1
  have n2 := nar_any ⟨b.p, b.i, b.n, b.h, b.l, b.r, b.u, c.i, c.n⟩ c rb rc
  rw [show nar ⟨b.p, b.i, b.n, b.h, b.l, b.r, b.u, c.i, c.n⟩ c = inn b c by simp [nar, inn], h2] at n2
  simp only at n2
  clear hv1 h1 hv2 h2
  go_enter Try.func4, Try.ntmps4
  go_wp2_with fail
  refine at_call fun W1 hW => ?_
  have Ba : Box W1 (w.heap.size) [.int .i64 a.p, .int .i64 a.i, .int .i64 a.n, .int .i64 a.h, .int .i64 a.l, .int .i64 a.r, .int .i64 a.u, .int .i64 a.fi, .int .i64 a.fn] 23 := by rw [hW]; exact ((Box.new rfl).old _).old _
  have Bb : Box W1 (w.heap.size + 1) [.int .i64 b.p, .int .i64 b.i, .int .i64 b.n, .int .i64 b.h, .int .i64 b.l, .int .i64 b.r, .int .i64 b.u, .int .i64 b.fi, .int .i64 b.fn] 23 := by rw [hW]; exact (Box.new (by simp)).old _
  have Bc : Box W1 (w.heap.size + 1 + 1) [.int .i64 c.p, .int .i64 c.i, .int .i64 c.n, .int .i64 c.h, .int .i64 c.l, .int .i64 c.r, .int .i64 c.u, .int .i64 c.fi, .int .i64 c.fn] 23 := by rw [hW]; exact Box.new (by simp)
  have hw : Below w.heap.size w W1 := by rw [hW]; go_grown
  clear hW
  refine (k1 _).mono ?_
  rintro e w2 ⟨rfl, hb⟩
  replace Ba := Ba.ext hb rfl
  replace Bb := Bb.ext hb rfl
  replace Bc := Bc.ext hb rfl
  replace hw := hw.trans (hb.mono hw.size)
  clear hb
  obtain ⟨xa, ya, za, va⟩ := Ba.facts
  obtain ⟨xb, yb, zb, vb⟩ := Bb.facts
  obtain ⟨xc, yc, zc, vc⟩ := Bc.facts
  go_wp2_with fail
  refine (k2 _).mono ?_
  rintro e w3 ⟨rfl, hb⟩
  clear xa ya za va xb yb zb vb xc yc zc vc
  replace Ba := Ba.ext hb rfl
  replace Bb := Bb.ext hb rfl
  replace Bc := Bc.ext hb rfl
  replace hw := hw.trans (hb.mono hw.size)
  clear hb
  obtain ⟨xa, ya, za, va⟩ := Ba.facts
  obtain ⟨xb, yb, zb, vb⟩ := Bb.facts
  obtain ⟨xc, yc, zc, vc⟩ := Bc.facts
  go_wp2_with fail
  refine at_world fun W4 hW => ?_
  replace hw : Below w.heap.size w W4 := by rw [hW]; exact hw
  replace Ba : Box W4 (w.heap.size) [.int .i64 a.p, .int .i64 a.i, .int .i64 a.n, .int .i64 a.h, .int .i64 a.l, .int .i64 a.r, .int .i64 a.u, .int .i64 a.fi, .int .i64 a.fn] 23 := by rw [hW]; exact Ba
  replace Bb : Box W4 (w.heap.size + 1) [.int .i64 b.p, .int .i64 b.i, .int .i64 b.n, .int .i64 b.h, .int .i64 b.l, .int .i64 b.r, .int .i64 b.u, .int .i64 b.fi, .int .i64 b.fn] 23 := by rw [hW]; exact Bb
  replace Bc : Box W4 (w.heap.size + 1 + 1) [.int .i64 c.p, .int .i64 c.i, .int .i64 c.n, .int .i64 c.h, .int .i64 c.l, .int .i64 c.r, .int .i64 c.u, .int .i64 c.fi, .int .i64 c.fn] 23 := by rw [hW]; exact Bc
  clear hW
  clear xa ya za va xb yb zb vb xc yc zc vc
  obtain ⟨xa, ya, za, va⟩ := Ba.facts
  obtain ⟨xb, yb, zb, vb⟩ := Bb.facts
  obtain ⟨xc, yc, zc, vc⟩ := Bc.facts
  go_region
  go_wp2_with fail
  refine at_world fun W5 hW => ?_
  have Ca : Box W5 (w.heap.size) [.int .i64 a.p, .int .i64 a.i, .int .i64 a.n, .int .i64 a.h, .int .i64 a.l, .int .i64 a.r, .int .i64 a.u, .int .i64 a.fi, .int .i64 a.fn] 23 := by rw [hW]; exact (Box.drew ((Ba.set_ne ⟨w.heap.size + 1, 7, none⟩ (.int .i64 c.i) (by first | assumption | (show w.heap.size + 1 ≠ _; omega))).set_ne ⟨w.heap.size + 1, 8, none⟩ (.int .i64 c.n) (by first | assumption | (show w.heap.size + 1 ≠ _; omega))))
  have Cb : Box W5 (w.heap.size + 1) [.int .i64 b.p, .int .i64 b.i, .int .i64 b.n, .int .i64 b.h, .int .i64 b.l, .int .i64 b.r, .int .i64 b.u, .int .i64 c.i, .int .i64 c.n] 23 := by rw [hW]; exact (Box.drew ((Bb.set 7 (.int .i64 c.i)).set 8 (.int .i64 c.n)))
  have Cc : Box W5 (w.heap.size + 1 + 1) [.int .i64 c.p, .int .i64 c.i, .int .i64 c.n, .int .i64 c.h, .int .i64 c.l, .int .i64 c.r, .int .i64 c.u, .int .i64 c.fi, .int .i64 c.fn] 23 := by rw [hW]; exact (Box.drew ((Bc.set_ne ⟨w.heap.size + 1, 7, none⟩ (.int .i64 c.i) (by first | assumption | (show w.heap.size + 1 ≠ _; omega))).set_ne ⟨w.heap.size + 1, 8, none⟩ (.int .i64 c.n) (by first | assumption | (show w.heap.size + 1 ≠ _; omega))))
  replace hw : Below w.heap.size w W5 := by have hl := hw.size; rw [hW]; go_grown
  clear xa ya za va xb yb zb vb xc yc zc vc
  clear hW Ba Bb Bc
  have Ba := Ca
  have Bb := Cb
  have Bc := Cc
  clear Ca Cb Cc
  obtain ⟨xa, ya, za, va⟩ := Ba.facts
  obtain ⟨xb, yb, zb, vb⟩ := Bb.facts
  obtain ⟨xc, yc, zc, vc⟩ := Bc.facts
  go_region
  go_wp2_with fail
  refine at_call fun W6 hW => ?_
  have Ca : Box W6 (w.heap.size) [.int .i64 a.p, .int .i64 a.i, .int .i64 a.n, .int .i64 a.h, .int .i64 a.l, .int .i64 a.r, .int .i64 a.u, .int .i64 b.i, .int .i64 b.n] 23 := by rw [hW]; exact (Box.drew ((Ba.set 7 (.int .i64 b.i)).set 8 (.int .i64 b.n)))
  have Cb : Box W6 (w.heap.size + 1) [.int .i64 b.p, .int .i64 b.i, .int .i64 b.n, .int .i64 b.h, .int .i64 b.l, .int .i64 b.r, .int .i64 b.u, .int .i64 c.i, .int .i64 c.n] 23 := by rw [hW]; exact (Box.drew ((Bb.set_ne ⟨w.heap.size, 7, none⟩ (.int .i64 b.i) (by first | assumption | (show w.heap.size ≠ _; omega))).set_ne ⟨w.heap.size, 8, none⟩ (.int .i64 b.n) (by first | assumption | (show w.heap.size ≠ _; omega))))
  have Cc : Box W6 (w.heap.size + 1 + 1) [.int .i64 c.p, .int .i64 c.i, .int .i64 c.n, .int .i64 c.h, .int .i64 c.l, .int .i64 c.r, .int .i64 c.u, .int .i64 c.fi, .int .i64 c.fn] 23 := by rw [hW]; exact (Box.drew ((Bc.set_ne ⟨w.heap.size, 7, none⟩ (.int .i64 b.i) (by first | assumption | (show w.heap.size ≠ _; omega))).set_ne ⟨w.heap.size, 8, none⟩ (.int .i64 b.n) (by first | assumption | (show w.heap.size ≠ _; omega))))
  replace hw : Below w.heap.size w W6 := by have hl := hw.size; rw [hW]; go_grown
  clear xa ya za va xb yb zb vb xc yc zc vc
  clear hW Ba Bb Bc
  have Ba := Ca
  have Bb := Cb
  have Bc := Cc
  clear Ca Cb Cc
  refine (n1 _).mono ?_
  rintro e w7 ⟨rfl, hb⟩
  replace Ba := Ba.ext hb rfl
  replace Bb := Bb.ext hb rfl
  replace Bc := Bc.ext hb rfl
  replace hw := hw.trans (hb.mono hw.size)
  clear hb
  obtain ⟨xa, ya, za, va⟩ := Ba.facts
  obtain ⟨xb, yb, zb, vb⟩ := Bb.facts
  obtain ⟨xc, yc, zc, vc⟩ := Bc.facts
  go_wp2_with fail
  refine (n2 _).mono ?_
  rintro e w8 ⟨rfl, hb⟩
  clear xa ya za va xb yb zb vb xc yc zc vc
  replace Ba := Ba.ext hb rfl
  replace Bb := Bb.ext hb rfl
  replace Bc := Bc.ext hb rfl
  replace hw := hw.trans (hb.mono hw.size)
  clear hb
  obtain ⟨xa, ya, za, va⟩ := Ba.facts
  obtain ⟨xb, yb, zb, vb⟩ := Bb.facts
  obtain ⟨xc, yc, zc, vc⟩ := Bc.facts
  go_wp2_with fail
  refine (awake_any _).mono ?_
  rintro e w9 ⟨rfl, hb⟩
  clear xa ya za va xb yb zb vb xc yc zc vc
  replace Ba := Ba.ext hb rfl
  replace Bb := Bb.ext hb rfl
  replace Bc := Bc.ext hb rfl
  replace hw := hw.trans (hb.mono hw.size)
  clear hb
  go_wp2
  go_ret
  exact ⟨rfl, hw⟩
set_option maxRecDepth 100000 in
set_option maxHeartbeats 2000000 in
theorem go_ttf (a b c : Cp) (ra : rng a.r) (rb : rng b.r) (rc : rng c.r) (hv1 : wR a.r b.r = true) (hv2 : wR b.r c.r = true) (h1 : inn a b = false) (w : World) :
    Calls Try.prog 4 #[.agg #[.int .i64 a.p, .int .i64 a.i, .int .i64 a.n, .int .i64 a.h, .int .i64 a.l, .int .i64 a.r, .int .i64 a.u, .int .i64 a.fi, .int .i64 a.fn], .agg #[.int .i64 b.p, .int .i64 b.i, .int .i64 b.n, .int .i64 b.h, .int .i64 b.l, .int .i64 b.r, .int .i64 b.u, .int .i64 b.fi, .int .i64 b.fn], .agg #[.int .i64 c.p, .int .i64 c.i, .int .i64 c.n, .int .i64 c.h, .int .i64 c.l, .int .i64 c.r, .int .i64 c.u, .int .i64 c.fi, .int .i64 c.fn]] w fun e w' => e = .returned (.bool true) ∧ Below w.heap.size w w' := by
  have k1 := within_any ra rb
  rw [hv1] at k1
  have k2 := within_any rb rc
  rw [hv2] at k2
  have k3 := within_any ra rc
  rw [wR_trans hv1 hv2] at k3
  have n1 := nar_any ⟨a.p, a.i, a.n, a.h, a.l, a.r, a.u, b.i, b.n⟩ ⟨b.p, b.i, b.n, b.h, b.l, b.r, b.u, c.i, c.n⟩ ra rb
  rw [show nar ⟨a.p, a.i, a.n, a.h, a.l, a.r, a.u, b.i, b.n⟩ ⟨b.p, b.i, b.n, b.h, b.l, b.r, b.u, c.i, c.n⟩ = inn a b by simp [nar, inn], h1] at n1
  simp only at n1
  clear hv1 h1 hv2
  go_enter Try.func4, Try.ntmps4
  go_wp2_with fail
  refine at_call fun W1 hW => ?_
  have Ba : Box W1 (w.heap.size) [.int .i64 a.p, .int .i64 a.i, .int .i64 a.n, .int .i64 a.h, .int .i64 a.l, .int .i64 a.r, .int .i64 a.u, .int .i64 a.fi, .int .i64 a.fn] 23 := by rw [hW]; exact ((Box.new rfl).old _).old _
  have Bb : Box W1 (w.heap.size + 1) [.int .i64 b.p, .int .i64 b.i, .int .i64 b.n, .int .i64 b.h, .int .i64 b.l, .int .i64 b.r, .int .i64 b.u, .int .i64 b.fi, .int .i64 b.fn] 23 := by rw [hW]; exact (Box.new (by simp)).old _
  have Bc : Box W1 (w.heap.size + 1 + 1) [.int .i64 c.p, .int .i64 c.i, .int .i64 c.n, .int .i64 c.h, .int .i64 c.l, .int .i64 c.r, .int .i64 c.u, .int .i64 c.fi, .int .i64 c.fn] 23 := by rw [hW]; exact Box.new (by simp)
  have hw : Below w.heap.size w W1 := by rw [hW]; go_grown
  clear hW
  refine (k1 _).mono ?_
  rintro e w2 ⟨rfl, hb⟩
  replace Ba := Ba.ext hb rfl
  replace Bb := Bb.ext hb rfl
  replace Bc := Bc.ext hb rfl
  replace hw := hw.trans (hb.mono hw.size)
  clear hb
  obtain ⟨xa, ya, za, va⟩ := Ba.facts
  obtain ⟨xb, yb, zb, vb⟩ := Bb.facts
  obtain ⟨xc, yc, zc, vc⟩ := Bc.facts
  go_wp2_with fail
  refine (k2 _).mono ?_
  rintro e w3 ⟨rfl, hb⟩
  clear xa ya za va xb yb zb vb xc yc zc vc
  replace Ba := Ba.ext hb rfl
  replace Bb := Bb.ext hb rfl
  replace Bc := Bc.ext hb rfl
  replace hw := hw.trans (hb.mono hw.size)
  clear hb
  obtain ⟨xa, ya, za, va⟩ := Ba.facts
  obtain ⟨xb, yb, zb, vb⟩ := Bb.facts
  obtain ⟨xc, yc, zc, vc⟩ := Bc.facts
  go_wp2_with fail
  refine (k3 _).mono ?_
  rintro e w4 ⟨rfl, hb⟩
  clear xa ya za va xb yb zb vb xc yc zc vc
  replace Ba := Ba.ext hb rfl
  replace Bb := Bb.ext hb rfl
  replace Bc := Bc.ext hb rfl
  replace hw := hw.trans (hb.mono hw.size)
  clear hb
  obtain ⟨xa, ya, za, va⟩ := Ba.facts
  obtain ⟨xb, yb, zb, vb⟩ := Bb.facts
  obtain ⟨xc, yc, zc, vc⟩ := Bc.facts
  go_wp2_with fail
  refine at_world fun W5 hW => ?_
  replace hw : Below w.heap.size w W5 := by rw [hW]; exact hw
  replace Ba : Box W5 (w.heap.size) [.int .i64 a.p, .int .i64 a.i, .int .i64 a.n, .int .i64 a.h, .int .i64 a.l, .int .i64 a.r, .int .i64 a.u, .int .i64 a.fi, .int .i64 a.fn] 23 := by rw [hW]; exact Ba
  replace Bb : Box W5 (w.heap.size + 1) [.int .i64 b.p, .int .i64 b.i, .int .i64 b.n, .int .i64 b.h, .int .i64 b.l, .int .i64 b.r, .int .i64 b.u, .int .i64 b.fi, .int .i64 b.fn] 23 := by rw [hW]; exact Bb
  replace Bc : Box W5 (w.heap.size + 1 + 1) [.int .i64 c.p, .int .i64 c.i, .int .i64 c.n, .int .i64 c.h, .int .i64 c.l, .int .i64 c.r, .int .i64 c.u, .int .i64 c.fi, .int .i64 c.fn] 23 := by rw [hW]; exact Bc
  clear hW
  clear xa ya za va xb yb zb vb xc yc zc vc
  obtain ⟨xa, ya, za, va⟩ := Ba.facts
  obtain ⟨xb, yb, zb, vb⟩ := Bb.facts
  obtain ⟨xc, yc, zc, vc⟩ := Bc.facts
  go_region
  go_wp2_with fail
  refine at_world fun W6 hW => ?_
  have Ca : Box W6 (w.heap.size) [.int .i64 a.p, .int .i64 a.i, .int .i64 a.n, .int .i64 a.h, .int .i64 a.l, .int .i64 a.r, .int .i64 a.u, .int .i64 a.fi, .int .i64 a.fn] 23 := by rw [hW]; exact (Box.drew ((Ba.set_ne ⟨w.heap.size + 1, 7, none⟩ (.int .i64 c.i) (by first | assumption | (show w.heap.size + 1 ≠ _; omega))).set_ne ⟨w.heap.size + 1, 8, none⟩ (.int .i64 c.n) (by first | assumption | (show w.heap.size + 1 ≠ _; omega))))
  have Cb : Box W6 (w.heap.size + 1) [.int .i64 b.p, .int .i64 b.i, .int .i64 b.n, .int .i64 b.h, .int .i64 b.l, .int .i64 b.r, .int .i64 b.u, .int .i64 c.i, .int .i64 c.n] 23 := by rw [hW]; exact (Box.drew ((Bb.set 7 (.int .i64 c.i)).set 8 (.int .i64 c.n)))
  have Cc : Box W6 (w.heap.size + 1 + 1) [.int .i64 c.p, .int .i64 c.i, .int .i64 c.n, .int .i64 c.h, .int .i64 c.l, .int .i64 c.r, .int .i64 c.u, .int .i64 c.fi, .int .i64 c.fn] 23 := by rw [hW]; exact (Box.drew ((Bc.set_ne ⟨w.heap.size + 1, 7, none⟩ (.int .i64 c.i) (by first | assumption | (show w.heap.size + 1 ≠ _; omega))).set_ne ⟨w.heap.size + 1, 8, none⟩ (.int .i64 c.n) (by first | assumption | (show w.heap.size + 1 ≠ _; omega))))
  replace hw : Below w.heap.size w W6 := by have hl := hw.size; rw [hW]; go_grown
  clear xa ya za va xb yb zb vb xc yc zc vc
  clear hW Ba Bb Bc
  have Ba := Ca
  have Bb := Cb
  have Bc := Cc
  clear Ca Cb Cc
  obtain ⟨xa, ya, za, va⟩ := Ba.facts
  obtain ⟨xb, yb, zb, vb⟩ := Bb.facts
  obtain ⟨xc, yc, zc, vc⟩ := Bc.facts
  go_region
  go_wp2_with fail
  refine at_call fun W7 hW => ?_
  have Ca : Box W7 (w.heap.size) [.int .i64 a.p, .int .i64 a.i, .int .i64 a.n, .int .i64 a.h, .int .i64 a.l, .int .i64 a.r, .int .i64 a.u, .int .i64 b.i, .int .i64 b.n] 23 := by rw [hW]; exact (Box.drew ((Ba.set 7 (.int .i64 b.i)).set 8 (.int .i64 b.n)))
  have Cb : Box W7 (w.heap.size + 1) [.int .i64 b.p, .int .i64 b.i, .int .i64 b.n, .int .i64 b.h, .int .i64 b.l, .int .i64 b.r, .int .i64 b.u, .int .i64 c.i, .int .i64 c.n] 23 := by rw [hW]; exact (Box.drew ((Bb.set_ne ⟨w.heap.size, 7, none⟩ (.int .i64 b.i) (by first | assumption | (show w.heap.size ≠ _; omega))).set_ne ⟨w.heap.size, 8, none⟩ (.int .i64 b.n) (by first | assumption | (show w.heap.size ≠ _; omega))))
  have Cc : Box W7 (w.heap.size + 1 + 1) [.int .i64 c.p, .int .i64 c.i, .int .i64 c.n, .int .i64 c.h, .int .i64 c.l, .int .i64 c.r, .int .i64 c.u, .int .i64 c.fi, .int .i64 c.fn] 23 := by rw [hW]; exact (Box.drew ((Bc.set_ne ⟨w.heap.size, 7, none⟩ (.int .i64 b.i) (by first | assumption | (show w.heap.size ≠ _; omega))).set_ne ⟨w.heap.size, 8, none⟩ (.int .i64 b.n) (by first | assumption | (show w.heap.size ≠ _; omega))))
  replace hw : Below w.heap.size w W7 := by have hl := hw.size; rw [hW]; go_grown
  clear xa ya za va xb yb zb vb xc yc zc vc
  clear hW Ba Bb Bc
  have Ba := Ca
  have Bb := Cb
  have Bc := Cc
  clear Ca Cb Cc
  refine (n1 _).mono ?_
  rintro e w8 ⟨rfl, hb⟩
  replace Ba := Ba.ext hb rfl
  replace Bb := Bb.ext hb rfl
  replace Bc := Bc.ext hb rfl
  replace hw := hw.trans (hb.mono hw.size)
  clear hb
  obtain ⟨xa, ya, za, va⟩ := Ba.facts
  obtain ⟨xb, yb, zb, vb⟩ := Bb.facts
  obtain ⟨xc, yc, zc, vc⟩ := Bc.facts
  go_wp2_with fail
  refine (awake_any _).mono ?_
  rintro e w9 ⟨rfl, hb⟩
  clear xa ya za va xb yb zb vb xc yc zc vc
  replace Ba := Ba.ext hb rfl
  replace Bb := Bb.ext hb rfl
  replace Bc := Bc.ext hb rfl
  replace hw := hw.trans (hb.mono hw.size)
  clear hb
  go_wp2
  go_ret
  exact ⟨rfl, hw⟩
set_option maxRecDepth 100000 in
set_option maxHeartbeats 2000000 in
theorem go_ttt (a b c : Cp) (ra : rng a.r) (rb : rng b.r) (rc : rng c.r) (hv1 : wR a.r b.r = true) (hv2 : wR b.r c.r = true) (h1 : inn a b = true) (h2 : inn b c = false) (w : World) :
    Calls Try.prog 4 #[.agg #[.int .i64 a.p, .int .i64 a.i, .int .i64 a.n, .int .i64 a.h, .int .i64 a.l, .int .i64 a.r, .int .i64 a.u, .int .i64 a.fi, .int .i64 a.fn], .agg #[.int .i64 b.p, .int .i64 b.i, .int .i64 b.n, .int .i64 b.h, .int .i64 b.l, .int .i64 b.r, .int .i64 b.u, .int .i64 b.fi, .int .i64 b.fn], .agg #[.int .i64 c.p, .int .i64 c.i, .int .i64 c.n, .int .i64 c.h, .int .i64 c.l, .int .i64 c.r, .int .i64 c.u, .int .i64 c.fi, .int .i64 c.fn]] w fun e w' => e = .returned (.bool true) ∧ Below w.heap.size w w' := by
  have k1 := within_any ra rb
  rw [hv1] at k1
  have k2 := within_any rb rc
  rw [hv2] at k2
  have k3 := within_any ra rc
  rw [wR_trans hv1 hv2] at k3
  have n1 := nar_any ⟨a.p, a.i, a.n, a.h, a.l, a.r, a.u, b.i, b.n⟩ ⟨b.p, b.i, b.n, b.h, b.l, b.r, b.u, c.i, c.n⟩ ra rb
  rw [show nar ⟨a.p, a.i, a.n, a.h, a.l, a.r, a.u, b.i, b.n⟩ ⟨b.p, b.i, b.n, b.h, b.l, b.r, b.u, c.i, c.n⟩ = inn a b by simp [nar, inn], h1] at n1
  simp only at n1
  have n2 := nar_any ⟨b.p, b.i, b.n, b.h, b.l, b.r, b.u, c.i, c.n⟩ c rb rc
  rw [show nar ⟨b.p, b.i, b.n, b.h, b.l, b.r, b.u, c.i, c.n⟩ c = inn b c by simp [nar, inn], h2] at n2
  simp only at n2
  clear hv1 h1 hv2 h2
  go_enter Try.func4, Try.ntmps4
  go_wp2_with fail
  refine at_call fun W1 hW => ?_
  have Ba : Box W1 (w.heap.size) [.int .i64 a.p, .int .i64 a.i, .int .i64 a.n, .int .i64 a.h, .int .i64 a.l, .int .i64 a.r, .int .i64 a.u, .int .i64 a.fi, .int .i64 a.fn] 23 := by rw [hW]; exact ((Box.new rfl).old _).old _
  have Bb : Box W1 (w.heap.size + 1) [.int .i64 b.p, .int .i64 b.i, .int .i64 b.n, .int .i64 b.h, .int .i64 b.l, .int .i64 b.r, .int .i64 b.u, .int .i64 b.fi, .int .i64 b.fn] 23 := by rw [hW]; exact (Box.new (by simp)).old _
  have Bc : Box W1 (w.heap.size + 1 + 1) [.int .i64 c.p, .int .i64 c.i, .int .i64 c.n, .int .i64 c.h, .int .i64 c.l, .int .i64 c.r, .int .i64 c.u, .int .i64 c.fi, .int .i64 c.fn] 23 := by rw [hW]; exact Box.new (by simp)
  have hw : Below w.heap.size w W1 := by rw [hW]; go_grown
  clear hW
  refine (k1 _).mono ?_
  rintro e w2 ⟨rfl, hb⟩
  replace Ba := Ba.ext hb rfl
  replace Bb := Bb.ext hb rfl
  replace Bc := Bc.ext hb rfl
  replace hw := hw.trans (hb.mono hw.size)
  clear hb
  obtain ⟨xa, ya, za, va⟩ := Ba.facts
  obtain ⟨xb, yb, zb, vb⟩ := Bb.facts
  obtain ⟨xc, yc, zc, vc⟩ := Bc.facts
  go_wp2_with fail
  refine (k2 _).mono ?_
  rintro e w3 ⟨rfl, hb⟩
  clear xa ya za va xb yb zb vb xc yc zc vc
  replace Ba := Ba.ext hb rfl
  replace Bb := Bb.ext hb rfl
  replace Bc := Bc.ext hb rfl
  replace hw := hw.trans (hb.mono hw.size)
  clear hb
  obtain ⟨xa, ya, za, va⟩ := Ba.facts
  obtain ⟨xb, yb, zb, vb⟩ := Bb.facts
  obtain ⟨xc, yc, zc, vc⟩ := Bc.facts
  go_wp2_with fail
  refine (k3 _).mono ?_
  rintro e w4 ⟨rfl, hb⟩
  clear xa ya za va xb yb zb vb xc yc zc vc
  replace Ba := Ba.ext hb rfl
  replace Bb := Bb.ext hb rfl
  replace Bc := Bc.ext hb rfl
  replace hw := hw.trans (hb.mono hw.size)
  clear hb
  obtain ⟨xa, ya, za, va⟩ := Ba.facts
  obtain ⟨xb, yb, zb, vb⟩ := Bb.facts
  obtain ⟨xc, yc, zc, vc⟩ := Bc.facts
  go_wp2_with fail
  refine at_world fun W5 hW => ?_
  replace hw : Below w.heap.size w W5 := by rw [hW]; exact hw
  replace Ba : Box W5 (w.heap.size) [.int .i64 a.p, .int .i64 a.i, .int .i64 a.n, .int .i64 a.h, .int .i64 a.l, .int .i64 a.r, .int .i64 a.u, .int .i64 a.fi, .int .i64 a.fn] 23 := by rw [hW]; exact Ba
  replace Bb : Box W5 (w.heap.size + 1) [.int .i64 b.p, .int .i64 b.i, .int .i64 b.n, .int .i64 b.h, .int .i64 b.l, .int .i64 b.r, .int .i64 b.u, .int .i64 b.fi, .int .i64 b.fn] 23 := by rw [hW]; exact Bb
  replace Bc : Box W5 (w.heap.size + 1 + 1) [.int .i64 c.p, .int .i64 c.i, .int .i64 c.n, .int .i64 c.h, .int .i64 c.l, .int .i64 c.r, .int .i64 c.u, .int .i64 c.fi, .int .i64 c.fn] 23 := by rw [hW]; exact Bc
  clear hW
  clear xa ya za va xb yb zb vb xc yc zc vc
  obtain ⟨xa, ya, za, va⟩ := Ba.facts
  obtain ⟨xb, yb, zb, vb⟩ := Bb.facts
  obtain ⟨xc, yc, zc, vc⟩ := Bc.facts
  go_region
  go_wp2_with fail
  refine at_world fun W6 hW => ?_
  have Ca : Box W6 (w.heap.size) [.int .i64 a.p, .int .i64 a.i, .int .i64 a.n, .int .i64 a.h, .int .i64 a.l, .int .i64 a.r, .int .i64 a.u, .int .i64 a.fi, .int .i64 a.fn] 23 := by rw [hW]; exact (Box.drew ((Ba.set_ne ⟨w.heap.size + 1, 7, none⟩ (.int .i64 c.i) (by first | assumption | (show w.heap.size + 1 ≠ _; omega))).set_ne ⟨w.heap.size + 1, 8, none⟩ (.int .i64 c.n) (by first | assumption | (show w.heap.size + 1 ≠ _; omega))))
  have Cb : Box W6 (w.heap.size + 1) [.int .i64 b.p, .int .i64 b.i, .int .i64 b.n, .int .i64 b.h, .int .i64 b.l, .int .i64 b.r, .int .i64 b.u, .int .i64 c.i, .int .i64 c.n] 23 := by rw [hW]; exact (Box.drew ((Bb.set 7 (.int .i64 c.i)).set 8 (.int .i64 c.n)))
  have Cc : Box W6 (w.heap.size + 1 + 1) [.int .i64 c.p, .int .i64 c.i, .int .i64 c.n, .int .i64 c.h, .int .i64 c.l, .int .i64 c.r, .int .i64 c.u, .int .i64 c.fi, .int .i64 c.fn] 23 := by rw [hW]; exact (Box.drew ((Bc.set_ne ⟨w.heap.size + 1, 7, none⟩ (.int .i64 c.i) (by first | assumption | (show w.heap.size + 1 ≠ _; omega))).set_ne ⟨w.heap.size + 1, 8, none⟩ (.int .i64 c.n) (by first | assumption | (show w.heap.size + 1 ≠ _; omega))))
  replace hw : Below w.heap.size w W6 := by have hl := hw.size; rw [hW]; go_grown
  clear xa ya za va xb yb zb vb xc yc zc vc
  clear hW Ba Bb Bc
  have Ba := Ca
  have Bb := Cb
  have Bc := Cc
  clear Ca Cb Cc
  obtain ⟨xa, ya, za, va⟩ := Ba.facts
  obtain ⟨xb, yb, zb, vb⟩ := Bb.facts
  obtain ⟨xc, yc, zc, vc⟩ := Bc.facts
  go_region
  go_wp2_with fail
  refine at_call fun W7 hW => ?_
  have Ca : Box W7 (w.heap.size) [.int .i64 a.p, .int .i64 a.i, .int .i64 a.n, .int .i64 a.h, .int .i64 a.l, .int .i64 a.r, .int .i64 a.u, .int .i64 b.i, .int .i64 b.n] 23 := by rw [hW]; exact (Box.drew ((Ba.set 7 (.int .i64 b.i)).set 8 (.int .i64 b.n)))
  have Cb : Box W7 (w.heap.size + 1) [.int .i64 b.p, .int .i64 b.i, .int .i64 b.n, .int .i64 b.h, .int .i64 b.l, .int .i64 b.r, .int .i64 b.u, .int .i64 c.i, .int .i64 c.n] 23 := by rw [hW]; exact (Box.drew ((Bb.set_ne ⟨w.heap.size, 7, none⟩ (.int .i64 b.i) (by first | assumption | (show w.heap.size ≠ _; omega))).set_ne ⟨w.heap.size, 8, none⟩ (.int .i64 b.n) (by first | assumption | (show w.heap.size ≠ _; omega))))
  have Cc : Box W7 (w.heap.size + 1 + 1) [.int .i64 c.p, .int .i64 c.i, .int .i64 c.n, .int .i64 c.h, .int .i64 c.l, .int .i64 c.r, .int .i64 c.u, .int .i64 c.fi, .int .i64 c.fn] 23 := by rw [hW]; exact (Box.drew ((Bc.set_ne ⟨w.heap.size, 7, none⟩ (.int .i64 b.i) (by first | assumption | (show w.heap.size ≠ _; omega))).set_ne ⟨w.heap.size, 8, none⟩ (.int .i64 b.n) (by first | assumption | (show w.heap.size ≠ _; omega))))
  replace hw : Below w.heap.size w W7 := by have hl := hw.size; rw [hW]; go_grown
  clear xa ya za va xb yb zb vb xc yc zc vc
  clear hW Ba Bb Bc
  have Ba := Ca
  have Bb := Cb
  have Bc := Cc
  clear Ca Cb Cc
  refine (n1 _).mono ?_
  rintro e w8 ⟨rfl, hb⟩
  replace Ba := Ba.ext hb rfl
  replace Bb := Bb.ext hb rfl
  replace Bc := Bc.ext hb rfl
  replace hw := hw.trans (hb.mono hw.size)
  clear hb
  obtain ⟨xa, ya, za, va⟩ := Ba.facts
  obtain ⟨xb, yb, zb, vb⟩ := Bb.facts
  obtain ⟨xc, yc, zc, vc⟩ := Bc.facts
  go_wp2_with fail
  refine (n2 _).mono ?_
  rintro e w9 ⟨rfl, hb⟩
  clear xa ya za va xb yb zb vb xc yc zc vc
  replace Ba := Ba.ext hb rfl
  replace Bb := Bb.ext hb rfl
  replace Bc := Bc.ext hb rfl
  replace hw := hw.trans (hb.mono hw.size)
  clear hb
  obtain ⟨xa, ya, za, va⟩ := Ba.facts
  obtain ⟨xb, yb, zb, vb⟩ := Bb.facts
  obtain ⟨xc, yc, zc, vc⟩ := Bc.facts
  go_wp2_with fail
  refine (awake_any _).mono ?_
  rintro e w10 ⟨rfl, hb⟩
  clear xa ya za va xb yb zb vb xc yc zc vc
  replace Ba := Ba.ext hb rfl
  replace Bb := Bb.ext hb rfl
  replace Bc := Bc.ext hb rfl
  replace hw := hw.trans (hb.mono hw.size)
  clear hb
  go_wp2
  go_ret
  exact ⟨rfl, hw⟩
set_option maxRecDepth 100000 in
set_option maxHeartbeats 2000000 in
theorem go_all (a b c : Cp) (ra : rng a.r) (rb : rng b.r) (rc : rng c.r) (hv1 : wR a.r b.r = true) (hv2 : wR b.r c.r = true) (h1 : inn a b = true) (h2 : inn b c = true) (w : World) :
    Calls Try.prog 4 #[.agg #[.int .i64 a.p, .int .i64 a.i, .int .i64 a.n, .int .i64 a.h, .int .i64 a.l, .int .i64 a.r, .int .i64 a.u, .int .i64 a.fi, .int .i64 a.fn], .agg #[.int .i64 b.p, .int .i64 b.i, .int .i64 b.n, .int .i64 b.h, .int .i64 b.l, .int .i64 b.r, .int .i64 b.u, .int .i64 b.fi, .int .i64 b.fn], .agg #[.int .i64 c.p, .int .i64 c.i, .int .i64 c.n, .int .i64 c.h, .int .i64 c.l, .int .i64 c.r, .int .i64 c.u, .int .i64 c.fi, .int .i64 c.fn]] w fun e w' => e = .returned (.bool true) ∧ Below w.heap.size w w' := by
  have k1 := within_any ra rb
  rw [hv1] at k1
  have k2 := within_any rb rc
  rw [hv2] at k2
  have k3 := within_any ra rc
  rw [wR_trans hv1 hv2] at k3
  have n1 := nar_any ⟨a.p, a.i, a.n, a.h, a.l, a.r, a.u, b.i, b.n⟩ ⟨b.p, b.i, b.n, b.h, b.l, b.r, b.u, c.i, c.n⟩ ra rb
  rw [show nar ⟨a.p, a.i, a.n, a.h, a.l, a.r, a.u, b.i, b.n⟩ ⟨b.p, b.i, b.n, b.h, b.l, b.r, b.u, c.i, c.n⟩ = inn a b by simp [nar, inn], h1] at n1
  simp only at n1
  have n2 := nar_any ⟨b.p, b.i, b.n, b.h, b.l, b.r, b.u, c.i, c.n⟩ c rb rc
  rw [show nar ⟨b.p, b.i, b.n, b.h, b.l, b.r, b.u, c.i, c.n⟩ c = inn b c by simp [nar, inn], h2] at n2
  simp only at n2
  have n3 := nar_any ⟨a.p, a.i, a.n, a.h, a.l, a.r, a.u, c.i, c.n⟩ c ra rc
  rw [show nar ⟨a.p, a.i, a.n, a.h, a.l, a.r, a.u, c.i, c.n⟩ c = inn a c by simp [nar, inn], inn_trans h1 h2] at n3
  simp only at n3
  have ht := inn_trans h1 h2
  unfold inn at ht
  simp only [Bool.and_eq_true, beq_iff_eq] at ht
  have e2 : decide (a.u ≤ c.u) = true := ht.1.2
  have e1 : (bits .andNot .i64 a.r c.r == 0) = true := by have := ht.1.1.2; unfold wR at this; simp only [Bool.and_eq_true] at this; exact this.2
  have e0 : (a.p == c.p) = true := by simpa using ht.1.1.1
  have e3 : (a.l == c.l || c.l == 0) = true := ht.2
  clear ht
  clear hv1 h1 hv2 h2
  go_enter Try.func4, Try.ntmps4
  go_wp2_with fail
  refine at_call fun W1 hW => ?_
  have Ba : Box W1 (w.heap.size) [.int .i64 a.p, .int .i64 a.i, .int .i64 a.n, .int .i64 a.h, .int .i64 a.l, .int .i64 a.r, .int .i64 a.u, .int .i64 a.fi, .int .i64 a.fn] 23 := by rw [hW]; exact ((Box.new rfl).old _).old _
  have Bb : Box W1 (w.heap.size + 1) [.int .i64 b.p, .int .i64 b.i, .int .i64 b.n, .int .i64 b.h, .int .i64 b.l, .int .i64 b.r, .int .i64 b.u, .int .i64 b.fi, .int .i64 b.fn] 23 := by rw [hW]; exact (Box.new (by simp)).old _
  have Bc : Box W1 (w.heap.size + 1 + 1) [.int .i64 c.p, .int .i64 c.i, .int .i64 c.n, .int .i64 c.h, .int .i64 c.l, .int .i64 c.r, .int .i64 c.u, .int .i64 c.fi, .int .i64 c.fn] 23 := by rw [hW]; exact Box.new (by simp)
  have hw : Below w.heap.size w W1 := by rw [hW]; go_grown
  clear hW
  refine (k1 _).mono ?_
  rintro e w2 ⟨rfl, hb⟩
  replace Ba := Ba.ext hb rfl
  replace Bb := Bb.ext hb rfl
  replace Bc := Bc.ext hb rfl
  replace hw := hw.trans (hb.mono hw.size)
  clear hb
  obtain ⟨xa, ya, za, va⟩ := Ba.facts
  obtain ⟨xb, yb, zb, vb⟩ := Bb.facts
  obtain ⟨xc, yc, zc, vc⟩ := Bc.facts
  go_wp2_with fail
  refine (k2 _).mono ?_
  rintro e w3 ⟨rfl, hb⟩
  clear xa ya za va xb yb zb vb xc yc zc vc
  replace Ba := Ba.ext hb rfl
  replace Bb := Bb.ext hb rfl
  replace Bc := Bc.ext hb rfl
  replace hw := hw.trans (hb.mono hw.size)
  clear hb
  obtain ⟨xa, ya, za, va⟩ := Ba.facts
  obtain ⟨xb, yb, zb, vb⟩ := Bb.facts
  obtain ⟨xc, yc, zc, vc⟩ := Bc.facts
  go_wp2_with fail
  refine (k3 _).mono ?_
  rintro e w4 ⟨rfl, hb⟩
  clear xa ya za va xb yb zb vb xc yc zc vc
  replace Ba := Ba.ext hb rfl
  replace Bb := Bb.ext hb rfl
  replace Bc := Bc.ext hb rfl
  replace hw := hw.trans (hb.mono hw.size)
  clear hb
  obtain ⟨xa, ya, za, va⟩ := Ba.facts
  obtain ⟨xb, yb, zb, vb⟩ := Bb.facts
  obtain ⟨xc, yc, zc, vc⟩ := Bc.facts
  go_wp2_with fail
  refine at_world fun W5 hW => ?_
  replace hw : Below w.heap.size w W5 := by rw [hW]; exact hw
  replace Ba : Box W5 (w.heap.size) [.int .i64 a.p, .int .i64 a.i, .int .i64 a.n, .int .i64 a.h, .int .i64 a.l, .int .i64 a.r, .int .i64 a.u, .int .i64 a.fi, .int .i64 a.fn] 23 := by rw [hW]; exact Ba
  replace Bb : Box W5 (w.heap.size + 1) [.int .i64 b.p, .int .i64 b.i, .int .i64 b.n, .int .i64 b.h, .int .i64 b.l, .int .i64 b.r, .int .i64 b.u, .int .i64 b.fi, .int .i64 b.fn] 23 := by rw [hW]; exact Bb
  replace Bc : Box W5 (w.heap.size + 1 + 1) [.int .i64 c.p, .int .i64 c.i, .int .i64 c.n, .int .i64 c.h, .int .i64 c.l, .int .i64 c.r, .int .i64 c.u, .int .i64 c.fi, .int .i64 c.fn] 23 := by rw [hW]; exact Bc
  clear hW
  clear xa ya za va xb yb zb vb xc yc zc vc
  obtain ⟨xa, ya, za, va⟩ := Ba.facts
  obtain ⟨xb, yb, zb, vb⟩ := Bb.facts
  obtain ⟨xc, yc, zc, vc⟩ := Bc.facts
  go_region
  go_wp2_with fail
  refine at_world fun W6 hW => ?_
  have Ca : Box W6 (w.heap.size) [.int .i64 a.p, .int .i64 a.i, .int .i64 a.n, .int .i64 a.h, .int .i64 a.l, .int .i64 a.r, .int .i64 a.u, .int .i64 a.fi, .int .i64 a.fn] 23 := by rw [hW]; exact (Box.drew ((Ba.set_ne ⟨w.heap.size + 1, 7, none⟩ (.int .i64 c.i) (by first | assumption | (show w.heap.size + 1 ≠ _; omega))).set_ne ⟨w.heap.size + 1, 8, none⟩ (.int .i64 c.n) (by first | assumption | (show w.heap.size + 1 ≠ _; omega))))
  have Cb : Box W6 (w.heap.size + 1) [.int .i64 b.p, .int .i64 b.i, .int .i64 b.n, .int .i64 b.h, .int .i64 b.l, .int .i64 b.r, .int .i64 b.u, .int .i64 c.i, .int .i64 c.n] 23 := by rw [hW]; exact (Box.drew ((Bb.set 7 (.int .i64 c.i)).set 8 (.int .i64 c.n)))
  have Cc : Box W6 (w.heap.size + 1 + 1) [.int .i64 c.p, .int .i64 c.i, .int .i64 c.n, .int .i64 c.h, .int .i64 c.l, .int .i64 c.r, .int .i64 c.u, .int .i64 c.fi, .int .i64 c.fn] 23 := by rw [hW]; exact (Box.drew ((Bc.set_ne ⟨w.heap.size + 1, 7, none⟩ (.int .i64 c.i) (by first | assumption | (show w.heap.size + 1 ≠ _; omega))).set_ne ⟨w.heap.size + 1, 8, none⟩ (.int .i64 c.n) (by first | assumption | (show w.heap.size + 1 ≠ _; omega))))
  replace hw : Below w.heap.size w W6 := by have hl := hw.size; rw [hW]; go_grown
  clear xa ya za va xb yb zb vb xc yc zc vc
  clear hW Ba Bb Bc
  have Ba := Ca
  have Bb := Cb
  have Bc := Cc
  clear Ca Cb Cc
  obtain ⟨xa, ya, za, va⟩ := Ba.facts
  obtain ⟨xb, yb, zb, vb⟩ := Bb.facts
  obtain ⟨xc, yc, zc, vc⟩ := Bc.facts
  go_region
  go_wp2_with fail
  refine at_call fun W7 hW => ?_
  have Ca : Box W7 (w.heap.size) [.int .i64 a.p, .int .i64 a.i, .int .i64 a.n, .int .i64 a.h, .int .i64 a.l, .int .i64 a.r, .int .i64 a.u, .int .i64 b.i, .int .i64 b.n] 23 := by rw [hW]; exact (Box.drew ((Ba.set 7 (.int .i64 b.i)).set 8 (.int .i64 b.n)))
  have Cb : Box W7 (w.heap.size + 1) [.int .i64 b.p, .int .i64 b.i, .int .i64 b.n, .int .i64 b.h, .int .i64 b.l, .int .i64 b.r, .int .i64 b.u, .int .i64 c.i, .int .i64 c.n] 23 := by rw [hW]; exact (Box.drew ((Bb.set_ne ⟨w.heap.size, 7, none⟩ (.int .i64 b.i) (by first | assumption | (show w.heap.size ≠ _; omega))).set_ne ⟨w.heap.size, 8, none⟩ (.int .i64 b.n) (by first | assumption | (show w.heap.size ≠ _; omega))))
  have Cc : Box W7 (w.heap.size + 1 + 1) [.int .i64 c.p, .int .i64 c.i, .int .i64 c.n, .int .i64 c.h, .int .i64 c.l, .int .i64 c.r, .int .i64 c.u, .int .i64 c.fi, .int .i64 c.fn] 23 := by rw [hW]; exact (Box.drew ((Bc.set_ne ⟨w.heap.size, 7, none⟩ (.int .i64 b.i) (by first | assumption | (show w.heap.size ≠ _; omega))).set_ne ⟨w.heap.size, 8, none⟩ (.int .i64 b.n) (by first | assumption | (show w.heap.size ≠ _; omega))))
  replace hw : Below w.heap.size w W7 := by have hl := hw.size; rw [hW]; go_grown
  clear xa ya za va xb yb zb vb xc yc zc vc
  clear hW Ba Bb Bc
  have Ba := Ca
  have Bb := Cb
  have Bc := Cc
  clear Ca Cb Cc
  refine (n1 _).mono ?_
  rintro e w8 ⟨rfl, hb⟩
  replace Ba := Ba.ext hb rfl
  replace Bb := Bb.ext hb rfl
  replace Bc := Bc.ext hb rfl
  replace hw := hw.trans (hb.mono hw.size)
  clear hb
  obtain ⟨xa, ya, za, va⟩ := Ba.facts
  obtain ⟨xb, yb, zb, vb⟩ := Bb.facts
  obtain ⟨xc, yc, zc, vc⟩ := Bc.facts
  go_wp2_with fail
  refine (n2 _).mono ?_
  rintro e w9 ⟨rfl, hb⟩
  clear xa ya za va xb yb zb vb xc yc zc vc
  replace Ba := Ba.ext hb rfl
  replace Bb := Bb.ext hb rfl
  replace Bc := Bc.ext hb rfl
  replace hw := hw.trans (hb.mono hw.size)
  clear hb
  obtain ⟨xa, ya, za, va⟩ := Ba.facts
  obtain ⟨xb, yb, zb, vb⟩ := Bb.facts
  obtain ⟨xc, yc, zc, vc⟩ := Bc.facts
  go_wp2_with fail
  refine at_world fun W10 hW => ?_
  obtain ⟨bkx, hbx⟩ : ∃ b, w9.heap.size = b := ⟨_, rfl⟩
  rw [hbx]
  have lax := Ba.lt
  rw [hbx] at lax
  have lbx := Bb.lt
  rw [hbx] at lbx
  have lcx := Bc.lt
  rw [hbx] at lcx
  have fx := hw.size
  rw [hbx] at fx
  have Bx : Box W10 bkx [.int .i64 a.p, .int .i64 a.i, .int .i64 a.n, .int .i64 a.h, .int .i64 a.l, .int .i64 a.r, .int .i64 a.u, .int .i64 b.i, .int .i64 b.n] 23 := by rw [hW]; exact Box.new hbx.symm
  replace Ba : Box W10 (w.heap.size) [.int .i64 a.p, .int .i64 a.i, .int .i64 a.n, .int .i64 a.h, .int .i64 a.l, .int .i64 a.r, .int .i64 a.u, .int .i64 b.i, .int .i64 b.n] 23 := by rw [hW]; exact Ba.old _
  replace Bb : Box W10 (w.heap.size + 1) [.int .i64 b.p, .int .i64 b.i, .int .i64 b.n, .int .i64 b.h, .int .i64 b.l, .int .i64 b.r, .int .i64 b.u, .int .i64 c.i, .int .i64 c.n] 23 := by rw [hW]; exact Bb.old _
  replace Bc : Box W10 (w.heap.size + 1 + 1) [.int .i64 c.p, .int .i64 c.i, .int .i64 c.n, .int .i64 c.h, .int .i64 c.l, .int .i64 c.r, .int .i64 c.u, .int .i64 c.fi, .int .i64 c.fn] 23 := by rw [hW]; exact Bc.old _
  replace hw : Below w.heap.size w W10 := by have hl := hw.size; rw [hW]; go_grown
  clear hW hbx
  obtain ⟨xa, ya, za, va⟩ := Ba.facts
  obtain ⟨xb, yb, zb, vb⟩ := Bb.facts
  obtain ⟨xc, yc, zc, vc⟩ := Bc.facts
  obtain ⟨xx, yx, zx, vx⟩ := Bx.facts
  go_region
  go_wp2_with fail
  refine at_call fun W11 hW => ?_
  have Ca : Box W11 (w.heap.size) [.int .i64 a.p, .int .i64 a.i, .int .i64 a.n, .int .i64 a.h, .int .i64 a.l, .int .i64 a.r, .int .i64 a.u, .int .i64 b.i, .int .i64 b.n] 23 := by rw [hW]; exact (Box.drew ((Ba.set_ne ⟨bkx, 7, none⟩ (.int .i64 c.i) (by first | assumption | (show bkx ≠ _; omega))).set_ne ⟨bkx, 8, none⟩ (.int .i64 c.n) (by first | assumption | (show bkx ≠ _; omega))))
  have Cb : Box W11 (w.heap.size + 1) [.int .i64 b.p, .int .i64 b.i, .int .i64 b.n, .int .i64 b.h, .int .i64 b.l, .int .i64 b.r, .int .i64 b.u, .int .i64 c.i, .int .i64 c.n] 23 := by rw [hW]; exact (Box.drew ((Bb.set_ne ⟨bkx, 7, none⟩ (.int .i64 c.i) (by first | assumption | (show bkx ≠ _; omega))).set_ne ⟨bkx, 8, none⟩ (.int .i64 c.n) (by first | assumption | (show bkx ≠ _; omega))))
  have Cc : Box W11 (w.heap.size + 1 + 1) [.int .i64 c.p, .int .i64 c.i, .int .i64 c.n, .int .i64 c.h, .int .i64 c.l, .int .i64 c.r, .int .i64 c.u, .int .i64 c.fi, .int .i64 c.fn] 23 := by rw [hW]; exact (Box.drew ((Bc.set_ne ⟨bkx, 7, none⟩ (.int .i64 c.i) (by first | assumption | (show bkx ≠ _; omega))).set_ne ⟨bkx, 8, none⟩ (.int .i64 c.n) (by first | assumption | (show bkx ≠ _; omega))))
  have Cx : Box W11 (bkx) [.int .i64 a.p, .int .i64 a.i, .int .i64 a.n, .int .i64 a.h, .int .i64 a.l, .int .i64 a.r, .int .i64 a.u, .int .i64 c.i, .int .i64 c.n] 23 := by rw [hW]; exact (Box.drew ((Bx.set 7 (.int .i64 c.i)).set 8 (.int .i64 c.n)))
  replace hw : Below w.heap.size w W11 := by have hl := hw.size; rw [hW]; go_grown
  clear xa ya za va xb yb zb vb xc yc zc vc xx yx zx vx
  clear hW Ba Bb Bc Bx
  have Ba := Ca
  have Bb := Cb
  have Bc := Cc
  have Bx := Cx
  clear Ca Cb Cc Cx
  refine (n3 _).mono ?_
  rintro e w12 ⟨rfl, hb⟩
  replace Ba := Ba.ext hb rfl
  replace Bb := Bb.ext hb rfl
  replace Bc := Bc.ext hb rfl
  replace Bx := Bx.ext hb rfl
  replace hw := hw.trans (hb.mono hw.size)
  clear hb
  obtain ⟨xa, ya, za, va⟩ := Ba.facts
  obtain ⟨xb, yb, zb, vb⟩ := Bb.facts
  obtain ⟨xc, yc, zc, vc⟩ := Bc.facts
  obtain ⟨xx, yx, zx, vx⟩ := Bx.facts
  cases e4 : (c.l == 0) with
  | true =>
    go_wp2_with fail
    refine (awake_any _).mono ?_
    rintro e w13 ⟨rfl, hb⟩
    clear xa ya za va xb yb zb vb xc yc zc vc xx yx zx vx
    replace Ba := Ba.ext hb rfl
    replace Bb := Bb.ext hb rfl
    replace Bc := Bc.ext hb rfl
    replace Bx := Bx.ext hb rfl
    replace hw := hw.trans (hb.mono hw.size)
    clear hb
    go_wp2
    go_ret
    exact ⟨rfl, hw⟩
  | false =>
    have e5 : (a.l == c.l) = true := by simpa [e4] using e3
    go_wp2_with fail
    refine (awake_any _).mono ?_
    rintro e w13 ⟨rfl, hb⟩
    clear xa ya za va xb yb zb vb xc yc zc vc xx yx zx vx
    replace Ba := Ba.ext hb rfl
    replace Bb := Bb.ext hb rfl
    replace Bc := Bc.ext hb rfl
    replace Bx := Bx.ext hb rfl
    replace hw := hw.trans (hb.mono hw.size)
    clear hb
    go_wp2
    go_ret
    exact ⟨rfl, hw⟩
theorem goOn_law (a b c : Cp) (ka : WFC a) (kb : WFC b) (kc : WFC c) (w : World) :
    Calls Try.prog 4 #[.agg #[.int .i64 a.p, .int .i64 a.i, .int .i64 a.n, .int .i64 a.h, .int .i64 a.l, .int .i64 a.r, .int .i64 a.u, .int .i64 a.fi, .int .i64 a.fn], .agg #[.int .i64 b.p, .int .i64 b.i, .int .i64 b.n, .int .i64 b.h, .int .i64 b.l, .int .i64 b.r, .int .i64 b.u, .int .i64 b.fi, .int .i64 b.fn], .agg #[.int .i64 c.p, .int .i64 c.i, .int .i64 c.n, .int .i64 c.h, .int .i64 c.l, .int .i64 c.r, .int .i64 c.u, .int .i64 c.fi, .int .i64 c.fn]] w fun e w' => e = .returned (.bool true) ∧ Below w.heap.size w w' := by
  have ra := ka.rng
  have rb := kb.rng
  have rc := kc.rng
  cases hv1 : wR a.r b.r with
  | false => exact go_f a b c ra rb rc hv1 (by unfold inn; rw [hv1]; simp) w
  | true => cases hv2 : wR b.r c.r with
    | false => cases h1 : inn a b with
      | false => exact go_tff a b c ra rb rc hv1 hv2 h1 w
      | true => exact go_tft a b c ra rb rc hv1 hv2 h1 (by unfold inn; rw [hv2]; simp) w
    | true => cases h1 : inn a b with
      | false => exact go_ttf a b c ra rb rc hv1 hv2 h1 w
      | true => cases h2 : inn b c with
        | false => exact go_ttt a b c ra rb rc hv1 hv2 h1 h2 w
        | true => exact go_all a b c ra rb rc hv1 hv2 h1 h2 w
set_option maxRecDepth 100000 in
theorem rightsGoOn_lifted (os : Os) (started : os.Started) (H : Type) (enc : TypeId × Value → H) :
    ReturnsInHanded {} Try.checked os 4 .any (Rows.rightsGoOnSpec.pre6 enc Try.prog Try.f4 Rows.rightsGoOnRow.domain false) (Rows.rightsGoOnSpec.post enc Try.prog Try.f4 false true false false) := by
  refine returnsInHanded_of_change (C := Try.checked) Try.own started (by kernel_rfl) Try.func4
    (ChangeSpec.witness6 (enc := enc) (C := Try.checked) false ⟨#[], #[.agg #[.int .i64 0, .int .i64 0, .int .i64 0, .int .i64 0, .int .i64 0, .int .i64 0, .int .i64 0, .int .i64 0, .int .i64 0], .agg #[.int .i64 0, .int .i64 0, .int .i64 0, .int .i64 0, .int .i64 0, .int .i64 0, .int .i64 0, .int .i64 0, .int .i64 0], .agg #[.int .i64 0, .int .i64 0, .int .i64 0, .int .i64 0, .int .i64 0, .int .i64 0, .int .i64 0, .int .i64 0, .int .i64 0]], []⟩ 8 (by kernel_rfl) (by kernel_rfl) (by kernel_rfl) (by kernel_rfl)) ?_
  intro W base args ds gs before hval0 hW hcnd _
  have hval : ∀ (j : Nat) t v, Try.f4.params[j]? = some t → args[j]? = some v → Value.okWide Try.prog W .any base t v := hval0
  have hW' := hW
  obtain ⟨p, q, hA0, hV, rfl, hfz, hnd⟩ := hW
  have hA : DataW.TrodAll enc Try.prog W 0 (fun _ => true) true Try.f4.params.toList args.toList ds p := hA0
  rw [Try.params4] at hA hval
  obtain ⟨v0, v1, v2, d0, d1, d2, q0, q1, q2, rfl, rfl, rfl, p0, p1, p2⟩ := trodAll_three hA
  obtain ⟨rfl, rfl⟩ := trodVars_none hV
  obtain ⟨a, rfl, rfl, rfl, ka⟩ := open_cap (hval 0 23 v0 rfl rfl) p0
  obtain ⟨b, rfl, rfl, rfl, kb⟩ := open_cap (hval 1 23 v1 rfl rfl) p1
  obtain ⟨c, rfl, rfl, rfl, kc⟩ := open_cap (hval 2 23 v2 rfl rfl) p2
  clear hA0 hval0
  simp only [List.append_nil] at hW'
  refine (goOn_law a b c ka kb kc W).mono fun e W' ⟨he, hb⟩ => ?_
  subst he
  exact ⟨_, rfl, post_of_below (pa := []) (pv := []) hW' (fun _ _ _ => trodAll_mk1 (shut_bool Try.underlying4 true)) (fun sp _ => trodAll_mk3 (shut_cap ka) (shut_cap kb) (shut_cap kc)) (fun _ _ => rfl) rfl hb (ok_one (by kernel_rfl) rfl (okWide_bool_mk Try.underlying4 true))⟩
/-- The law RightsGoOn holds of every input. -/
theorem rightsGoOn_holds : Rows.RightsGoOnSaid :=
  OpenClaim.holds_of_wide 4 Try.f4 rfl rfl rfl rfl rfl rfl rfl ⟨rfl, rfl, rfl, rfl, rfl⟩ rfl rfl rfl rfl rfl (by kernel_rfl) Try.func4 (by kernel_rfl)
    (of_decide_eq_true (by kernel_rfl)) (by unfold Func.isWrapper; rw [if_neg (of_decide_eq_false (by kernel_rfl))]; exact ⟨rfl, rfl⟩)
    (fun os started H enc _ => rightsGoOn_lifted os started H enc)
end Go.Proofs.Ytipokakeaboelaa
