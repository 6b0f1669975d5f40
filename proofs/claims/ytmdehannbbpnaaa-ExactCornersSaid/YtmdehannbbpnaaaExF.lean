/- The contract of exact.Circle. -/
import Derived.Test.YtmdehannbbpnaaaRows
import Derived.Test.YtmdehannbbpnaaaExD
import Derived.Test.YtmdehannbbpnaaaPost
import Derived.Test.YtmdehannbbpnaaaExE
import Derived.WalkKit
import Derived.WalkSpells
import Derived.WalkLawsBesides
import Derived.Laws.Externs
import Derived.Deep.QuietTactic
import Derived.BigQuiet
import Derived.Lib.Hide
import Derived.Handy
namespace Go.Proofs.Ytmdehannbbpnaaa
open Go.RowKit Go.Sort
attribute [local go_sem] rOper rAt rUpon cell_set sg_i64 sg_u64 alloc_cell alloc_frozen
attribute [local go_sem 10000] pt_eql pt_neq
attribute [local irreducible] rWalk

/-- The tie: of four on one circle the least tells. -/
def tie (a b c d m : Pt) (o : Int) : Int := if peqI m.x m.y d.x d.y = true then o else if peqI m.x m.y a.x a.y = true then -ori d b c else if peqI m.x m.y b.x b.y = true then -ori a d c else -ori a b d
def circ (a b c d : Pt) : Int :=
  if ori a b c = 0 then 0 else if vld d = false then 0 else if peqI d.x d.y a.x a.y = true then 0 else if peqI d.x d.y b.x b.y = true then 0 else if peqI d.x d.y c.x c.y = true then 0
  else if ¬ sgn (lft a b c d) = 0 then sgn (lft a b c d) else tie a b c d (min4 a b c d) (ori a b c)
theorem sgn_bd (n : Int) : -1 ≤ sgn n ∧ sgn n ≤ 1 := by unfold sgn; split <;> (try split) <;> omega
theorem ori_bd (a b c : Pt) : -1 ≤ ori a b c ∧ ori a b c ≤ 1 := by unfold ori; split; exact sgn_bd _; omega
theorem ori_vld {a b c : Pt} (h : ¬ ori a b c = 0) : vld a = true ∧ vld b = true ∧ vld c = true := by
  unfold ori at h; split at h; assumption; exact absurd rfl h
theorem circle_0 (a b c d : Pt) (h0 : ori a b c = 0) (w : World) :
    Calls Try.prog 16 #[.agg #[.int .i64 a.x, .int .i64 a.y], .agg #[.int .i64 b.x, .int .i64 b.y], .agg #[.int .i64 c.x, .int .i64 c.y], .agg #[.int .i64 d.x, .int .i64 d.y]] w fun e w' => e = .returned (.int .i64 0) ∧ Below w.heap.size w w' := by
  have co := orient_any a b c
  rw [h0] at co
  clear h0
  go_enter Try.func16, Try.ntmps16
  go_wp2_with fail
  refine at_call fun W1 hW => ?_
  have Ba : Box W1 (w.heap.size) [.int .i64 a.x, .int .i64 a.y] 23 := by rw [hW]; exact (((Box.new rfl).old _).old _).old _
  have Bb : Box W1 (w.heap.size + 1) [.int .i64 b.x, .int .i64 b.y] 23 := by rw [hW]; exact ((Box.new (by simp)).old _).old _
  have Bc : Box W1 (w.heap.size + 1 + 1) [.int .i64 c.x, .int .i64 c.y] 23 := by rw [hW]; exact (Box.new (by simp)).old _
  have Bd : Box W1 (w.heap.size + 1 + 1 + 1) [.int .i64 d.x, .int .i64 d.y] 23 := by rw [hW]; exact Box.new (by simp)
  have hw : Below w.heap.size w W1 := by rw [hW]; go_grown
  clear hW
  refine (co _).mono ?_
  rintro e w2 ⟨rfl, hb⟩
  replace Ba := Ba.ext hb rfl
  replace Bb := Bb.ext hb rfl
  replace Bc := Bc.ext hb rfl
  replace Bd := Bd.ext hb rfl
  replace hw := hw.trans (hb.mono hw.size)
  clear hb
  go_wp2
  go_ret
  exact ⟨rfl, hw⟩

theorem circle_1 (a b c d : Pt) (h0 : ¬ ori a b c = 0) (hv : vld d = false) (w : World) :
    Calls Try.prog 16 #[.agg #[.int .i64 a.x, .int .i64 a.y], .agg #[.int .i64 b.x, .int .i64 b.y], .agg #[.int .i64 c.x, .int .i64 c.y], .agg #[.int .i64 d.x, .int .i64 d.y]] w fun e w' => e = .returned (.int .i64 0) ∧ Below w.heap.size w w' := by
  have co := orient_any a b c
  have cv := valid_any d
  rw [hv] at cv
  clear hv
  have bo := ori_bd a b c
  generalize ori a b c = o at *
  have t0 : (o == 0) = false := by simpa using h0
  clear h0
  go_enter Try.func16, Try.ntmps16
  go_wp2_with fail
  refine at_call fun W1 hW => ?_
  have Ba : Box W1 (w.heap.size) [.int .i64 a.x, .int .i64 a.y] 23 := by rw [hW]; exact (((Box.new rfl).old _).old _).old _
  have Bb : Box W1 (w.heap.size + 1) [.int .i64 b.x, .int .i64 b.y] 23 := by rw [hW]; exact ((Box.new (by simp)).old _).old _
  have Bc : Box W1 (w.heap.size + 1 + 1) [.int .i64 c.x, .int .i64 c.y] 23 := by rw [hW]; exact (Box.new (by simp)).old _
  have Bd : Box W1 (w.heap.size + 1 + 1 + 1) [.int .i64 d.x, .int .i64 d.y] 23 := by rw [hW]; exact Box.new (by simp)
  have hw : Below w.heap.size w W1 := by rw [hW]; go_grown
  clear hW
  refine (co _).mono ?_
  rintro e w2 ⟨rfl, hb⟩
  replace Ba := Ba.ext hb rfl
  replace Bb := Bb.ext hb rfl
  replace Bc := Bc.ext hb rfl
  replace Bd := Bd.ext hb rfl
  replace hw := hw.trans (hb.mono hw.size)
  clear hb
  obtain ⟨xa, ya, za, va⟩ := Ba.facts
  obtain ⟨xb, yb, zb, vb⟩ := Bb.facts
  obtain ⟨xc, yc, zc, vc⟩ := Bc.facts
  obtain ⟨xd, yd, zd, vd⟩ := Bd.facts
  go_wp2_with fail
  refine (cv _).mono ?_
  rintro e w3 ⟨rfl, hb⟩
  clear xa ya za va xb yb zb vb xc yc zc vc xd yd zd vd
  replace Ba := Ba.ext hb rfl
  replace Bb := Bb.ext hb rfl
  replace Bc := Bc.ext hb rfl
  replace Bd := Bd.ext hb rfl
  replace hw := hw.trans (hb.mono hw.size)
  clear hb
  obtain ⟨xa, ya, za, va⟩ := Ba.facts
  obtain ⟨xb, yb, zb, vb⟩ := Bb.facts
  obtain ⟨xc, yc, zc, vc⟩ := Bc.facts
  obtain ⟨xd, yd, zd, vd⟩ := Bd.facts
  go_wp2
  go_ret
  exact ⟨rfl, hw⟩

theorem circle_2 (a b c d : Pt) (h0 : ¬ ori a b c = 0) (hv : vld d = true) (e1 : peqI d.x d.y a.x a.y = true) (w : World) :
    Calls Try.prog 16 #[.agg #[.int .i64 a.x, .int .i64 a.y], .agg #[.int .i64 b.x, .int .i64 b.y], .agg #[.int .i64 c.x, .int .i64 c.y], .agg #[.int .i64 d.x, .int .i64 d.y]] w fun e w' => e = .returned (.int .i64 0) ∧ Below w.heap.size w w' := by
  have co := orient_any a b c
  have cv := valid_any d
  rw [hv] at cv
  clear hv
  have bo := ori_bd a b c
  generalize ori a b c = o at *
  have t0 : (o == 0) = false := by simpa using h0
  clear h0
  go_enter Try.func16, Try.ntmps16
  go_wp2_with fail
  refine at_call fun W1 hW => ?_
  have Ba : Box W1 (w.heap.size) [.int .i64 a.x, .int .i64 a.y] 23 := by rw [hW]; exact (((Box.new rfl).old _).old _).old _
  have Bb : Box W1 (w.heap.size + 1) [.int .i64 b.x, .int .i64 b.y] 23 := by rw [hW]; exact ((Box.new (by simp)).old _).old _
  have Bc : Box W1 (w.heap.size + 1 + 1) [.int .i64 c.x, .int .i64 c.y] 23 := by rw [hW]; exact (Box.new (by simp)).old _
  have Bd : Box W1 (w.heap.size + 1 + 1 + 1) [.int .i64 d.x, .int .i64 d.y] 23 := by rw [hW]; exact Box.new (by simp)
  have hw : Below w.heap.size w W1 := by rw [hW]; go_grown
  clear hW
  refine (co _).mono ?_
  rintro e w2 ⟨rfl, hb⟩
  replace Ba := Ba.ext hb rfl
  replace Bb := Bb.ext hb rfl
  replace Bc := Bc.ext hb rfl
  replace Bd := Bd.ext hb rfl
  replace hw := hw.trans (hb.mono hw.size)
  clear hb
  obtain ⟨xa, ya, za, va⟩ := Ba.facts
  obtain ⟨xb, yb, zb, vb⟩ := Bb.facts
  obtain ⟨xc, yc, zc, vc⟩ := Bc.facts
  obtain ⟨xd, yd, zd, vd⟩ := Bd.facts
  go_wp2_with fail
  refine (cv _).mono ?_
  rintro e w3 ⟨rfl, hb⟩
  clear xa ya za va xb yb zb vb xc yc zc vc xd yd zd vd
  replace Ba := Ba.ext hb rfl
  replace Bb := Bb.ext hb rfl
  replace Bc := Bc.ext hb rfl
  replace Bd := Bd.ext hb rfl
  replace hw := hw.trans (hb.mono hw.size)
  clear hb
  obtain ⟨xa, ya, za, va⟩ := Ba.facts
  obtain ⟨xb, yb, zb, vb⟩ := Bb.facts
  obtain ⟨xc, yc, zc, vc⟩ := Bc.facts
  obtain ⟨xd, yd, zd, vd⟩ := Bd.facts
  go_wp2
  go_ret
  exact ⟨rfl, hw⟩

theorem circle_3 (a b c d : Pt) (h0 : ¬ ori a b c = 0) (hv : vld d = true) (e1 : peqI d.x d.y a.x a.y = false) (e2 : peqI d.x d.y b.x b.y = true) (w : World) :
    Calls Try.prog 16 #[.agg #[.int .i64 a.x, .int .i64 a.y], .agg #[.int .i64 b.x, .int .i64 b.y], .agg #[.int .i64 c.x, .int .i64 c.y], .agg #[.int .i64 d.x, .int .i64 d.y]] w fun e w' => e = .returned (.int .i64 0) ∧ Below w.heap.size w w' := by
  have co := orient_any a b c
  have cv := valid_any d
  rw [hv] at cv
  clear hv
  have bo := ori_bd a b c
  generalize ori a b c = o at *
  have t0 : (o == 0) = false := by simpa using h0
  clear h0
  go_enter Try.func16, Try.ntmps16
  go_wp2_with fail
  refine at_call fun W1 hW => ?_
  have Ba : Box W1 (w.heap.size) [.int .i64 a.x, .int .i64 a.y] 23 := by rw [hW]; exact (((Box.new rfl).old _).old _).old _
  have Bb : Box W1 (w.heap.size + 1) [.int .i64 b.x, .int .i64 b.y] 23 := by rw [hW]; exact ((Box.new (by simp)).old _).old _
  have Bc : Box W1 (w.heap.size + 1 + 1) [.int .i64 c.x, .int .i64 c.y] 23 := by rw [hW]; exact (Box.new (by simp)).old _
  have Bd : Box W1 (w.heap.size + 1 + 1 + 1) [.int .i64 d.x, .int .i64 d.y] 23 := by rw [hW]; exact Box.new (by simp)
  have hw : Below w.heap.size w W1 := by rw [hW]; go_grown
  clear hW
  refine (co _).mono ?_
  rintro e w2 ⟨rfl, hb⟩
  replace Ba := Ba.ext hb rfl
  replace Bb := Bb.ext hb rfl
  replace Bc := Bc.ext hb rfl
  replace Bd := Bd.ext hb rfl
  replace hw := hw.trans (hb.mono hw.size)
  clear hb
  obtain ⟨xa, ya, za, va⟩ := Ba.facts
  obtain ⟨xb, yb, zb, vb⟩ := Bb.facts
  obtain ⟨xc, yc, zc, vc⟩ := Bc.facts
  obtain ⟨xd, yd, zd, vd⟩ := Bd.facts
  go_wp2_with fail
  refine (cv _).mono ?_
  rintro e w3 ⟨rfl, hb⟩
  clear xa ya za va xb yb zb vb xc yc zc vc xd yd zd vd
  replace Ba := Ba.ext hb rfl
  replace Bb := Bb.ext hb rfl
  replace Bc := Bc.ext hb rfl
  replace Bd := Bd.ext hb rfl
  replace hw := hw.trans (hb.mono hw.size)
  clear hb
  obtain ⟨xa, ya, za, va⟩ := Ba.facts
  obtain ⟨xb, yb, zb, vb⟩ := Bb.facts
  obtain ⟨xc, yc, zc, vc⟩ := Bc.facts
  obtain ⟨xd, yd, zd, vd⟩ := Bd.facts
  go_wp2
  go_ret
  exact ⟨rfl, hw⟩

theorem circle_4 (a b c d : Pt) (h0 : ¬ ori a b c = 0) (hv : vld d = true) (e1 : peqI d.x d.y a.x a.y = false) (e2 : peqI d.x d.y b.x b.y = false) (e3 : peqI d.x d.y c.x c.y = true) (w : World) :
    Calls Try.prog 16 #[.agg #[.int .i64 a.x, .int .i64 a.y], .agg #[.int .i64 b.x, .int .i64 b.y], .agg #[.int .i64 c.x, .int .i64 c.y], .agg #[.int .i64 d.x, .int .i64 d.y]] w fun e w' => e = .returned (.int .i64 0) ∧ Below w.heap.size w w' := by
  have co := orient_any a b c
  have cv := valid_any d
  rw [hv] at cv
  clear hv
  have bo := ori_bd a b c
  generalize ori a b c = o at *
  have t0 : (o == 0) = false := by simpa using h0
  clear h0
  go_enter Try.func16, Try.ntmps16
  go_wp2_with fail
  refine at_call fun W1 hW => ?_
  have Ba : Box W1 (w.heap.size) [.int .i64 a.x, .int .i64 a.y] 23 := by rw [hW]; exact (((Box.new rfl).old _).old _).old _
  have Bb : Box W1 (w.heap.size + 1) [.int .i64 b.x, .int .i64 b.y] 23 := by rw [hW]; exact ((Box.new (by simp)).old _).old _
  have Bc : Box W1 (w.heap.size + 1 + 1) [.int .i64 c.x, .int .i64 c.y] 23 := by rw [hW]; exact (Box.new (by simp)).old _
  have Bd : Box W1 (w.heap.size + 1 + 1 + 1) [.int .i64 d.x, .int .i64 d.y] 23 := by rw [hW]; exact Box.new (by simp)
  have hw : Below w.heap.size w W1 := by rw [hW]; go_grown
  clear hW
  refine (co _).mono ?_
  rintro e w2 ⟨rfl, hb⟩
  replace Ba := Ba.ext hb rfl
  replace Bb := Bb.ext hb rfl
  replace Bc := Bc.ext hb rfl
  replace Bd := Bd.ext hb rfl
  replace hw := hw.trans (hb.mono hw.size)
  clear hb
  obtain ⟨xa, ya, za, va⟩ := Ba.facts
  obtain ⟨xb, yb, zb, vb⟩ := Bb.facts
  obtain ⟨xc, yc, zc, vc⟩ := Bc.facts
  obtain ⟨xd, yd, zd, vd⟩ := Bd.facts
  go_wp2_with fail
  refine (cv _).mono ?_
  rintro e w3 ⟨rfl, hb⟩
  clear xa ya za va xb yb zb vb xc yc zc vc xd yd zd vd
  replace Ba := Ba.ext hb rfl
  replace Bb := Bb.ext hb rfl
  replace Bc := Bc.ext hb rfl
  replace Bd := Bd.ext hb rfl
  replace hw := hw.trans (hb.mono hw.size)
  clear hb
  obtain ⟨xa, ya, za, va⟩ := Ba.facts
  obtain ⟨xb, yb, zb, vb⟩ := Bb.facts
  obtain ⟨xc, yc, zc, vc⟩ := Bc.facts
  obtain ⟨xd, yd, zd, vd⟩ := Bd.facts
  go_wp2
  go_ret
  exact ⟨rfl, hw⟩

theorem circle_5 (a b c d : Pt) (h0 : ¬ ori a b c = 0) (hv : vld d = true) (e1 : peqI d.x d.y a.x a.y = false) (e2 : peqI d.x d.y b.x b.y = false) (e3 : peqI d.x d.y c.x c.y = false) (hl : ¬ sgn (lft a b c d) = 0) (w : World) :
    Calls Try.prog 16 #[.agg #[.int .i64 a.x, .int .i64 a.y], .agg #[.int .i64 b.x, .int .i64 b.y], .agg #[.int .i64 c.x, .int .i64 c.y], .agg #[.int .i64 d.x, .int .i64 d.y]] w fun e w' => e = .returned (.int .i64 (sgn (lft a b c d))) ∧ Below w.heap.size w w' := by
  have co := orient_any a b c
  have cv := valid_any d
  rw [hv] at cv
  obtain ⟨va, vb, vc⟩ := ori_vld h0
  have cl := lifted_any a b c d va vb vc hv
  clear hv va vb vc
  have bo := ori_bd a b c
  generalize ori a b c = o at *
  have t0 : (o == 0) = false := by simpa using h0
  clear h0
  generalize sgn (lft a b c d) = l at *
  have t1 : (l != 0) = true := by simpa using hl
  clear hl
  go_enter Try.func16, Try.ntmps16
  go_wp2_with fail
  refine at_call fun W1 hW => ?_
  have Ba : Box W1 (w.heap.size) [.int .i64 a.x, .int .i64 a.y] 23 := by rw [hW]; exact (((Box.new rfl).old _).old _).old _
  have Bb : Box W1 (w.heap.size + 1) [.int .i64 b.x, .int .i64 b.y] 23 := by rw [hW]; exact ((Box.new (by simp)).old _).old _
  have Bc : Box W1 (w.heap.size + 1 + 1) [.int .i64 c.x, .int .i64 c.y] 23 := by rw [hW]; exact (Box.new (by simp)).old _
  have Bd : Box W1 (w.heap.size + 1 + 1 + 1) [.int .i64 d.x, .int .i64 d.y] 23 := by rw [hW]; exact Box.new (by simp)
  have hw : Below w.heap.size w W1 := by rw [hW]; go_grown
  clear hW
  refine (co _).mono ?_
  rintro e w2 ⟨rfl, hb⟩
  replace Ba := Ba.ext hb rfl
  replace Bb := Bb.ext hb rfl
  replace Bc := Bc.ext hb rfl
  replace Bd := Bd.ext hb rfl
  replace hw := hw.trans (hb.mono hw.size)
  clear hb
  obtain ⟨xa, ya, za, va⟩ := Ba.facts
  obtain ⟨xb, yb, zb, vb⟩ := Bb.facts
  obtain ⟨xc, yc, zc, vc⟩ := Bc.facts
  obtain ⟨xd, yd, zd, vd⟩ := Bd.facts
  go_wp2_with fail
  refine (cv _).mono ?_
  rintro e w3 ⟨rfl, hb⟩
  clear xa ya za va xb yb zb vb xc yc zc vc xd yd zd vd
  replace Ba := Ba.ext hb rfl
  replace Bb := Bb.ext hb rfl
  replace Bc := Bc.ext hb rfl
  replace Bd := Bd.ext hb rfl
  replace hw := hw.trans (hb.mono hw.size)
  clear hb
  obtain ⟨xa, ya, za, va⟩ := Ba.facts
  obtain ⟨xb, yb, zb, vb⟩ := Bb.facts
  obtain ⟨xc, yc, zc, vc⟩ := Bc.facts
  obtain ⟨xd, yd, zd, vd⟩ := Bd.facts
  go_wp2_with fail
  refine (cl _).mono ?_
  rintro e w4 ⟨rfl, hb⟩
  clear xa ya za va xb yb zb vb xc yc zc vc xd yd zd vd
  replace Ba := Ba.ext hb rfl
  replace Bb := Bb.ext hb rfl
  replace Bc := Bc.ext hb rfl
  replace Bd := Bd.ext hb rfl
  replace hw := hw.trans (hb.mono hw.size)
  clear hb
  go_wp2
  go_ret
  exact ⟨rfl, hw⟩

theorem circle_6 (a b c d : Pt) (h0 : ¬ ori a b c = 0) (hv : vld d = true) (e1 : peqI d.x d.y a.x a.y = false) (e2 : peqI d.x d.y b.x b.y = false) (e3 : peqI d.x d.y c.x c.y = false) (hl : sgn (lft a b c d) = 0) (m1 : peqI (min4 a b c d).x (min4 a b c d).y d.x d.y = true) (w : World) :
    Calls Try.prog 16 #[.agg #[.int .i64 a.x, .int .i64 a.y], .agg #[.int .i64 b.x, .int .i64 b.y], .agg #[.int .i64 c.x, .int .i64 c.y], .agg #[.int .i64 d.x, .int .i64 d.y]] w fun e w' => e = .returned (.int .i64 (ori a b c)) ∧ Below w.heap.size w w' := by
  have co := orient_any a b c
  have cv := valid_any d
  rw [hv] at cv
  obtain ⟨va, vb, vc⟩ := ori_vld h0
  have cl := lifted_any a b c d va vb vc hv
  clear hv va vb vc
  rw [hl] at cl
  clear hl
  have cm := minF_any a b c d
  generalize min4 a b c d = m at *
  have bo := ori_bd a b c
  generalize ori a b c = o at *
  have t0 : (o == 0) = false := by simpa using h0
  clear h0
  go_enter Try.func16, Try.ntmps16
  go_wp2_with fail
  refine at_call fun W1 hW => ?_
  have Ba : Box W1 (w.heap.size) [.int .i64 a.x, .int .i64 a.y] 23 := by rw [hW]; exact (((Box.new rfl).old _).old _).old _
  have Bb : Box W1 (w.heap.size + 1) [.int .i64 b.x, .int .i64 b.y] 23 := by rw [hW]; exact ((Box.new (by simp)).old _).old _
  have Bc : Box W1 (w.heap.size + 1 + 1) [.int .i64 c.x, .int .i64 c.y] 23 := by rw [hW]; exact (Box.new (by simp)).old _
  have Bd : Box W1 (w.heap.size + 1 + 1 + 1) [.int .i64 d.x, .int .i64 d.y] 23 := by rw [hW]; exact Box.new (by simp)
  have hw : Below w.heap.size w W1 := by rw [hW]; go_grown
  clear hW
  refine (co _).mono ?_
  rintro e w2 ⟨rfl, hb⟩
  replace Ba := Ba.ext hb rfl
  replace Bb := Bb.ext hb rfl
  replace Bc := Bc.ext hb rfl
  replace Bd := Bd.ext hb rfl
  replace hw := hw.trans (hb.mono hw.size)
  clear hb
  obtain ⟨xa, ya, za, va⟩ := Ba.facts
  obtain ⟨xb, yb, zb, vb⟩ := Bb.facts
  obtain ⟨xc, yc, zc, vc⟩ := Bc.facts
  obtain ⟨xd, yd, zd, vd⟩ := Bd.facts
  go_wp2_with fail
  refine (cv _).mono ?_
  rintro e w3 ⟨rfl, hb⟩
  clear xa ya za va xb yb zb vb xc yc zc vc xd yd zd vd
  replace Ba := Ba.ext hb rfl
  replace Bb := Bb.ext hb rfl
  replace Bc := Bc.ext hb rfl
  replace Bd := Bd.ext hb rfl
  replace hw := hw.trans (hb.mono hw.size)
  clear hb
  obtain ⟨xa, ya, za, va⟩ := Ba.facts
  obtain ⟨xb, yb, zb, vb⟩ := Bb.facts
  obtain ⟨xc, yc, zc, vc⟩ := Bc.facts
  obtain ⟨xd, yd, zd, vd⟩ := Bd.facts
  go_wp2_with fail
  refine (cl _).mono ?_
  rintro e w4 ⟨rfl, hb⟩
  clear xa ya za va xb yb zb vb xc yc zc vc xd yd zd vd
  replace Ba := Ba.ext hb rfl
  replace Bb := Bb.ext hb rfl
  replace Bc := Bc.ext hb rfl
  replace Bd := Bd.ext hb rfl
  replace hw := hw.trans (hb.mono hw.size)
  clear hb
  obtain ⟨xa, ya, za, va⟩ := Ba.facts
  obtain ⟨xb, yb, zb, vb⟩ := Bb.facts
  obtain ⟨xc, yc, zc, vc⟩ := Bc.facts
  obtain ⟨xd, yd, zd, vd⟩ := Bd.facts
  go_wp2_with fail
  refine at_call fun W5 hW => ?_
  obtain ⟨bks, hbs⟩ : ∃ b, w4.heap.size = b := ⟨_, rfl⟩
  rw [hbs]
  have Bs : Box W5 bks [.int .i64 a.x, .int .i64 a.y, .int .i64 b.x, .int .i64 b.y, .int .i64 c.x, .int .i64 c.y, .int .i64 d.x, .int .i64 d.y] 23 := by rw [hW]; exact Box.new hbs.symm
  replace Ba : Box W5 (w.heap.size) [.int .i64 a.x, .int .i64 a.y] 23 := by rw [hW]; exact Ba.old _
  replace Bb : Box W5 (w.heap.size + 1) [.int .i64 b.x, .int .i64 b.y] 23 := by rw [hW]; exact Bb.old _
  replace Bc : Box W5 (w.heap.size + 1 + 1) [.int .i64 c.x, .int .i64 c.y] 23 := by rw [hW]; exact Bc.old _
  replace Bd : Box W5 (w.heap.size + 1 + 1 + 1) [.int .i64 d.x, .int .i64 d.y] 23 := by rw [hW]; exact Bd.old _
  replace hw : Below w.heap.size w W5 := by have hl := hw.size; rw [hW]; go_grown
  clear hW hbs
  refine (cm _ _ Bs).mono ?_
  rintro e w6 ⟨rfl, hb⟩
  clear xa ya za va xb yb zb vb xc yc zc vc xd yd zd vd
  replace Ba := Ba.ext hb rfl
  replace Bb := Bb.ext hb rfl
  replace Bc := Bc.ext hb rfl
  replace Bd := Bd.ext hb rfl
  replace Bs := Bs.ext hb rfl
  replace hw := hw.trans (hb.mono hw.size)
  clear hb
  obtain ⟨xa, ya, za, va⟩ := Ba.facts
  obtain ⟨xb, yb, zb, vb⟩ := Bb.facts
  obtain ⟨xc, yc, zc, vc⟩ := Bc.facts
  obtain ⟨xd, yd, zd, vd⟩ := Bd.facts
  obtain ⟨xs, ys, zs, vs⟩ := Bs.facts
  go_wp2
  go_ret
  exact ⟨rfl, hw⟩

theorem circle_7 (a b c d : Pt) (h0 : ¬ ori a b c = 0) (hv : vld d = true) (e1 : peqI d.x d.y a.x a.y = false) (e2 : peqI d.x d.y b.x b.y = false) (e3 : peqI d.x d.y c.x c.y = false) (hl : sgn (lft a b c d) = 0) (m1 : peqI (min4 a b c d).x (min4 a b c d).y d.x d.y = false) (m2 : peqI (min4 a b c d).x (min4 a b c d).y a.x a.y = true) (w : World) :
    Calls Try.prog 16 #[.agg #[.int .i64 a.x, .int .i64 a.y], .agg #[.int .i64 b.x, .int .i64 b.y], .agg #[.int .i64 c.x, .int .i64 c.y], .agg #[.int .i64 d.x, .int .i64 d.y]] w fun e w' => e = .returned (.int .i64 (-ori d b c)) ∧ Below w.heap.size w w' := by
  have co := orient_any a b c
  have cv := valid_any d
  rw [hv] at cv
  obtain ⟨va, vb, vc⟩ := ori_vld h0
  have cl := lifted_any a b c d va vb vc hv
  clear hv va vb vc
  rw [hl] at cl
  clear hl
  have cm := minF_any a b c d
  generalize min4 a b c d = m at *
  have bo := ori_bd a b c
  generalize ori a b c = o at *
  have t0 : (o == 0) = false := by simpa using h0
  clear h0
  have c2 := orient_any d b c
  have b2 := ori_bd d b c
  generalize ori d b c = o2 at *
  go_enter Try.func16, Try.ntmps16
  go_wp2_with fail
  refine at_call fun W1 hW => ?_
  have Ba : Box W1 (w.heap.size) [.int .i64 a.x, .int .i64 a.y] 23 := by rw [hW]; exact (((Box.new rfl).old _).old _).old _
  have Bb : Box W1 (w.heap.size + 1) [.int .i64 b.x, .int .i64 b.y] 23 := by rw [hW]; exact ((Box.new (by simp)).old _).old _
  have Bc : Box W1 (w.heap.size + 1 + 1) [.int .i64 c.x, .int .i64 c.y] 23 := by rw [hW]; exact (Box.new (by simp)).old _
  have Bd : Box W1 (w.heap.size + 1 + 1 + 1) [.int .i64 d.x, .int .i64 d.y] 23 := by rw [hW]; exact Box.new (by simp)
  have hw : Below w.heap.size w W1 := by rw [hW]; go_grown
  clear hW
  refine (co _).mono ?_
  rintro e w2 ⟨rfl, hb⟩
  replace Ba := Ba.ext hb rfl
  replace Bb := Bb.ext hb rfl
  replace Bc := Bc.ext hb rfl
  replace Bd := Bd.ext hb rfl
  replace hw := hw.trans (hb.mono hw.size)
  clear hb
  obtain ⟨xa, ya, za, va⟩ := Ba.facts
  obtain ⟨xb, yb, zb, vb⟩ := Bb.facts
  obtain ⟨xc, yc, zc, vc⟩ := Bc.facts
  obtain ⟨xd, yd, zd, vd⟩ := Bd.facts
  go_wp2_with fail
  refine (cv _).mono ?_
  rintro e w3 ⟨rfl, hb⟩
  clear xa ya za va xb yb zb vb xc yc zc vc xd yd zd vd
  replace Ba := Ba.ext hb rfl
  replace Bb := Bb.ext hb rfl
  replace Bc := Bc.ext hb rfl
  replace Bd := Bd.ext hb rfl
  replace hw := hw.trans (hb.mono hw.size)
  clear hb
  obtain ⟨xa, ya, za, va⟩ := Ba.facts
  obtain ⟨xb, yb, zb, vb⟩ := Bb.facts
  obtain ⟨xc, yc, zc, vc⟩ := Bc.facts
  obtain ⟨xd, yd, zd, vd⟩ := Bd.facts
  go_wp2_with fail
  refine (cl _).mono ?_
  rintro e w4 ⟨rfl, hb⟩
  clear xa ya za va xb yb zb vb xc yc zc vc xd yd zd vd
  replace Ba := Ba.ext hb rfl
  replace Bb := Bb.ext hb rfl
  replace Bc := Bc.ext hb rfl
  replace Bd := Bd.ext hb rfl
  replace hw := hw.trans (hb.mono hw.size)
  clear hb
  obtain ⟨xa, ya, za, va⟩ := Ba.facts
  obtain ⟨xb, yb, zb, vb⟩ := Bb.facts
  obtain ⟨xc, yc, zc, vc⟩ := Bc.facts
  obtain ⟨xd, yd, zd, vd⟩ := Bd.facts
  go_wp2_with fail
  refine at_call fun W5 hW => ?_
  obtain ⟨bks, hbs⟩ : ∃ b, w4.heap.size = b := ⟨_, rfl⟩
  rw [hbs]
  have Bs : Box W5 bks [.int .i64 a.x, .int .i64 a.y, .int .i64 b.x, .int .i64 b.y, .int .i64 c.x, .int .i64 c.y, .int .i64 d.x, .int .i64 d.y] 23 := by rw [hW]; exact Box.new hbs.symm
  replace Ba : Box W5 (w.heap.size) [.int .i64 a.x, .int .i64 a.y] 23 := by rw [hW]; exact Ba.old _
  replace Bb : Box W5 (w.heap.size + 1) [.int .i64 b.x, .int .i64 b.y] 23 := by rw [hW]; exact Bb.old _
  replace Bc : Box W5 (w.heap.size + 1 + 1) [.int .i64 c.x, .int .i64 c.y] 23 := by rw [hW]; exact Bc.old _
  replace Bd : Box W5 (w.heap.size + 1 + 1 + 1) [.int .i64 d.x, .int .i64 d.y] 23 := by rw [hW]; exact Bd.old _
  replace hw : Below w.heap.size w W5 := by have hl := hw.size; rw [hW]; go_grown
  clear hW hbs
  refine (cm _ _ Bs).mono ?_
  rintro e w6 ⟨rfl, hb⟩
  clear xa ya za va xb yb zb vb xc yc zc vc xd yd zd vd
  replace Ba := Ba.ext hb rfl
  replace Bb := Bb.ext hb rfl
  replace Bc := Bc.ext hb rfl
  replace Bd := Bd.ext hb rfl
  replace Bs := Bs.ext hb rfl
  replace hw := hw.trans (hb.mono hw.size)
  clear hb
  obtain ⟨xa, ya, za, va⟩ := Ba.facts
  obtain ⟨xb, yb, zb, vb⟩ := Bb.facts
  obtain ⟨xc, yc, zc, vc⟩ := Bc.facts
  obtain ⟨xd, yd, zd, vd⟩ := Bd.facts
  obtain ⟨xs, ys, zs, vs⟩ := Bs.facts
  go_wp2_with fail
  refine (c2 _).mono ?_
  rintro e w7 ⟨rfl, hb⟩
  clear xa ya za va xb yb zb vb xc yc zc vc xd yd zd vd xs ys zs vs
  replace Ba := Ba.ext hb rfl
  replace Bb := Bb.ext hb rfl
  replace Bc := Bc.ext hb rfl
  replace Bd := Bd.ext hb rfl
  replace Bs := Bs.ext hb rfl
  replace hw := hw.trans (hb.mono hw.size)
  clear hb
  go_wp2
  go_ret
  exact ⟨rfl, hw⟩

theorem circle_8 (a b c d : Pt) (h0 : ¬ ori a b c = 0) (hv : vld d = true) (e1 : peqI d.x d.y a.x a.y = false) (e2 : peqI d.x d.y b.x b.y = false) (e3 : peqI d.x d.y c.x c.y = false) (hl : sgn (lft a b c d) = 0) (m1 : peqI (min4 a b c d).x (min4 a b c d).y d.x d.y = false) (m2 : peqI (min4 a b c d).x (min4 a b c d).y a.x a.y = false) (m3 : peqI (min4 a b c d).x (min4 a b c d).y b.x b.y = true) (w : World) :
    Calls Try.prog 16 #[.agg #[.int .i64 a.x, .int .i64 a.y], .agg #[.int .i64 b.x, .int .i64 b.y], .agg #[.int .i64 c.x, .int .i64 c.y], .agg #[.int .i64 d.x, .int .i64 d.y]] w fun e w' => e = .returned (.int .i64 (-ori a d c)) ∧ Below w.heap.size w w' := by
  have co := orient_any a b c
  have cv := valid_any d
  rw [hv] at cv
  obtain ⟨va, vb, vc⟩ := ori_vld h0
  have cl := lifted_any a b c d va vb vc hv
  clear hv va vb vc
  rw [hl] at cl
  clear hl
  have cm := minF_any a b c d
  generalize min4 a b c d = m at *
  have bo := ori_bd a b c
  generalize ori a b c = o at *
  have t0 : (o == 0) = false := by simpa using h0
  clear h0
  have c2 := orient_any a d c
  have b2 := ori_bd a d c
  generalize ori a d c = o2 at *
  go_enter Try.func16, Try.ntmps16
  go_wp2_with fail
  refine at_call fun W1 hW => ?_
  have Ba : Box W1 (w.heap.size) [.int .i64 a.x, .int .i64 a.y] 23 := by rw [hW]; exact (((Box.new rfl).old _).old _).old _
  have Bb : Box W1 (w.heap.size + 1) [.int .i64 b.x, .int .i64 b.y] 23 := by rw [hW]; exact ((Box.new (by simp)).old _).old _
  have Bc : Box W1 (w.heap.size + 1 + 1) [.int .i64 c.x, .int .i64 c.y] 23 := by rw [hW]; exact (Box.new (by simp)).old _
  have Bd : Box W1 (w.heap.size + 1 + 1 + 1) [.int .i64 d.x, .int .i64 d.y] 23 := by rw [hW]; exact Box.new (by simp)
  have hw : Below w.heap.size w W1 := by rw [hW]; go_grown
  clear hW
  refine (co _).mono ?_
  rintro e w2 ⟨rfl, hb⟩
  replace Ba := Ba.ext hb rfl
  replace Bb := Bb.ext hb rfl
  replace Bc := Bc.ext hb rfl
  replace Bd := Bd.ext hb rfl
  replace hw := hw.trans (hb.mono hw.size)
  clear hb
  obtain ⟨xa, ya, za, va⟩ := Ba.facts
  obtain ⟨xb, yb, zb, vb⟩ := Bb.facts
  obtain ⟨xc, yc, zc, vc⟩ := Bc.facts
  obtain ⟨xd, yd, zd, vd⟩ := Bd.facts
  go_wp2_with fail
  refine (cv _).mono ?_
  rintro e w3 ⟨rfl, hb⟩
  clear xa ya za va xb yb zb vb xc yc zc vc xd yd zd vd
  replace Ba := Ba.ext hb rfl
  replace Bb := Bb.ext hb rfl
  replace Bc := Bc.ext hb rfl
  replace Bd := Bd.ext hb rfl
  replace hw := hw.trans (hb.mono hw.size)
  clear hb
  obtain ⟨xa, ya, za, va⟩ := Ba.facts
  obtain ⟨xb, yb, zb, vb⟩ := Bb.facts
  obtain ⟨xc, yc, zc, vc⟩ := Bc.facts
  obtain ⟨xd, yd, zd, vd⟩ := Bd.facts
  go_wp2_with fail
  refine (cl _).mono ?_
  rintro e w4 ⟨rfl, hb⟩
  clear xa ya za va xb yb zb vb xc yc zc vc xd yd zd vd
  replace Ba := Ba.ext hb rfl
  replace Bb := Bb.ext hb rfl
  replace Bc := Bc.ext hb rfl
  replace Bd := Bd.ext hb rfl
  replace hw := hw.trans (hb.mono hw.size)
  clear hb
  obtain ⟨xa, ya, za, va⟩ := Ba.facts
  obtain ⟨xb, yb, zb, vb⟩ := Bb.facts
  obtain ⟨xc, yc, zc, vc⟩ := Bc.facts
  obtain ⟨xd, yd, zd, vd⟩ := Bd.facts
  go_wp2_with fail
  refine at_call fun W5 hW => ?_
  obtain ⟨bks, hbs⟩ : ∃ b, w4.heap.size = b := ⟨_, rfl⟩
  rw [hbs]
  have Bs : Box W5 bks [.int .i64 a.x, .int .i64 a.y, .int .i64 b.x, .int .i64 b.y, .int .i64 c.x, .int .i64 c.y, .int .i64 d.x, .int .i64 d.y] 23 := by rw [hW]; exact Box.new hbs.symm
  replace Ba : Box W5 (w.heap.size) [.int .i64 a.x, .int .i64 a.y] 23 := by rw [hW]; exact Ba.old _
  replace Bb : Box W5 (w.heap.size + 1) [.int .i64 b.x, .int .i64 b.y] 23 := by rw [hW]; exact Bb.old _
  replace Bc : Box W5 (w.heap.size + 1 + 1) [.int .i64 c.x, .int .i64 c.y] 23 := by rw [hW]; exact Bc.old _
  replace Bd : Box W5 (w.heap.size + 1 + 1 + 1) [.int .i64 d.x, .int .i64 d.y] 23 := by rw [hW]; exact Bd.old _
  replace hw : Below w.heap.size w W5 := by have hl := hw.size; rw [hW]; go_grown
  clear hW hbs
  refine (cm _ _ Bs).mono ?_
  rintro e w6 ⟨rfl, hb⟩
  clear xa ya za va xb yb zb vb xc yc zc vc xd yd zd vd
  replace Ba := Ba.ext hb rfl
  replace Bb := Bb.ext hb rfl
  replace Bc := Bc.ext hb rfl
  replace Bd := Bd.ext hb rfl
  replace Bs := Bs.ext hb rfl
  replace hw := hw.trans (hb.mono hw.size)
  clear hb
  obtain ⟨xa, ya, za, va⟩ := Ba.facts
  obtain ⟨xb, yb, zb, vb⟩ := Bb.facts
  obtain ⟨xc, yc, zc, vc⟩ := Bc.facts
  obtain ⟨xd, yd, zd, vd⟩ := Bd.facts
  obtain ⟨xs, ys, zs, vs⟩ := Bs.facts
  go_wp2_with fail
  refine (c2 _).mono ?_
  rintro e w7 ⟨rfl, hb⟩
  clear xa ya za va xb yb zb vb xc yc zc vc xd yd zd vd xs ys zs vs
  replace Ba := Ba.ext hb rfl
  replace Bb := Bb.ext hb rfl
  replace Bc := Bc.ext hb rfl
  replace Bd := Bd.ext hb rfl
  replace Bs := Bs.ext hb rfl
  replace hw := hw.trans (hb.mono hw.size)
  clear hb
  go_wp2
  go_ret
  exact ⟨rfl, hw⟩

theorem circle_9 (a b c d : Pt) (h0 : ¬ ori a b c = 0) (hv : vld d = true) (e1 : peqI d.x d.y a.x a.y = false) (e2 : peqI d.x d.y b.x b.y = false) (e3 : peqI d.x d.y c.x c.y = false) (hl : sgn (lft a b c d) = 0) (m1 : peqI (min4 a b c d).x (min4 a b c d).y d.x d.y = false) (m2 : peqI (min4 a b c d).x (min4 a b c d).y a.x a.y = false) (m3 : peqI (min4 a b c d).x (min4 a b c d).y b.x b.y = false) (w : World) :
    Calls Try.prog 16 #[.agg #[.int .i64 a.x, .int .i64 a.y], .agg #[.int .i64 b.x, .int .i64 b.y], .agg #[.int .i64 c.x, .int .i64 c.y], .agg #[.int .i64 d.x, .int .i64 d.y]] w fun e w' => e = .returned (.int .i64 (-ori a b d)) ∧ Below w.heap.size w w' := by
  have co := orient_any a b c
  have cv := valid_any d
  rw [hv] at cv
  obtain ⟨va, vb, vc⟩ := ori_vld h0
  have cl := lifted_any a b c d va vb vc hv
  clear hv va vb vc
  rw [hl] at cl
  clear hl
  have cm := minF_any a b c d
  generalize min4 a b c d = m at *
  have bo := ori_bd a b c
  generalize ori a b c = o at *
  have t0 : (o == 0) = false := by simpa using h0
  clear h0
  have c2 := orient_any a b d
  have b2 := ori_bd a b d
  generalize ori a b d = o2 at *
  go_enter Try.func16, Try.ntmps16
  go_wp2_with fail
  refine at_call fun W1 hW => ?_
  have Ba : Box W1 (w.heap.size) [.int .i64 a.x, .int .i64 a.y] 23 := by rw [hW]; exact (((Box.new rfl).old _).old _).old _
  have Bb : Box W1 (w.heap.size + 1) [.int .i64 b.x, .int .i64 b.y] 23 := by rw [hW]; exact ((Box.new (by simp)).old _).old _
  have Bc : Box W1 (w.heap.size + 1 + 1) [.int .i64 c.x, .int .i64 c.y] 23 := by rw [hW]; exact (Box.new (by simp)).old _
  have Bd : Box W1 (w.heap.size + 1 + 1 + 1) [.int .i64 d.x, .int .i64 d.y] 23 := by rw [hW]; exact Box.new (by simp)
  have hw : Below w.heap.size w W1 := by rw [hW]; go_grown
  clear hW
  refine (co _).mono ?_
  rintro e w2 ⟨rfl, hb⟩
  replace Ba := Ba.ext hb rfl
  replace Bb := Bb.ext hb rfl
  replace Bc := Bc.ext hb rfl
  replace Bd := Bd.ext hb rfl
  replace hw := hw.trans (hb.mono hw.size)
  clear hb
  obtain ⟨xa, ya, za, va⟩ := Ba.facts
  obtain ⟨xb, yb, zb, vb⟩ := Bb.facts
  obtain ⟨xc, yc, zc, vc⟩ := Bc.facts
  obtain ⟨xd, yd, zd, vd⟩ := Bd.facts
  go_wp2_with fail
  refine (cv _).mono ?_
  rintro e w3 ⟨rfl, hb⟩
  clear xa ya za va xb yb zb vb xc yc zc vc xd yd zd vd
  replace Ba := Ba.ext hb rfl
  replace Bb := Bb.ext hb rfl
  replace Bc := Bc.ext hb rfl
  replace Bd := Bd.ext hb rfl
  replace hw := hw.trans (hb.mono hw.size)
  clear hb
  obtain ⟨xa, ya, za, va⟩ := Ba.facts
  obtain ⟨xb, yb, zb, vb⟩ := Bb.facts
  obtain ⟨xc, yc, zc, vc⟩ := Bc.facts
  obtain ⟨xd, yd, zd, vd⟩ := Bd.facts
  go_wp2_with fail
  refine (cl _).mono ?_
  rintro e w4 ⟨rfl, hb⟩
  clear xa ya za va xb yb zb vb xc yc zc vc xd yd zd vd
  replace Ba := Ba.ext hb rfl
  replace Bb := Bb.ext hb rfl
  replace Bc := Bc.ext hb rfl
  replace Bd := Bd.ext hb rfl
  replace hw := hw.trans (hb.mono hw.size)
  clear hb
  obtain ⟨xa, ya, za, va⟩ := Ba.facts
  obtain ⟨xb, yb, zb, vb⟩ := Bb.facts
  obtain ⟨xc, yc, zc, vc⟩ := Bc.facts
  obtain ⟨xd, yd, zd, vd⟩ := Bd.facts
  go_wp2_with fail
  refine at_call fun W5 hW => ?_
  obtain ⟨bks, hbs⟩ : ∃ b, w4.heap.size = b := ⟨_, rfl⟩
  rw [hbs]
  have Bs : Box W5 bks [.int .i64 a.x, .int .i64 a.y, .int .i64 b.x, .int .i64 b.y, .int .i64 c.x, .int .i64 c.y, .int .i64 d.x, .int .i64 d.y] 23 := by rw [hW]; exact Box.new hbs.symm
  replace Ba : Box W5 (w.heap.size) [.int .i64 a.x, .int .i64 a.y] 23 := by rw [hW]; exact Ba.old _
  replace Bb : Box W5 (w.heap.size + 1) [.int .i64 b.x, .int .i64 b.y] 23 := by rw [hW]; exact Bb.old _
  replace Bc : Box W5 (w.heap.size + 1 + 1) [.int .i64 c.x, .int .i64 c.y] 23 := by rw [hW]; exact Bc.old _
  replace Bd : Box W5 (w.heap.size + 1 + 1 + 1) [.int .i64 d.x, .int .i64 d.y] 23 := by rw [hW]; exact Bd.old _
  replace hw : Below w.heap.size w W5 := by have hl := hw.size; rw [hW]; go_grown
  clear hW hbs
  refine (cm _ _ Bs).mono ?_
  rintro e w6 ⟨rfl, hb⟩
  clear xa ya za va xb yb zb vb xc yc zc vc xd yd zd vd
  replace Ba := Ba.ext hb rfl
  replace Bb := Bb.ext hb rfl
  replace Bc := Bc.ext hb rfl
  replace Bd := Bd.ext hb rfl
  replace Bs := Bs.ext hb rfl
  replace hw := hw.trans (hb.mono hw.size)
  clear hb
  obtain ⟨xa, ya, za, va⟩ := Ba.facts
  obtain ⟨xb, yb, zb, vb⟩ := Bb.facts
  obtain ⟨xc, yc, zc, vc⟩ := Bc.facts
  obtain ⟨xd, yd, zd, vd⟩ := Bd.facts
  obtain ⟨xs, ys, zs, vs⟩ := Bs.facts
  go_wp2_with fail
  refine (c2 _).mono ?_
  rintro e w7 ⟨rfl, hb⟩
  clear xa ya za va xb yb zb vb xc yc zc vc xd yd zd vd xs ys zs vs
  replace Ba := Ba.ext hb rfl
  replace Bb := Bb.ext hb rfl
  replace Bc := Bc.ext hb rfl
  replace Bd := Bd.ext hb rfl
  replace Bs := Bs.ext hb rfl
  replace hw := hw.trans (hb.mono hw.size)
  clear hb
  go_wp2
  go_ret
  exact ⟨rfl, hw⟩

theorem circle_any (a b c d : Pt) (w : World) :
    Calls Try.prog 16 #[.agg #[.int .i64 a.x, .int .i64 a.y], .agg #[.int .i64 b.x, .int .i64 b.y], .agg #[.int .i64 c.x, .int .i64 c.y], .agg #[.int .i64 d.x, .int .i64 d.y]] w fun e w' => e = .returned (.int .i64 (circ a b c d)) ∧ Below w.heap.size w w' := by
  by_cases h0 : ori a b c = 0
  · rw [show circ a b c d = 0 by unfold circ; rw [if_pos h0]]; exact circle_0 a b c d h0 w
  cases hv : vld d with
  | false => rw [show circ a b c d = 0 by unfold circ; rw [if_neg h0, if_pos hv]]; exact circle_1 a b c d h0 hv w
  | true =>
  have nv : ¬ vld d = false := by rw [hv]; simp
  cases e1 : peqI d.x d.y a.x a.y with
  | true => rw [show circ a b c d = 0 by unfold circ; rw [if_neg h0, if_neg nv, if_pos e1]]; exact circle_2 a b c d h0 hv e1 w
  | false =>
  have n1 : ¬ peqI d.x d.y a.x a.y = true := by rw [e1]; simp
  cases e2 : peqI d.x d.y b.x b.y with
  | true => rw [show circ a b c d = 0 by unfold circ; rw [if_neg h0, if_neg nv, if_neg n1, if_pos e2]]; exact circle_3 a b c d h0 hv e1 e2 w
  | false =>
  have n2 : ¬ peqI d.x d.y b.x b.y = true := by rw [e2]; simp
  cases e3 : peqI d.x d.y c.x c.y with
  | true => rw [show circ a b c d = 0 by unfold circ; rw [if_neg h0, if_neg nv, if_neg n1, if_neg n2, if_pos e3]]; exact circle_4 a b c d h0 hv e1 e2 e3 w
  | false =>
  have n3 : ¬ peqI d.x d.y c.x c.y = true := by rw [e3]; simp
  by_cases hl : sgn (lft a b c d) = 0
  · have ec : circ a b c d = tie a b c d (min4 a b c d) (ori a b c) := by
      unfold circ; rw [if_neg h0, if_neg nv, if_neg n1, if_neg n2, if_neg n3, if_neg (fun h => h hl)]
    rw [ec]
    cases m1 : peqI (min4 a b c d).x (min4 a b c d).y d.x d.y with
    | true => rw [show tie a b c d (min4 a b c d) (ori a b c) = ori a b c by unfold tie; rw [if_pos m1]]; exact circle_6 a b c d h0 hv e1 e2 e3 hl m1 w
    | false =>
    have k1 : ¬ peqI (min4 a b c d).x (min4 a b c d).y d.x d.y = true := by rw [m1]; simp
    cases m2 : peqI (min4 a b c d).x (min4 a b c d).y a.x a.y with
    | true => rw [show tie a b c d (min4 a b c d) (ori a b c) = -ori d b c by unfold tie; rw [if_neg k1, if_pos m2]]; exact circle_7 a b c d h0 hv e1 e2 e3 hl m1 m2 w
    | false =>
    have k2 : ¬ peqI (min4 a b c d).x (min4 a b c d).y a.x a.y = true := by rw [m2]; simp
    cases m3 : peqI (min4 a b c d).x (min4 a b c d).y b.x b.y with
    | true => rw [show tie a b c d (min4 a b c d) (ori a b c) = -ori a d c by unfold tie; rw [if_neg k1, if_neg k2, if_pos m3]]; exact circle_8 a b c d h0 hv e1 e2 e3 hl m1 m2 m3 w
    | false =>
    have k3 : ¬ peqI (min4 a b c d).x (min4 a b c d).y b.x b.y = true := by rw [m3]; simp
    rw [show tie a b c d (min4 a b c d) (ori a b c) = -ori a b d by unfold tie; rw [if_neg k1, if_neg k2, if_neg k3]]; exact circle_9 a b c d h0 hv e1 e2 e3 hl m1 m2 m3 w
  · rw [show circ a b c d = sgn (lft a b c d) by unfold circ; rw [if_neg h0, if_neg nv, if_neg n1, if_neg n2, if_neg n3, if_pos hl]]; exact circle_5 a b c d h0 hv e1 e2 e3 hl w
end Go.Proofs.Ytmdehannbbpnaaa
