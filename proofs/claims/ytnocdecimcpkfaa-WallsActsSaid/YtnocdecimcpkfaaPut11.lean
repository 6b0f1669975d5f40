/- Put together: ExO. -/
import Derived.Test.YtnocdecimcpkfaaRows
import Derived.Test.YtnocdecimcpkfaaPut10
import Derived.Test.YtnocdecimcpkfaaPut1
import Derived.Test.YtnocdecimcpkfaaPut2
import Derived.WalkKit
import Derived.WalkSpells
import Derived.WalkLawsBesides
import Derived.Laws.Externs
import Derived.Deep.QuietTactic
import Derived.BigQuiet
import Derived.Lib.Hide
import Derived.Handy
namespace Go.Proofs.Ytnocdecimcpkfaa
open Go.RowKit Go.Sort
attribute [local go_sem] rOper rAt rUpon cell_set sg_i64 sg_u64 alloc_cell alloc_frozen
attribute [local go_sem 10000] pt_eql pt_neq
attribute [local irreducible] rWalk

def mx4 (x y z v : Int) : Int := max (max (max x y) z) v
theorem run_max4 {P : Program} {w : World} (ts : Array TypeId) (t : TypeId) (k k' k'' k3 : IntKind) (x y z v : Int) : (Builtin.max_ ts t #[.int k x, .int k' y, .int k'' z, .int k3 v]).run P w = .ok (.int k (mx4 x y z v)) w := by
  have e : ∀ p q : Int, (if p < q then q else p) = max p q := fun p q => by split <;> omega
  simp [Builtin.max_, Builtin.max2, mx4, go_sem, e]
attribute [local go_sem] run_max4
def lap (a b c d : Pt) : Int := if cmpP (rg (rl a b) (rl c d)) (rl (rg a b) (rg c d)) < 0 then 3 else 0
def meetR (a b c d : Pt) : Int :=
  if vld a = false then 0 else if vld b = false then 0 else if vld c = false then 0 else if vld d = false then 0 else if peqI a.x a.y b.x b.y = true then 0 else if peqI c.x c.y d.x d.y = true then 0
  else if ori a b c = 0 ∧ ori a b d = 0 then lap a b c d
  else if ori a b c * ori a b d < 0 ∧ ori c d a * ori c d b < 0 then 1
  else mx4 (tch a c d) (tch b c d) (tch c a b) (tch d a b)
theorem tch_bd (p a b : Pt) : 0 ≤ tch p a b ∧ tch p a b ≤ 2 := by unfold tch; (repeat' split) <;> omega
set_option maxRecDepth 100000 in
theorem rmeet_v0 (a b c d : Pt) (ha : vld a = false) (w : World) :
    Calls Try.prog 27 #[.agg #[.int .i64 a.x, .int .i64 a.y], .agg #[.int .i64 b.x, .int .i64 b.y], .agg #[.int .i64 c.x, .int .i64 c.y], .agg #[.int .i64 d.x, .int .i64 d.y]] w fun e w' => e = .returned (.int .i64 0) ∧ Below w.heap.size w w' := by
  have ca := rvalid_any a
  rw [ha] at ca
  clear ha
  go_enter Try.func27, Try.ntmps27
  go_wp2_with fail
  refine at_call fun W1 hW => ?_
  have Ba : Box W1 (w.heap.size) [.int .i64 a.x, .int .i64 a.y] 33 := by rw [hW]; exact (((Box.new rfl).old _).old _).old _
  have Bb : Box W1 (w.heap.size + 1) [.int .i64 b.x, .int .i64 b.y] 33 := by rw [hW]; exact ((Box.new (by simp)).old _).old _
  have Bc : Box W1 (w.heap.size + 1 + 1) [.int .i64 c.x, .int .i64 c.y] 33 := by rw [hW]; exact (Box.new (by simp)).old _
  have Bd : Box W1 (w.heap.size + 1 + 1 + 1) [.int .i64 d.x, .int .i64 d.y] 33 := by rw [hW]; exact Box.new (by simp)
  have hw : Below w.heap.size w W1 := by rw [hW]; go_grown
  clear hW
  refine (ca _).mono ?_
  rintro e w2 ⟨rfl, hb⟩
  replace Ba := Ba.ext hb rfl
  replace Bb := Bb.ext hb rfl
  replace Bc := Bc.ext hb rfl
  replace Bd := Bd.ext hb rfl
  replace hw := hw.trans (hb.mono hw.size)
  clear hb
  obtain ⟨xa, ya, za, va⟩ := Ba.facts
  obtain ⟨xb, yb, zb, vb⟩ := Bb.facts
  obtain ⟨xc, yc, zc, vc⟩ := Bc.facts
  obtain ⟨xd, yd, zd, vd⟩ := Bd.facts
  go_wp2
  go_ret
  exact ⟨rfl, hw⟩

set_option maxRecDepth 100000 in
theorem rmeet_v1 (a b c d : Pt) (ha : vld a = true) (hb : vld b = false) (w : World) :
    Calls Try.prog 27 #[.agg #[.int .i64 a.x, .int .i64 a.y], .agg #[.int .i64 b.x, .int .i64 b.y], .agg #[.int .i64 c.x, .int .i64 c.y], .agg #[.int .i64 d.x, .int .i64 d.y]] w fun e w' => e = .returned (.int .i64 0) ∧ Below w.heap.size w w' := by
  have ca := rvalid_any a
  rw [ha] at ca
  clear ha
  have cb := rvalid_any b
  rw [hb] at cb
  clear hb
  go_enter Try.func27, Try.ntmps27
  go_wp2_with fail
  refine at_call fun W1 hW => ?_
  have Ba : Box W1 (w.heap.size) [.int .i64 a.x, .int .i64 a.y] 33 := by rw [hW]; exact (((Box.new rfl).old _).old _).old _
  have Bb : Box W1 (w.heap.size + 1) [.int .i64 b.x, .int .i64 b.y] 33 := by rw [hW]; exact ((Box.new (by simp)).old _).old _
  have Bc : Box W1 (w.heap.size + 1 + 1) [.int .i64 c.x, .int .i64 c.y] 33 := by rw [hW]; exact (Box.new (by simp)).old _
  have Bd : Box W1 (w.heap.size + 1 + 1 + 1) [.int .i64 d.x, .int .i64 d.y] 33 := by rw [hW]; exact Box.new (by simp)
  have hw : Below w.heap.size w W1 := by rw [hW]; go_grown
  clear hW
  refine (ca _).mono ?_
  rintro e w2 ⟨rfl, hb⟩
  replace Ba := Ba.ext hb rfl
  replace Bb := Bb.ext hb rfl
  replace Bc := Bc.ext hb rfl
  replace Bd := Bd.ext hb rfl
  replace hw := hw.trans (hb.mono hw.size)
  clear hb
  obtain ⟨xa, ya, za, va⟩ := Ba.facts
  obtain ⟨xb, yb, zb, vb⟩ := Bb.facts
  obtain ⟨xc, yc, zc, vc⟩ := Bc.facts
  obtain ⟨xd, yd, zd, vd⟩ := Bd.facts
  go_wp2_with fail
  refine (cb _).mono ?_
  rintro e w3 ⟨rfl, hb⟩
  clear xa ya za va xb yb zb vb xc yc zc vc xd yd zd vd
  replace Ba := Ba.ext hb rfl
  replace Bb := Bb.ext hb rfl
  replace Bc := Bc.ext hb rfl
  replace Bd := Bd.ext hb rfl
  replace hw := hw.trans (hb.mono hw.size)
  clear hb
  obtain ⟨xa, ya, za, va⟩ := Ba.facts
  obtain ⟨xb, yb, zb, vb⟩ := Bb.facts
  obtain ⟨xc, yc, zc, vc⟩ := Bc.facts
  obtain ⟨xd, yd, zd, vd⟩ := Bd.facts
  go_wp2
  go_ret
  exact ⟨rfl, hw⟩

set_option maxRecDepth 100000 in
theorem rmeet_v2 (a b c d : Pt) (ha : vld a = true) (hb : vld b = true) (hc : vld c = false) (w : World) :
    Calls Try.prog 27 #[.agg #[.int .i64 a.x, .int .i64 a.y], .agg #[.int .i64 b.x, .int .i64 b.y], .agg #[.int .i64 c.x, .int .i64 c.y], .agg #[.int .i64 d.x, .int .i64 d.y]] w fun e w' => e = .returned (.int .i64 0) ∧ Below w.heap.size w w' := by
  have ca := rvalid_any a
  rw [ha] at ca
  clear ha
  have cb := rvalid_any b
  rw [hb] at cb
  clear hb
  have cc := rvalid_any c
  rw [hc] at cc
  clear hc
  go_enter Try.func27, Try.ntmps27
  go_wp2_with fail
  refine at_call fun W1 hW => ?_
  have Ba : Box W1 (w.heap.size) [.int .i64 a.x, .int .i64 a.y] 33 := by rw [hW]; exact (((Box.new rfl).old _).old _).old _
  have Bb : Box W1 (w.heap.size + 1) [.int .i64 b.x, .int .i64 b.y] 33 := by rw [hW]; exact ((Box.new (by simp)).old _).old _
  have Bc : Box W1 (w.heap.size + 1 + 1) [.int .i64 c.x, .int .i64 c.y] 33 := by rw [hW]; exact (Box.new (by simp)).old _
  have Bd : Box W1 (w.heap.size + 1 + 1 + 1) [.int .i64 d.x, .int .i64 d.y] 33 := by rw [hW]; exact Box.new (by simp)
  have hw : Below w.heap.size w W1 := by rw [hW]; go_grown
  clear hW
  refine (ca _).mono ?_
  rintro e w2 ⟨rfl, hb⟩
  replace Ba := Ba.ext hb rfl
  replace Bb := Bb.ext hb rfl
  replace Bc := Bc.ext hb rfl
  replace Bd := Bd.ext hb rfl
  replace hw := hw.trans (hb.mono hw.size)
  clear hb
  obtain ⟨xa, ya, za, va⟩ := Ba.facts
  obtain ⟨xb, yb, zb, vb⟩ := Bb.facts
  obtain ⟨xc, yc, zc, vc⟩ := Bc.facts
  obtain ⟨xd, yd, zd, vd⟩ := Bd.facts
  go_wp2_with fail
  refine (cb _).mono ?_
  rintro e w3 ⟨rfl, hb⟩
  clear xa ya za va xb yb zb vb xc yc zc vc xd yd zd vd
  replace Ba := Ba.ext hb rfl
  replace Bb := Bb.ext hb rfl
  replace Bc := Bc.ext hb rfl
  replace Bd := Bd.ext hb rfl
  replace hw := hw.trans (hb.mono hw.size)
  clear hb
  obtain ⟨xa, ya, za, va⟩ := Ba.facts
  obtain ⟨xb, yb, zb, vb⟩ := Bb.facts
  obtain ⟨xc, yc, zc, vc⟩ := Bc.facts
  obtain ⟨xd, yd, zd, vd⟩ := Bd.facts
  go_wp2_with fail
  refine (cc _).mono ?_
  rintro e w4 ⟨rfl, hb⟩
  clear xa ya za va xb yb zb vb xc yc zc vc xd yd zd vd
  replace Ba := Ba.ext hb rfl
  replace Bb := Bb.ext hb rfl
  replace Bc := Bc.ext hb rfl
  replace Bd := Bd.ext hb rfl
  replace hw := hw.trans (hb.mono hw.size)
  clear hb
  obtain ⟨xa, ya, za, va⟩ := Ba.facts
  obtain ⟨xb, yb, zb, vb⟩ := Bb.facts
  obtain ⟨xc, yc, zc, vc⟩ := Bc.facts
  obtain ⟨xd, yd, zd, vd⟩ := Bd.facts
  go_wp2
  go_ret
  exact ⟨rfl, hw⟩

set_option maxRecDepth 100000 in
theorem rmeet_v3 (a b c d : Pt) (ha : vld a = true) (hb : vld b = true) (hc : vld c = true) (hd : vld d = false) (w : World) :
    Calls Try.prog 27 #[.agg #[.int .i64 a.x, .int .i64 a.y], .agg #[.int .i64 b.x, .int .i64 b.y], .agg #[.int .i64 c.x, .int .i64 c.y], .agg #[.int .i64 d.x, .int .i64 d.y]] w fun e w' => e = .returned (.int .i64 0) ∧ Below w.heap.size w w' := by
  have ca := rvalid_any a
  rw [ha] at ca
  clear ha
  have cb := rvalid_any b
  rw [hb] at cb
  clear hb
  have cc := rvalid_any c
  rw [hc] at cc
  clear hc
  have cd := rvalid_any d
  rw [hd] at cd
  clear hd
  go_enter Try.func27, Try.ntmps27
  go_wp2_with fail
  refine at_call fun W1 hW => ?_
  have Ba : Box W1 (w.heap.size) [.int .i64 a.x, .int .i64 a.y] 33 := by rw [hW]; exact (((Box.new rfl).old _).old _).old _
  have Bb : Box W1 (w.heap.size + 1) [.int .i64 b.x, .int .i64 b.y] 33 := by rw [hW]; exact ((Box.new (by simp)).old _).old _
  have Bc : Box W1 (w.heap.size + 1 + 1) [.int .i64 c.x, .int .i64 c.y] 33 := by rw [hW]; exact (Box.new (by simp)).old _
  have Bd : Box W1 (w.heap.size + 1 + 1 + 1) [.int .i64 d.x, .int .i64 d.y] 33 := by rw [hW]; exact Box.new (by simp)
  have hw : Below w.heap.size w W1 := by rw [hW]; go_grown
  clear hW
  refine (ca _).mono ?_
  rintro e w2 ⟨rfl, hb⟩
  replace Ba := Ba.ext hb rfl
  replace Bb := Bb.ext hb rfl
  replace Bc := Bc.ext hb rfl
  replace Bd := Bd.ext hb rfl
  replace hw := hw.trans (hb.mono hw.size)
  clear hb
  obtain ⟨xa, ya, za, va⟩ := Ba.facts
  obtain ⟨xb, yb, zb, vb⟩ := Bb.facts
  obtain ⟨xc, yc, zc, vc⟩ := Bc.facts
  obtain ⟨xd, yd, zd, vd⟩ := Bd.facts
  go_wp2_with fail
  refine (cb _).mono ?_
  rintro e w3 ⟨rfl, hb⟩
  clear xa ya za va xb yb zb vb xc yc zc vc xd yd zd vd
  replace Ba := Ba.ext hb rfl
  replace Bb := Bb.ext hb rfl
  replace Bc := Bc.ext hb rfl
  replace Bd := Bd.ext hb rfl
  replace hw := hw.trans (hb.mono hw.size)
  clear hb
  obtain ⟨xa, ya, za, va⟩ := Ba.facts
  obtain ⟨xb, yb, zb, vb⟩ := Bb.facts
  obtain ⟨xc, yc, zc, vc⟩ := Bc.facts
  obtain ⟨xd, yd, zd, vd⟩ := Bd.facts
  go_wp2_with fail
  refine (cc _).mono ?_
  rintro e w4 ⟨rfl, hb⟩
  clear xa ya za va xb yb zb vb xc yc zc vc xd yd zd vd
  replace Ba := Ba.ext hb rfl
  replace Bb := Bb.ext hb rfl
  replace Bc := Bc.ext hb rfl
  replace Bd := Bd.ext hb rfl
  replace hw := hw.trans (hb.mono hw.size)
  clear hb
  obtain ⟨xa, ya, za, va⟩ := Ba.facts
  obtain ⟨xb, yb, zb, vb⟩ := Bb.facts
  obtain ⟨xc, yc, zc, vc⟩ := Bc.facts
  obtain ⟨xd, yd, zd, vd⟩ := Bd.facts
  go_wp2_with fail
  refine (cd _).mono ?_
  rintro e w5 ⟨rfl, hb⟩
  clear xa ya za va xb yb zb vb xc yc zc vc xd yd zd vd
  replace Ba := Ba.ext hb rfl
  replace Bb := Bb.ext hb rfl
  replace Bc := Bc.ext hb rfl
  replace Bd := Bd.ext hb rfl
  replace hw := hw.trans (hb.mono hw.size)
  clear hb
  obtain ⟨xa, ya, za, va⟩ := Ba.facts
  obtain ⟨xb, yb, zb, vb⟩ := Bb.facts
  obtain ⟨xc, yc, zc, vc⟩ := Bc.facts
  obtain ⟨xd, yd, zd, vd⟩ := Bd.facts
  go_wp2
  go_ret
  exact ⟨rfl, hw⟩

set_option maxRecDepth 100000 in
theorem rmeet_e1 (a b c d : Pt) (ha : vld a = true) (hb : vld b = true) (hc : vld c = true) (hd : vld d = true) (e1 : peqI a.x a.y b.x b.y = true) (w : World) :
    Calls Try.prog 27 #[.agg #[.int .i64 a.x, .int .i64 a.y], .agg #[.int .i64 b.x, .int .i64 b.y], .agg #[.int .i64 c.x, .int .i64 c.y], .agg #[.int .i64 d.x, .int .i64 d.y]] w fun e w' => e = .returned (.int .i64 0) ∧ Below w.heap.size w w' := by
  have ca := rvalid_any a
  rw [ha] at ca
  clear ha
  have cb := rvalid_any b
  rw [hb] at cb
  clear hb
  have cc := rvalid_any c
  rw [hc] at cc
  clear hc
  have cd := rvalid_any d
  rw [hd] at cd
  clear hd
  go_enter Try.func27, Try.ntmps27
  go_wp2_with fail
  refine at_call fun W1 hW => ?_
  have Ba : Box W1 (w.heap.size) [.int .i64 a.x, .int .i64 a.y] 33 := by rw [hW]; exact (((Box.new rfl).old _).old _).old _
  have Bb : Box W1 (w.heap.size + 1) [.int .i64 b.x, .int .i64 b.y] 33 := by rw [hW]; exact ((Box.new (by simp)).old _).old _
  have Bc : Box W1 (w.heap.size + 1 + 1) [.int .i64 c.x, .int .i64 c.y] 33 := by rw [hW]; exact (Box.new (by simp)).old _
  have Bd : Box W1 (w.heap.size + 1 + 1 + 1) [.int .i64 d.x, .int .i64 d.y] 33 := by rw [hW]; exact Box.new (by simp)
  have hw : Below w.heap.size w W1 := by rw [hW]; go_grown
  clear hW
  refine (ca _).mono ?_
  rintro e w2 ⟨rfl, hb⟩
  replace Ba := Ba.ext hb rfl
  replace Bb := Bb.ext hb rfl
  replace Bc := Bc.ext hb rfl
  replace Bd := Bd.ext hb rfl
  replace hw := hw.trans (hb.mono hw.size)
  clear hb
  obtain ⟨xa, ya, za, va⟩ := Ba.facts
  obtain ⟨xb, yb, zb, vb⟩ := Bb.facts
  obtain ⟨xc, yc, zc, vc⟩ := Bc.facts
  obtain ⟨xd, yd, zd, vd⟩ := Bd.facts
  go_wp2_with fail
  refine (cb _).mono ?_
  rintro e w3 ⟨rfl, hb⟩
  clear xa ya za va xb yb zb vb xc yc zc vc xd yd zd vd
  replace Ba := Ba.ext hb rfl
  replace Bb := Bb.ext hb rfl
  replace Bc := Bc.ext hb rfl
  replace Bd := Bd.ext hb rfl
  replace hw := hw.trans (hb.mono hw.size)
  clear hb
  obtain ⟨xa, ya, za, va⟩ := Ba.facts
  obtain ⟨xb, yb, zb, vb⟩ := Bb.facts
  obtain ⟨xc, yc, zc, vc⟩ := Bc.facts
  obtain ⟨xd, yd, zd, vd⟩ := Bd.facts
  go_wp2_with fail
  refine (cc _).mono ?_
  rintro e w4 ⟨rfl, hb⟩
  clear xa ya za va xb yb zb vb xc yc zc vc xd yd zd vd
  replace Ba := Ba.ext hb rfl
  replace Bb := Bb.ext hb rfl
  replace Bc := Bc.ext hb rfl
  replace Bd := Bd.ext hb rfl
  replace hw := hw.trans (hb.mono hw.size)
  clear hb
  obtain ⟨xa, ya, za, va⟩ := Ba.facts
  obtain ⟨xb, yb, zb, vb⟩ := Bb.facts
  obtain ⟨xc, yc, zc, vc⟩ := Bc.facts
  obtain ⟨xd, yd, zd, vd⟩ := Bd.facts
  go_wp2_with fail
  refine (cd _).mono ?_
  rintro e w5 ⟨rfl, hb⟩
  clear xa ya za va xb yb zb vb xc yc zc vc xd yd zd vd
  replace Ba := Ba.ext hb rfl
  replace Bb := Bb.ext hb rfl
  replace Bc := Bc.ext hb rfl
  replace Bd := Bd.ext hb rfl
  replace hw := hw.trans (hb.mono hw.size)
  clear hb
  obtain ⟨xa, ya, za, va⟩ := Ba.facts
  obtain ⟨xb, yb, zb, vb⟩ := Bb.facts
  obtain ⟨xc, yc, zc, vc⟩ := Bc.facts
  obtain ⟨xd, yd, zd, vd⟩ := Bd.facts
  go_wp2
  go_ret
  exact ⟨rfl, hw⟩

set_option maxRecDepth 100000 in
theorem rmeet_e2 (a b c d : Pt) (ha : vld a = true) (hb : vld b = true) (hc : vld c = true) (hd : vld d = true) (e1 : peqI a.x a.y b.x b.y = false) (e2 : peqI c.x c.y d.x d.y = true) (w : World) :
    Calls Try.prog 27 #[.agg #[.int .i64 a.x, .int .i64 a.y], .agg #[.int .i64 b.x, .int .i64 b.y], .agg #[.int .i64 c.x, .int .i64 c.y], .agg #[.int .i64 d.x, .int .i64 d.y]] w fun e w' => e = .returned (.int .i64 0) ∧ Below w.heap.size w w' := by
  have ca := rvalid_any a
  rw [ha] at ca
  clear ha
  have cb := rvalid_any b
  rw [hb] at cb
  clear hb
  have cc := rvalid_any c
  rw [hc] at cc
  clear hc
  have cd := rvalid_any d
  rw [hd] at cd
  clear hd
  go_enter Try.func27, Try.ntmps27
  go_wp2_with fail
  refine at_call fun W1 hW => ?_
  have Ba : Box W1 (w.heap.size) [.int .i64 a.x, .int .i64 a.y] 33 := by rw [hW]; exact (((Box.new rfl).old _).old _).old _
  have Bb : Box W1 (w.heap.size + 1) [.int .i64 b.x, .int .i64 b.y] 33 := by rw [hW]; exact ((Box.new (by simp)).old _).old _
  have Bc : Box W1 (w.heap.size + 1 + 1) [.int .i64 c.x, .int .i64 c.y] 33 := by rw [hW]; exact (Box.new (by simp)).old _
  have Bd : Box W1 (w.heap.size + 1 + 1 + 1) [.int .i64 d.x, .int .i64 d.y] 33 := by rw [hW]; exact Box.new (by simp)
  have hw : Below w.heap.size w W1 := by rw [hW]; go_grown
  clear hW
  refine (ca _).mono ?_
  rintro e w2 ⟨rfl, hb⟩
  replace Ba := Ba.ext hb rfl
  replace Bb := Bb.ext hb rfl
  replace Bc := Bc.ext hb rfl
  replace Bd := Bd.ext hb rfl
  replace hw := hw.trans (hb.mono hw.size)
  clear hb
  obtain ⟨xa, ya, za, va⟩ := Ba.facts
  obtain ⟨xb, yb, zb, vb⟩ := Bb.facts
  obtain ⟨xc, yc, zc, vc⟩ := Bc.facts
  obtain ⟨xd, yd, zd, vd⟩ := Bd.facts
  go_wp2_with fail
  refine (cb _).mono ?_
  rintro e w3 ⟨rfl, hb⟩
  clear xa ya za va xb yb zb vb xc yc zc vc xd yd zd vd
  replace Ba := Ba.ext hb rfl
  replace Bb := Bb.ext hb rfl
  replace Bc := Bc.ext hb rfl
  replace Bd := Bd.ext hb rfl
  replace hw := hw.trans (hb.mono hw.size)
  clear hb
  obtain ⟨xa, ya, za, va⟩ := Ba.facts
  obtain ⟨xb, yb, zb, vb⟩ := Bb.facts
  obtain ⟨xc, yc, zc, vc⟩ := Bc.facts
  obtain ⟨xd, yd, zd, vd⟩ := Bd.facts
  go_wp2_with fail
  refine (cc _).mono ?_
  rintro e w4 ⟨rfl, hb⟩
  clear xa ya za va xb yb zb vb xc yc zc vc xd yd zd vd
  replace Ba := Ba.ext hb rfl
  replace Bb := Bb.ext hb rfl
  replace Bc := Bc.ext hb rfl
  replace Bd := Bd.ext hb rfl
  replace hw := hw.trans (hb.mono hw.size)
  clear hb
  obtain ⟨xa, ya, za, va⟩ := Ba.facts
  obtain ⟨xb, yb, zb, vb⟩ := Bb.facts
  obtain ⟨xc, yc, zc, vc⟩ := Bc.facts
  obtain ⟨xd, yd, zd, vd⟩ := Bd.facts
  go_wp2_with fail
  refine (cd _).mono ?_
  rintro e w5 ⟨rfl, hb⟩
  clear xa ya za va xb yb zb vb xc yc zc vc xd yd zd vd
  replace Ba := Ba.ext hb rfl
  replace Bb := Bb.ext hb rfl
  replace Bc := Bc.ext hb rfl
  replace Bd := Bd.ext hb rfl
  replace hw := hw.trans (hb.mono hw.size)
  clear hb
  obtain ⟨xa, ya, za, va⟩ := Ba.facts
  obtain ⟨xb, yb, zb, vb⟩ := Bb.facts
  obtain ⟨xc, yc, zc, vc⟩ := Bc.facts
  obtain ⟨xd, yd, zd, vd⟩ := Bd.facts
  go_wp2
  go_ret
  exact ⟨rfl, hw⟩

set_option maxRecDepth 100000 in
theorem rmeet_l0 (a b c d : Pt) (ha : vld a = true) (hb : vld b = true) (hc : vld c = true) (hd : vld d = true) (e1 : peqI a.x a.y b.x b.y = false) (e2 : peqI c.x c.y d.x d.y = false) (z1 : ori a b c = 0) (z2 : ori a b d = 0) (hk : decide (cmpP (rg (rl a b) (rl c d)) (rl (rg a b) (rg c d)) < 0) = false) (w : World) :
    Calls Try.prog 27 #[.agg #[.int .i64 a.x, .int .i64 a.y], .agg #[.int .i64 b.x, .int .i64 b.y], .agg #[.int .i64 c.x, .int .i64 c.y], .agg #[.int .i64 d.x, .int .i64 d.y]] w fun e w' => e = .returned (.int .i64 0) ∧ Below w.heap.size w w' := by
  have ca := rvalid_any a
  rw [ha] at ca
  clear ha
  have cb := rvalid_any b
  rw [hb] at cb
  clear hb
  have cc := rvalid_any c
  rw [hc] at cc
  clear hc
  have cd := rvalid_any d
  rw [hd] at cd
  clear hd
  have o1 := rorient_any a b c
  have o2 := rorient_any a b d
  have o3 := rorient_any c d a
  have o4 := rorient_any c d b
  rw [z1] at o1
  rw [z2] at o2
  clear z1 z2
  have l1 := rl_any a b
  have l2 := rl_any c d
  have l3 := rg_any (rl a b) (rl c d)
  have l4 := rg_any a b
  have l5 := rg_any c d
  have l6 := rl_any (rg a b) (rg c d)
  have kc := rcmp_pt (rg (rl a b) (rl c d)) (rl (rg a b) (rg c d))
  generalize cmpP (rg (rl a b) (rl c d)) (rl (rg a b) (rg c d)) = K at *
  generalize rg (rl a b) (rl c d) = lo at *
  generalize rl (rg a b) (rg c d) = hi at *
  generalize rl a b = q1 at *
  generalize rl c d = q2 at *
  generalize rg a b = q3 at *
  generalize rg c d = q4 at *
  generalize ori c d a = A at *
  generalize ori c d b = B at *
  go_enter Try.func27, Try.ntmps27
  go_wp2_with fail
  refine at_call fun W1 hW => ?_
  have Ba : Box W1 (w.heap.size) [.int .i64 a.x, .int .i64 a.y] 33 := by rw [hW]; exact (((Box.new rfl).old _).old _).old _
  have Bb : Box W1 (w.heap.size + 1) [.int .i64 b.x, .int .i64 b.y] 33 := by rw [hW]; exact ((Box.new (by simp)).old _).old _
  have Bc : Box W1 (w.heap.size + 1 + 1) [.int .i64 c.x, .int .i64 c.y] 33 := by rw [hW]; exact (Box.new (by simp)).old _
  have Bd : Box W1 (w.heap.size + 1 + 1 + 1) [.int .i64 d.x, .int .i64 d.y] 33 := by rw [hW]; exact Box.new (by simp)
  have hw : Below w.heap.size w W1 := by rw [hW]; go_grown
  clear hW
  refine (ca _).mono ?_
  rintro e w2 ⟨rfl, hb⟩
  replace Ba := Ba.ext hb rfl
  replace Bb := Bb.ext hb rfl
  replace Bc := Bc.ext hb rfl
  replace Bd := Bd.ext hb rfl
  replace hw := hw.trans (hb.mono hw.size)
  clear hb
  obtain ⟨xa, ya, za, va⟩ := Ba.facts
  obtain ⟨xb, yb, zb, vb⟩ := Bb.facts
  obtain ⟨xc, yc, zc, vc⟩ := Bc.facts
  obtain ⟨xd, yd, zd, vd⟩ := Bd.facts
  go_wp2_with fail
  refine (cb _).mono ?_
  rintro e w3 ⟨rfl, hb⟩
  clear xa ya za va xb yb zb vb xc yc zc vc xd yd zd vd
  replace Ba := Ba.ext hb rfl
  replace Bb := Bb.ext hb rfl
  replace Bc := Bc.ext hb rfl
  replace Bd := Bd.ext hb rfl
  replace hw := hw.trans (hb.mono hw.size)
  clear hb
  obtain ⟨xa, ya, za, va⟩ := Ba.facts
  obtain ⟨xb, yb, zb, vb⟩ := Bb.facts
  obtain ⟨xc, yc, zc, vc⟩ := Bc.facts
  obtain ⟨xd, yd, zd, vd⟩ := Bd.facts
  go_wp2_with fail
  refine (cc _).mono ?_
  rintro e w4 ⟨rfl, hb⟩
  clear xa ya za va xb yb zb vb xc yc zc vc xd yd zd vd
  replace Ba := Ba.ext hb rfl
  replace Bb := Bb.ext hb rfl
  replace Bc := Bc.ext hb rfl
  replace Bd := Bd.ext hb rfl
  replace hw := hw.trans (hb.mono hw.size)
  clear hb
  obtain ⟨xa, ya, za, va⟩ := Ba.facts
  obtain ⟨xb, yb, zb, vb⟩ := Bb.facts
  obtain ⟨xc, yc, zc, vc⟩ := Bc.facts
  obtain ⟨xd, yd, zd, vd⟩ := Bd.facts
  go_wp2_with fail
  refine (cd _).mono ?_
  rintro e w5 ⟨rfl, hb⟩
  clear xa ya za va xb yb zb vb xc yc zc vc xd yd zd vd
  replace Ba := Ba.ext hb rfl
  replace Bb := Bb.ext hb rfl
  replace Bc := Bc.ext hb rfl
  replace Bd := Bd.ext hb rfl
  replace hw := hw.trans (hb.mono hw.size)
  clear hb
  obtain ⟨xa, ya, za, va⟩ := Ba.facts
  obtain ⟨xb, yb, zb, vb⟩ := Bb.facts
  obtain ⟨xc, yc, zc, vc⟩ := Bc.facts
  obtain ⟨xd, yd, zd, vd⟩ := Bd.facts
  go_wp2
  refine at_world fun W6 hW => ?_
  replace hw : Below w.heap.size w W6 := by rw [hW]; exact hw
  replace Ba : Box W6 (w.heap.size) [.int .i64 a.x, .int .i64 a.y] 33 := by rw [hW]; exact Ba
  replace Bb : Box W6 (w.heap.size + 1) [.int .i64 b.x, .int .i64 b.y] 33 := by rw [hW]; exact Bb
  replace Bc : Box W6 (w.heap.size + 1 + 1) [.int .i64 c.x, .int .i64 c.y] 33 := by rw [hW]; exact Bc
  replace Bd : Box W6 (w.heap.size + 1 + 1 + 1) [.int .i64 d.x, .int .i64 d.y] 33 := by rw [hW]; exact Bd
  clear hW
  clear xa ya za va xb yb zb vb xc yc zc vc xd yd zd vd
  have ga := Ba.cells
  have gb := Bb.cells
  have gc := Bc.cells
  have gd := Bd.cells
  refine wp_region_tail 16 (by kernel_rfl) (by kernel_rfl) (C := fun w' => ∃ p : Regrown, w' = grow (redrawn W6 p.d) p.os) (fun w' h => regrown_of_below h) ?_
  simp only [List.take_succ_cons, List.take_zero, List.drop_succ_cons, List.drop_zero]
  repeat (first | (refine rWalk_skip (Eq.refl false) ?_; simp only [Act.put, List.setIfInBounds_toArray, List.set_cons_succ, List.set_cons_zero]) | (refine rWalk_step (fun K hK => ?_); go_simp; first | (refine hK _ ?_; clear hK K) | (apply Exists.intro; refine ⟨fun _ => ?_, hK _ ?_⟩; (first | with_reducible exact toExt o1 _ | with_reducible exact toExt o2 _ | with_reducible exact toExt o3 _ | with_reducible exact toExt o4 _); clear hK K)))
  refine rWalk_nil ?_
  intro w7 hb
  clear ga gb gc gd
  replace Ba := Ba.ext hb rfl
  replace Bb := Bb.ext hb rfl
  replace Bc := Bc.ext hb rfl
  replace Bd := Bd.ext hb rfl
  replace hw := hw.trans (hb.mono hw.size)
  obtain ⟨xa, ya, za, va⟩ := Ba.facts
  obtain ⟨xb, yb, zb, vb⟩ := Bb.facts
  obtain ⟨xc, yc, zc, vc⟩ := Bc.facts
  obtain ⟨xd, yd, zd, vd⟩ := Bd.facts
  go_wp2
  refine at_world fun W8 hW => ?_
  replace hw : Below w.heap.size w W8 := by rw [hW]; exact hw
  replace Ba : Box W8 (w.heap.size) [.int .i64 a.x, .int .i64 a.y] 33 := by rw [hW]; exact Ba
  replace Bb : Box W8 (w.heap.size + 1) [.int .i64 b.x, .int .i64 b.y] 33 := by rw [hW]; exact Bb
  replace Bc : Box W8 (w.heap.size + 1 + 1) [.int .i64 c.x, .int .i64 c.y] 33 := by rw [hW]; exact Bc
  replace Bd : Box W8 (w.heap.size + 1 + 1 + 1) [.int .i64 d.x, .int .i64 d.y] 33 := by rw [hW]; exact Bd
  clear hW
  clear xa ya za va xb yb zb vb xc yc zc vc xd yd zd vd
  have ga := Ba.cells
  have gb := Bb.cells
  have gc := Bc.cells
  have gd := Bd.cells
  refine wp_region_many 16 [⟨14, 13, 33, [.int .i64 0, .int .i64 0]⟩, ⟨15, 14, 33, [.int .i64 0, .int .i64 0]⟩] ?_ (by kernel_rfl) (by decide) (by decide) (by kernel_rfl) (by decide) (C := fun w' => ∃ p : Regrown, w' = grow (redrawn W8 p.d) p.os) (fun w' h => regrown_of_below h) ?_
  · simp only [List.forall_mem_cons]
    refine ⟨⟨_, rfl, rfl, rfl, rfl, fun ρ W => by simp [execOp, go_sem]⟩, ⟨_, rfl, rfl, rfl, rfl, fun ρ W => by simp [execOp, go_sem]⟩, fun _ h => (by cases h)⟩
  simp only [List.take_succ_cons, List.take_zero, List.map_cons, List.map_nil, dropIdx, List.contains_cons, List.contains_nil, Nat.reduceBEq, Nat.reduceAdd, Bool.or_false, Bool.or_true, Bool.or_self, Bool.false_eq_true, if_true, if_false]
  repeat (first | (refine rWalk_skip (Eq.refl false) ?_; simp only [Act.put, List.setIfInBounds_toArray, List.set_cons_succ, List.set_cons_zero]) | (refine rWalk_step (fun K hK => ?_); go_simp; first | (refine hK _ ?_; clear hK K) | (apply Exists.intro; refine ⟨fun _ => ?_, hK _ ?_⟩; (first | with_reducible exact toExt l1 _ | with_reducible exact toExt l2 _ | with_reducible exact toExt l3 _ | with_reducible exact toExt l4 _ | with_reducible exact toExt l5 _ | with_reducible exact toExt l6 _); clear hK K)))
  refine rWalk_nil ?_
  intro w9 β hL
  simp only [putD, List.drop_succ_cons, List.drop_zero]
  have ql := hL.box ⟨14, 13, 33, [.int .i64 0, .int .i64 0]⟩ (by simp) (by simp)
  simp only at ql
  have qh := hL.box ⟨15, 14, 33, [.int .i64 0, .int .i64 0]⟩ (by simp) (by simp)
  simp only at qh
  have nlh := hL.apart 13 (by simp) 14 (by simp) (by decide)
  have nhl := hL.apart 14 (by simp) 13 (by simp) (by decide)
  have hb := hL.below
  have la := Ba.lt
  have lb := Bb.lt
  have lc := Bc.lt
  have ld := Bd.lt
  clear ga gb gc gd
  replace Ba := Ba.ext hb rfl
  replace Bb := Bb.ext hb rfl
  replace Bc := Bc.ext hb rfl
  replace Bd := Bd.ext hb rfl
  have hw0 := hw.size
  replace hw := hw.trans (hb.mono hw.size)
  clear hb hL
  generalize β 13 = bkl at *
  generalize β 14 = bkh at *
  clear β
  obtain ⟨fl, Bl⟩ := ql
  obtain ⟨fh, Bh⟩ := qh
  simp only [Act.put]
  obtain ⟨xl, yl, zl, vl⟩ := Bl.facts
  obtain ⟨xh, yh, zh, vh⟩ := Bh.facts
  go_wp2_with fail
  refine at_call fun W10 hW => ?_
  have Ca : Box W10 (w.heap.size) [.int .i64 a.x, .int .i64 a.y] 33 := by rw [hW]; exact ((((Ba.set_ne ⟨bkl, 0, none⟩ (.int .i64 lo.x) (by first | assumption | (show bkl ≠ _; omega))).set_ne ⟨bkl, 1, none⟩ (.int .i64 lo.y) (by first | assumption | (show bkl ≠ _; omega))).set_ne ⟨bkh, 0, none⟩ (.int .i64 hi.x) (by first | assumption | (show bkh ≠ _; omega))).set_ne ⟨bkh, 1, none⟩ (.int .i64 hi.y) (by first | assumption | (show bkh ≠ _; omega)))
  have Cb : Box W10 (w.heap.size + 1) [.int .i64 b.x, .int .i64 b.y] 33 := by rw [hW]; exact ((((Bb.set_ne ⟨bkl, 0, none⟩ (.int .i64 lo.x) (by first | assumption | (show bkl ≠ _; omega))).set_ne ⟨bkl, 1, none⟩ (.int .i64 lo.y) (by first | assumption | (show bkl ≠ _; omega))).set_ne ⟨bkh, 0, none⟩ (.int .i64 hi.x) (by first | assumption | (show bkh ≠ _; omega))).set_ne ⟨bkh, 1, none⟩ (.int .i64 hi.y) (by first | assumption | (show bkh ≠ _; omega)))
  have Cc : Box W10 (w.heap.size + 1 + 1) [.int .i64 c.x, .int .i64 c.y] 33 := by rw [hW]; exact ((((Bc.set_ne ⟨bkl, 0, none⟩ (.int .i64 lo.x) (by first | assumption | (show bkl ≠ _; omega))).set_ne ⟨bkl, 1, none⟩ (.int .i64 lo.y) (by first | assumption | (show bkl ≠ _; omega))).set_ne ⟨bkh, 0, none⟩ (.int .i64 hi.x) (by first | assumption | (show bkh ≠ _; omega))).set_ne ⟨bkh, 1, none⟩ (.int .i64 hi.y) (by first | assumption | (show bkh ≠ _; omega)))
  have Cd : Box W10 (w.heap.size + 1 + 1 + 1) [.int .i64 d.x, .int .i64 d.y] 33 := by rw [hW]; exact ((((Bd.set_ne ⟨bkl, 0, none⟩ (.int .i64 lo.x) (by first | assumption | (show bkl ≠ _; omega))).set_ne ⟨bkl, 1, none⟩ (.int .i64 lo.y) (by first | assumption | (show bkl ≠ _; omega))).set_ne ⟨bkh, 0, none⟩ (.int .i64 hi.x) (by first | assumption | (show bkh ≠ _; omega))).set_ne ⟨bkh, 1, none⟩ (.int .i64 hi.y) (by first | assumption | (show bkh ≠ _; omega)))
  have Cl : Box W10 (bkl) [.int .i64 lo.x, .int .i64 lo.y] 33 := by rw [hW]; exact ((((Bl.set 0 (.int .i64 lo.x)).set 1 (.int .i64 lo.y)).set_ne ⟨bkh, 0, none⟩ (.int .i64 hi.x) (by first | assumption | (show bkh ≠ _; omega))).set_ne ⟨bkh, 1, none⟩ (.int .i64 hi.y) (by first | assumption | (show bkh ≠ _; omega)))
  have Ch : Box W10 (bkh) [.int .i64 hi.x, .int .i64 hi.y] 33 := by rw [hW]; exact ((((Bh.set_ne ⟨bkl, 0, none⟩ (.int .i64 lo.x) (by first | assumption | (show bkl ≠ _; omega))).set_ne ⟨bkl, 1, none⟩ (.int .i64 lo.y) (by first | assumption | (show bkl ≠ _; omega))).set 0 (.int .i64 hi.x)).set 1 (.int .i64 hi.y))
  replace hw : Below w.heap.size w W10 := by have hl := hw.size; rw [hW]; go_grown
  clear xl yl zl vl xh yh zh vh
  clear hW Ba Bb Bc Bd Bl Bh
  have Ba := Ca
  have Bb := Cb
  have Bc := Cc
  have Bd := Cd
  have Bl := Cl
  have Bh := Ch
  clear Ca Cb Cc Cd Cl Ch
  refine (kc _).mono ?_
  rintro e w11 ⟨rfl, hb⟩
  replace Ba := Ba.ext hb rfl
  replace Bb := Bb.ext hb rfl
  replace Bc := Bc.ext hb rfl
  replace Bd := Bd.ext hb rfl
  replace Bl := Bl.ext hb rfl
  replace Bh := Bh.ext hb rfl
  replace hw := hw.trans (hb.mono hw.size)
  clear hb
  go_wp2
  go_ret
  exact ⟨rfl, hw⟩

set_option maxRecDepth 100000 in
theorem rmeet_l1 (a b c d : Pt) (ha : vld a = true) (hb : vld b = true) (hc : vld c = true) (hd : vld d = true) (e1 : peqI a.x a.y b.x b.y = false) (e2 : peqI c.x c.y d.x d.y = false) (z1 : ori a b c = 0) (z2 : ori a b d = 0) (hk : decide (cmpP (rg (rl a b) (rl c d)) (rl (rg a b) (rg c d)) < 0) = true) (w : World) :
    Calls Try.prog 27 #[.agg #[.int .i64 a.x, .int .i64 a.y], .agg #[.int .i64 b.x, .int .i64 b.y], .agg #[.int .i64 c.x, .int .i64 c.y], .agg #[.int .i64 d.x, .int .i64 d.y]] w fun e w' => e = .returned (.int .i64 3) ∧ Below w.heap.size w w' := by
  have ca := rvalid_any a
  rw [ha] at ca
  clear ha
  have cb := rvalid_any b
  rw [hb] at cb
  clear hb
  have cc := rvalid_any c
  rw [hc] at cc
  clear hc
  have cd := rvalid_any d
  rw [hd] at cd
  clear hd
  have o1 := rorient_any a b c
  have o2 := rorient_any a b d
  have o3 := rorient_any c d a
  have o4 := rorient_any c d b
  rw [z1] at o1
  rw [z2] at o2
  clear z1 z2
  have l1 := rl_any a b
  have l2 := rl_any c d
  have l3 := rg_any (rl a b) (rl c d)
  have l4 := rg_any a b
  have l5 := rg_any c d
  have l6 := rl_any (rg a b) (rg c d)
  have kc := rcmp_pt (rg (rl a b) (rl c d)) (rl (rg a b) (rg c d))
  generalize cmpP (rg (rl a b) (rl c d)) (rl (rg a b) (rg c d)) = K at *
  generalize rg (rl a b) (rl c d) = lo at *
  generalize rl (rg a b) (rg c d) = hi at *
  generalize rl a b = q1 at *
  generalize rl c d = q2 at *
  generalize rg a b = q3 at *
  generalize rg c d = q4 at *
  generalize ori c d a = A at *
  generalize ori c d b = B at *
  go_enter Try.func27, Try.ntmps27
  go_wp2_with fail
  refine at_call fun W1 hW => ?_
  have Ba : Box W1 (w.heap.size) [.int .i64 a.x, .int .i64 a.y] 33 := by rw [hW]; exact (((Box.new rfl).old _).old _).old _
  have Bb : Box W1 (w.heap.size + 1) [.int .i64 b.x, .int .i64 b.y] 33 := by rw [hW]; exact ((Box.new (by simp)).old _).old _
  have Bc : Box W1 (w.heap.size + 1 + 1) [.int .i64 c.x, .int .i64 c.y] 33 := by rw [hW]; exact (Box.new (by simp)).old _
  have Bd : Box W1 (w.heap.size + 1 + 1 + 1) [.int .i64 d.x, .int .i64 d.y] 33 := by rw [hW]; exact Box.new (by simp)
  have hw : Below w.heap.size w W1 := by rw [hW]; go_grown
  clear hW
  refine (ca _).mono ?_
  rintro e w2 ⟨rfl, hb⟩
  replace Ba := Ba.ext hb rfl
  replace Bb := Bb.ext hb rfl
  replace Bc := Bc.ext hb rfl
  replace Bd := Bd.ext hb rfl
  replace hw := hw.trans (hb.mono hw.size)
  clear hb
  obtain ⟨xa, ya, za, va⟩ := Ba.facts
  obtain ⟨xb, yb, zb, vb⟩ := Bb.facts
  obtain ⟨xc, yc, zc, vc⟩ := Bc.facts
  obtain ⟨xd, yd, zd, vd⟩ := Bd.facts
  go_wp2_with fail
  refine (cb _).mono ?_
  rintro e w3 ⟨rfl, hb⟩
  clear xa ya za va xb yb zb vb xc yc zc vc xd yd zd vd
  replace Ba := Ba.ext hb rfl
  replace Bb := Bb.ext hb rfl
  replace Bc := Bc.ext hb rfl
  replace Bd := Bd.ext hb rfl
  replace hw := hw.trans (hb.mono hw.size)
  clear hb
  obtain ⟨xa, ya, za, va⟩ := Ba.facts
  obtain ⟨xb, yb, zb, vb⟩ := Bb.facts
  obtain ⟨xc, yc, zc, vc⟩ := Bc.facts
  obtain ⟨xd, yd, zd, vd⟩ := Bd.facts
  go_wp2_with fail
  refine (cc _).mono ?_
  rintro e w4 ⟨rfl, hb⟩
  clear xa ya za va xb yb zb vb xc yc zc vc xd yd zd vd
  replace Ba := Ba.ext hb rfl
  replace Bb := Bb.ext hb rfl
  replace Bc := Bc.ext hb rfl
  replace Bd := Bd.ext hb rfl
  replace hw := hw.trans (hb.mono hw.size)
  clear hb
  obtain ⟨xa, ya, za, va⟩ := Ba.facts
  obtain ⟨xb, yb, zb, vb⟩ := Bb.facts
  obtain ⟨xc, yc, zc, vc⟩ := Bc.facts
  obtain ⟨xd, yd, zd, vd⟩ := Bd.facts
  go_wp2_with fail
  refine (cd _).mono ?_
  rintro e w5 ⟨rfl, hb⟩
  clear xa ya za va xb yb zb vb xc yc zc vc xd yd zd vd
  replace Ba := Ba.ext hb rfl
  replace Bb := Bb.ext hb rfl
  replace Bc := Bc.ext hb rfl
  replace Bd := Bd.ext hb rfl
  replace hw := hw.trans (hb.mono hw.size)
  clear hb
  obtain ⟨xa, ya, za, va⟩ := Ba.facts
  obtain ⟨xb, yb, zb, vb⟩ := Bb.facts
  obtain ⟨xc, yc, zc, vc⟩ := Bc.facts
  obtain ⟨xd, yd, zd, vd⟩ := Bd.facts
  go_wp2
  refine at_world fun W6 hW => ?_
  replace hw : Below w.heap.size w W6 := by rw [hW]; exact hw
  replace Ba : Box W6 (w.heap.size) [.int .i64 a.x, .int .i64 a.y] 33 := by rw [hW]; exact Ba
  replace Bb : Box W6 (w.heap.size + 1) [.int .i64 b.x, .int .i64 b.y] 33 := by rw [hW]; exact Bb
  replace Bc : Box W6 (w.heap.size + 1 + 1) [.int .i64 c.x, .int .i64 c.y] 33 := by rw [hW]; exact Bc
  replace Bd : Box W6 (w.heap.size + 1 + 1 + 1) [.int .i64 d.x, .int .i64 d.y] 33 := by rw [hW]; exact Bd
  clear hW
  clear xa ya za va xb yb zb vb xc yc zc vc xd yd zd vd
  have ga := Ba.cells
  have gb := Bb.cells
  have gc := Bc.cells
  have gd := Bd.cells
  refine wp_region_tail 16 (by kernel_rfl) (by kernel_rfl) (C := fun w' => ∃ p : Regrown, w' = grow (redrawn W6 p.d) p.os) (fun w' h => regrown_of_below h) ?_
  simp only [List.take_succ_cons, List.take_zero, List.drop_succ_cons, List.drop_zero]
  repeat (first | (refine rWalk_skip (Eq.refl false) ?_; simp only [Act.put, List.setIfInBounds_toArray, List.set_cons_succ, List.set_cons_zero]) | (refine rWalk_step (fun K hK => ?_); go_simp; first | (refine hK _ ?_; clear hK K) | (apply Exists.intro; refine ⟨fun _ => ?_, hK _ ?_⟩; (first | with_reducible exact toExt o1 _ | with_reducible exact toExt o2 _ | with_reducible exact toExt o3 _ | with_reducible exact toExt o4 _); clear hK K)))
  refine rWalk_nil ?_
  intro w7 hb
  clear ga gb gc gd
  replace Ba := Ba.ext hb rfl
  replace Bb := Bb.ext hb rfl
  replace Bc := Bc.ext hb rfl
  replace Bd := Bd.ext hb rfl
  replace hw := hw.trans (hb.mono hw.size)
  obtain ⟨xa, ya, za, va⟩ := Ba.facts
  obtain ⟨xb, yb, zb, vb⟩ := Bb.facts
  obtain ⟨xc, yc, zc, vc⟩ := Bc.facts
  obtain ⟨xd, yd, zd, vd⟩ := Bd.facts
  go_wp2
  refine at_world fun W8 hW => ?_
  replace hw : Below w.heap.size w W8 := by rw [hW]; exact hw
  replace Ba : Box W8 (w.heap.size) [.int .i64 a.x, .int .i64 a.y] 33 := by rw [hW]; exact Ba
  replace Bb : Box W8 (w.heap.size + 1) [.int .i64 b.x, .int .i64 b.y] 33 := by rw [hW]; exact Bb
  replace Bc : Box W8 (w.heap.size + 1 + 1) [.int .i64 c.x, .int .i64 c.y] 33 := by rw [hW]; exact Bc
  replace Bd : Box W8 (w.heap.size + 1 + 1 + 1) [.int .i64 d.x, .int .i64 d.y] 33 := by rw [hW]; exact Bd
  clear hW
  clear xa ya za va xb yb zb vb xc yc zc vc xd yd zd vd
  have ga := Ba.cells
  have gb := Bb.cells
  have gc := Bc.cells
  have gd := Bd.cells
  refine wp_region_many 16 [⟨14, 13, 33, [.int .i64 0, .int .i64 0]⟩, ⟨15, 14, 33, [.int .i64 0, .int .i64 0]⟩] ?_ (by kernel_rfl) (by decide) (by decide) (by kernel_rfl) (by decide) (C := fun w' => ∃ p : Regrown, w' = grow (redrawn W8 p.d) p.os) (fun w' h => regrown_of_below h) ?_
  · simp only [List.forall_mem_cons]
    refine ⟨⟨_, rfl, rfl, rfl, rfl, fun ρ W => by simp [execOp, go_sem]⟩, ⟨_, rfl, rfl, rfl, rfl, fun ρ W => by simp [execOp, go_sem]⟩, fun _ h => (by cases h)⟩
  simp only [List.take_succ_cons, List.take_zero, List.map_cons, List.map_nil, dropIdx, List.contains_cons, List.contains_nil, Nat.reduceBEq, Nat.reduceAdd, Bool.or_false, Bool.or_true, Bool.or_self, Bool.false_eq_true, if_true, if_false]
  repeat (first | (refine rWalk_skip (Eq.refl false) ?_; simp only [Act.put, List.setIfInBounds_toArray, List.set_cons_succ, List.set_cons_zero]) | (refine rWalk_step (fun K hK => ?_); go_simp; first | (refine hK _ ?_; clear hK K) | (apply Exists.intro; refine ⟨fun _ => ?_, hK _ ?_⟩; (first | with_reducible exact toExt l1 _ | with_reducible exact toExt l2 _ | with_reducible exact toExt l3 _ | with_reducible exact toExt l4 _ | with_reducible exact toExt l5 _ | with_reducible exact toExt l6 _); clear hK K)))
  refine rWalk_nil ?_
  intro w9 β hL
  simp only [putD, List.drop_succ_cons, List.drop_zero]
  have ql := hL.box ⟨14, 13, 33, [.int .i64 0, .int .i64 0]⟩ (by simp) (by simp)
  simp only at ql
  have qh := hL.box ⟨15, 14, 33, [.int .i64 0, .int .i64 0]⟩ (by simp) (by simp)
  simp only at qh
  have nlh := hL.apart 13 (by simp) 14 (by simp) (by decide)
  have nhl := hL.apart 14 (by simp) 13 (by simp) (by decide)
  have hb := hL.below
  have la := Ba.lt
  have lb := Bb.lt
  have lc := Bc.lt
  have ld := Bd.lt
  clear ga gb gc gd
  replace Ba := Ba.ext hb rfl
  replace Bb := Bb.ext hb rfl
  replace Bc := Bc.ext hb rfl
  replace Bd := Bd.ext hb rfl
  have hw0 := hw.size
  replace hw := hw.trans (hb.mono hw.size)
  clear hb hL
  generalize β 13 = bkl at *
  generalize β 14 = bkh at *
  clear β
  obtain ⟨fl, Bl⟩ := ql
  obtain ⟨fh, Bh⟩ := qh
  simp only [Act.put]
  obtain ⟨xl, yl, zl, vl⟩ := Bl.facts
  obtain ⟨xh, yh, zh, vh⟩ := Bh.facts
  go_wp2_with fail
  refine at_call fun W10 hW => ?_
  have Ca : Box W10 (w.heap.size) [.int .i64 a.x, .int .i64 a.y] 33 := by rw [hW]; exact ((((Ba.set_ne ⟨bkl, 0, none⟩ (.int .i64 lo.x) (by first | assumption | (show bkl ≠ _; omega))).set_ne ⟨bkl, 1, none⟩ (.int .i64 lo.y) (by first | assumption | (show bkl ≠ _; omega))).set_ne ⟨bkh, 0, none⟩ (.int .i64 hi.x) (by first | assumption | (show bkh ≠ _; omega))).set_ne ⟨bkh, 1, none⟩ (.int .i64 hi.y) (by first | assumption | (show bkh ≠ _; omega)))
  have Cb : Box W10 (w.heap.size + 1) [.int .i64 b.x, .int .i64 b.y] 33 := by rw [hW]; exact ((((Bb.set_ne ⟨bkl, 0, none⟩ (.int .i64 lo.x) (by first | assumption | (show bkl ≠ _; omega))).set_ne ⟨bkl, 1, none⟩ (.int .i64 lo.y) (by first | assumption | (show bkl ≠ _; omega))).set_ne ⟨bkh, 0, none⟩ (.int .i64 hi.x) (by first | assumption | (show bkh ≠ _; omega))).set_ne ⟨bkh, 1, none⟩ (.int .i64 hi.y) (by first | assumption | (show bkh ≠ _; omega)))
  have Cc : Box W10 (w.heap.size + 1 + 1) [.int .i64 c.x, .int .i64 c.y] 33 := by rw [hW]; exact ((((Bc.set_ne ⟨bkl, 0, none⟩ (.int .i64 lo.x) (by first | assumption | (show bkl ≠ _; omega))).set_ne ⟨bkl, 1, none⟩ (.int .i64 lo.y) (by first | assumption | (show bkl ≠ _; omega))).set_ne ⟨bkh, 0, none⟩ (.int .i64 hi.x) (by first | assumption | (show bkh ≠ _; omega))).set_ne ⟨bkh, 1, none⟩ (.int .i64 hi.y) (by first | assumption | (show bkh ≠ _; omega)))
  have Cd : Box W10 (w.heap.size + 1 + 1 + 1) [.int .i64 d.x, .int .i64 d.y] 33 := by rw [hW]; exact ((((Bd.set_ne ⟨bkl, 0, none⟩ (.int .i64 lo.x) (by first | assumption | (show bkl ≠ _; omega))).set_ne ⟨bkl, 1, none⟩ (.int .i64 lo.y) (by first | assumption | (show bkl ≠ _; omega))).set_ne ⟨bkh, 0, none⟩ (.int .i64 hi.x) (by first | assumption | (show bkh ≠ _; omega))).set_ne ⟨bkh, 1, none⟩ (.int .i64 hi.y) (by first | assumption | (show bkh ≠ _; omega)))
  have Cl : Box W10 (bkl) [.int .i64 lo.x, .int .i64 lo.y] 33 := by rw [hW]; exact ((((Bl.set 0 (.int .i64 lo.x)).set 1 (.int .i64 lo.y)).set_ne ⟨bkh, 0, none⟩ (.int .i64 hi.x) (by first | assumption | (show bkh ≠ _; omega))).set_ne ⟨bkh, 1, none⟩ (.int .i64 hi.y) (by first | assumption | (show bkh ≠ _; omega)))
  have Ch : Box W10 (bkh) [.int .i64 hi.x, .int .i64 hi.y] 33 := by rw [hW]; exact ((((Bh.set_ne ⟨bkl, 0, none⟩ (.int .i64 lo.x) (by first | assumption | (show bkl ≠ _; omega))).set_ne ⟨bkl, 1, none⟩ (.int .i64 lo.y) (by first | assumption | (show bkl ≠ _; omega))).set 0 (.int .i64 hi.x)).set 1 (.int .i64 hi.y))
  replace hw : Below w.heap.size w W10 := by have hl := hw.size; rw [hW]; go_grown
  clear xl yl zl vl xh yh zh vh
  clear hW Ba Bb Bc Bd Bl Bh
  have Ba := Ca
  have Bb := Cb
  have Bc := Cc
  have Bd := Cd
  have Bl := Cl
  have Bh := Ch
  clear Ca Cb Cc Cd Cl Ch
  refine (kc _).mono ?_
  rintro e w11 ⟨rfl, hb⟩
  replace Ba := Ba.ext hb rfl
  replace Bb := Bb.ext hb rfl
  replace Bc := Bc.ext hb rfl
  replace Bd := Bd.ext hb rfl
  replace Bl := Bl.ext hb rfl
  replace Bh := Bh.ext hb rfl
  replace hw := hw.trans (hb.mono hw.size)
  clear hb
  go_wp2
  go_ret
  exact ⟨rfl, hw⟩

set_option maxRecDepth 100000 in
theorem rmeet_x (a b c d : Pt) (ha : vld a = true) (hb : vld b = true) (hc : vld c = true) (hd : vld d = true) (e1 : peqI a.x a.y b.x b.y = false) (e2 : peqI c.x c.y d.x d.y = false) (z1 : ¬ ori a b c = 0) (x1 : ori a b c * ori a b d < 0) (x2 : ori c d a * ori c d b < 0) (w : World) :
    Calls Try.prog 27 #[.agg #[.int .i64 a.x, .int .i64 a.y], .agg #[.int .i64 b.x, .int .i64 b.y], .agg #[.int .i64 c.x, .int .i64 c.y], .agg #[.int .i64 d.x, .int .i64 d.y]] w fun e w' => e = .returned (.int .i64 1) ∧ Below w.heap.size w w' := by
  have ca := rvalid_any a
  rw [ha] at ca
  clear ha
  have cb := rvalid_any b
  rw [hb] at cb
  clear hb
  have cc := rvalid_any c
  rw [hc] at cc
  clear hc
  have cd := rvalid_any d
  rw [hd] at cd
  clear hd
  have o1 := rorient_any a b c
  have o2 := rorient_any a b d
  have o3 := rorient_any c d a
  have o4 := rorient_any c d b
  have sC := ori_bd a b c
  have sD := ori_bd a b d
  have sA := ori_bd c d a
  have sB := ori_bd c d b
  have m1 := mul_bd1 sC sD
  have m2 := mul_bd1 sA sB
  generalize ori a b c = C at *
  generalize ori a b d = D at *
  generalize ori c d a = A at *
  generalize ori c d b = B at *
  have t1 : (C == 0) = false := by simpa using z1
  clear z1
  have k1 : decide (C * D < 0) = true := by simpa using x1
  have k2 : decide (A * B < 0) = true := by simpa using x2
  clear x1 x2
  go_enter Try.func27, Try.ntmps27
  go_wp2_with fail
  refine at_call fun W1 hW => ?_
  have Ba : Box W1 (w.heap.size) [.int .i64 a.x, .int .i64 a.y] 33 := by rw [hW]; exact (((Box.new rfl).old _).old _).old _
  have Bb : Box W1 (w.heap.size + 1) [.int .i64 b.x, .int .i64 b.y] 33 := by rw [hW]; exact ((Box.new (by simp)).old _).old _
  have Bc : Box W1 (w.heap.size + 1 + 1) [.int .i64 c.x, .int .i64 c.y] 33 := by rw [hW]; exact (Box.new (by simp)).old _
  have Bd : Box W1 (w.heap.size + 1 + 1 + 1) [.int .i64 d.x, .int .i64 d.y] 33 := by rw [hW]; exact Box.new (by simp)
  have hw : Below w.heap.size w W1 := by rw [hW]; go_grown
  clear hW
  refine (ca _).mono ?_
  rintro e w2 ⟨rfl, hb⟩
  replace Ba := Ba.ext hb rfl
  replace Bb := Bb.ext hb rfl
  replace Bc := Bc.ext hb rfl
  replace Bd := Bd.ext hb rfl
  replace hw := hw.trans (hb.mono hw.size)
  clear hb
  obtain ⟨xa, ya, za, va⟩ := Ba.facts
  obtain ⟨xb, yb, zb, vb⟩ := Bb.facts
  obtain ⟨xc, yc, zc, vc⟩ := Bc.facts
  obtain ⟨xd, yd, zd, vd⟩ := Bd.facts
  go_wp2_with fail
  refine (cb _).mono ?_
  rintro e w3 ⟨rfl, hb⟩
  clear xa ya za va xb yb zb vb xc yc zc vc xd yd zd vd
  replace Ba := Ba.ext hb rfl
  replace Bb := Bb.ext hb rfl
  replace Bc := Bc.ext hb rfl
  replace Bd := Bd.ext hb rfl
  replace hw := hw.trans (hb.mono hw.size)
  clear hb
  obtain ⟨xa, ya, za, va⟩ := Ba.facts
  obtain ⟨xb, yb, zb, vb⟩ := Bb.facts
  obtain ⟨xc, yc, zc, vc⟩ := Bc.facts
  obtain ⟨xd, yd, zd, vd⟩ := Bd.facts
  go_wp2_with fail
  refine (cc _).mono ?_
  rintro e w4 ⟨rfl, hb⟩
  clear xa ya za va xb yb zb vb xc yc zc vc xd yd zd vd
  replace Ba := Ba.ext hb rfl
  replace Bb := Bb.ext hb rfl
  replace Bc := Bc.ext hb rfl
  replace Bd := Bd.ext hb rfl
  replace hw := hw.trans (hb.mono hw.size)
  clear hb
  obtain ⟨xa, ya, za, va⟩ := Ba.facts
  obtain ⟨xb, yb, zb, vb⟩ := Bb.facts
  obtain ⟨xc, yc, zc, vc⟩ := Bc.facts
  obtain ⟨xd, yd, zd, vd⟩ := Bd.facts
  go_wp2_with fail
  refine (cd _).mono ?_
  rintro e w5 ⟨rfl, hb⟩
  clear xa ya za va xb yb zb vb xc yc zc vc xd yd zd vd
  replace Ba := Ba.ext hb rfl
  replace Bb := Bb.ext hb rfl
  replace Bc := Bc.ext hb rfl
  replace Bd := Bd.ext hb rfl
  replace hw := hw.trans (hb.mono hw.size)
  clear hb
  obtain ⟨xa, ya, za, va⟩ := Ba.facts
  obtain ⟨xb, yb, zb, vb⟩ := Bb.facts
  obtain ⟨xc, yc, zc, vc⟩ := Bc.facts
  obtain ⟨xd, yd, zd, vd⟩ := Bd.facts
  go_wp2
  refine at_world fun W6 hW => ?_
  replace hw : Below w.heap.size w W6 := by rw [hW]; exact hw
  replace Ba : Box W6 (w.heap.size) [.int .i64 a.x, .int .i64 a.y] 33 := by rw [hW]; exact Ba
  replace Bb : Box W6 (w.heap.size + 1) [.int .i64 b.x, .int .i64 b.y] 33 := by rw [hW]; exact Bb
  replace Bc : Box W6 (w.heap.size + 1 + 1) [.int .i64 c.x, .int .i64 c.y] 33 := by rw [hW]; exact Bc
  replace Bd : Box W6 (w.heap.size + 1 + 1 + 1) [.int .i64 d.x, .int .i64 d.y] 33 := by rw [hW]; exact Bd
  clear hW
  clear xa ya za va xb yb zb vb xc yc zc vc xd yd zd vd
  have ga := Ba.cells
  have gb := Bb.cells
  have gc := Bc.cells
  have gd := Bd.cells
  refine wp_region_tail 16 (by kernel_rfl) (by kernel_rfl) (C := fun w' => ∃ p : Regrown, w' = grow (redrawn W6 p.d) p.os) (fun w' h => regrown_of_below h) ?_
  simp only [List.take_succ_cons, List.take_zero, List.drop_succ_cons, List.drop_zero]
  repeat (first | (refine rWalk_skip (Eq.refl false) ?_; simp only [Act.put, List.setIfInBounds_toArray, List.set_cons_succ, List.set_cons_zero]) | (refine rWalk_step (fun K hK => ?_); go_simp; first | (refine hK _ ?_; clear hK K) | (apply Exists.intro; refine ⟨fun _ => ?_, hK _ ?_⟩; (first | with_reducible exact toExt o1 _ | with_reducible exact toExt o2 _ | with_reducible exact toExt o3 _ | with_reducible exact toExt o4 _); clear hK K)))
  refine rWalk_nil ?_
  intro w7 hb
  clear ga gb gc gd
  replace Ba := Ba.ext hb rfl
  replace Bb := Bb.ext hb rfl
  replace Bc := Bc.ext hb rfl
  replace Bd := Bd.ext hb rfl
  replace hw := hw.trans (hb.mono hw.size)
  obtain ⟨xa, ya, za, va⟩ := Ba.facts
  obtain ⟨xb, yb, zb, vb⟩ := Bb.facts
  obtain ⟨xc, yc, zc, vc⟩ := Bc.facts
  obtain ⟨xd, yd, zd, vd⟩ := Bd.facts
  go_wp2
  go_ret
  exact ⟨rfl, hw⟩

set_option maxRecDepth 100000 in
theorem rmeet_t1 (a b c d : Pt) (ha : vld a = true) (hb : vld b = true) (hc : vld c = true) (hd : vld d = true) (e1 : peqI a.x a.y b.x b.y = false) (e2 : peqI c.x c.y d.x d.y = false) (z1 : ¬ ori a b c = 0) (x1 : ¬ ori a b c * ori a b d < 0) (w : World) :
    Calls Try.prog 27 #[.agg #[.int .i64 a.x, .int .i64 a.y], .agg #[.int .i64 b.x, .int .i64 b.y], .agg #[.int .i64 c.x, .int .i64 c.y], .agg #[.int .i64 d.x, .int .i64 d.y]] w fun e w' => e = .returned (.int .i64 (mx4 (tch a c d) (tch b c d) (tch c a b) (tch d a b))) ∧ Below w.heap.size w w' := by
  have ca := rvalid_any a
  rw [ha] at ca
  clear ha
  have cb := rvalid_any b
  rw [hb] at cb
  clear hb
  have cc := rvalid_any c
  rw [hc] at cc
  clear hc
  have cd := rvalid_any d
  rw [hd] at cd
  clear hd
  have o1 := rorient_any a b c
  have o2 := rorient_any a b d
  have o3 := rorient_any c d a
  have o4 := rorient_any c d b
  have sC := ori_bd a b c
  have sD := ori_bd a b d
  have sA := ori_bd c d a
  have sB := ori_bd c d b
  have m1 := mul_bd1 sC sD
  have m2 := mul_bd1 sA sB
  generalize ori a b c = C at *
  generalize ori a b d = D at *
  generalize ori c d a = A at *
  generalize ori c d b = B at *
  have t1 : (C == 0) = false := by simpa using z1
  clear z1
  have k1 : decide (C * D < 0) = false := by simpa using x1
  clear x1
  have u1 := tch_any a c d
  have u2 := tch_any b c d
  have u3 := tch_any c a b
  have u4 := tch_any d a b
  generalize tch a c d = T1 at *
  generalize tch b c d = T2 at *
  generalize tch c a b = T3 at *
  generalize tch d a b = T4 at *
  go_enter Try.func27, Try.ntmps27
  go_wp2_with fail
  refine at_call fun W1 hW => ?_
  have Ba : Box W1 (w.heap.size) [.int .i64 a.x, .int .i64 a.y] 33 := by rw [hW]; exact (((Box.new rfl).old _).old _).old _
  have Bb : Box W1 (w.heap.size + 1) [.int .i64 b.x, .int .i64 b.y] 33 := by rw [hW]; exact ((Box.new (by simp)).old _).old _
  have Bc : Box W1 (w.heap.size + 1 + 1) [.int .i64 c.x, .int .i64 c.y] 33 := by rw [hW]; exact (Box.new (by simp)).old _
  have Bd : Box W1 (w.heap.size + 1 + 1 + 1) [.int .i64 d.x, .int .i64 d.y] 33 := by rw [hW]; exact Box.new (by simp)
  have hw : Below w.heap.size w W1 := by rw [hW]; go_grown
  clear hW
  refine (ca _).mono ?_
  rintro e w2 ⟨rfl, hb⟩
  replace Ba := Ba.ext hb rfl
  replace Bb := Bb.ext hb rfl
  replace Bc := Bc.ext hb rfl
  replace Bd := Bd.ext hb rfl
  replace hw := hw.trans (hb.mono hw.size)
  clear hb
  obtain ⟨xa, ya, za, va⟩ := Ba.facts
  obtain ⟨xb, yb, zb, vb⟩ := Bb.facts
  obtain ⟨xc, yc, zc, vc⟩ := Bc.facts
  obtain ⟨xd, yd, zd, vd⟩ := Bd.facts
  go_wp2_with fail
  refine (cb _).mono ?_
  rintro e w3 ⟨rfl, hb⟩
  clear xa ya za va xb yb zb vb xc yc zc vc xd yd zd vd
  replace Ba := Ba.ext hb rfl
  replace Bb := Bb.ext hb rfl
  replace Bc := Bc.ext hb rfl
  replace Bd := Bd.ext hb rfl
  replace hw := hw.trans (hb.mono hw.size)
  clear hb
  obtain ⟨xa, ya, za, va⟩ := Ba.facts
  obtain ⟨xb, yb, zb, vb⟩ := Bb.facts
  obtain ⟨xc, yc, zc, vc⟩ := Bc.facts
  obtain ⟨xd, yd, zd, vd⟩ := Bd.facts
  go_wp2_with fail
  refine (cc _).mono ?_
  rintro e w4 ⟨rfl, hb⟩
  clear xa ya za va xb yb zb vb xc yc zc vc xd yd zd vd
  replace Ba := Ba.ext hb rfl
  replace Bb := Bb.ext hb rfl
  replace Bc := Bc.ext hb rfl
  replace Bd := Bd.ext hb rfl
  replace hw := hw.trans (hb.mono hw.size)
  clear hb
  obtain ⟨xa, ya, za, va⟩ := Ba.facts
  obtain ⟨xb, yb, zb, vb⟩ := Bb.facts
  obtain ⟨xc, yc, zc, vc⟩ := Bc.facts
  obtain ⟨xd, yd, zd, vd⟩ := Bd.facts
  go_wp2_with fail
  refine (cd _).mono ?_
  rintro e w5 ⟨rfl, hb⟩
  clear xa ya za va xb yb zb vb xc yc zc vc xd yd zd vd
  replace Ba := Ba.ext hb rfl
  replace Bb := Bb.ext hb rfl
  replace Bc := Bc.ext hb rfl
  replace Bd := Bd.ext hb rfl
  replace hw := hw.trans (hb.mono hw.size)
  clear hb
  obtain ⟨xa, ya, za, va⟩ := Ba.facts
  obtain ⟨xb, yb, zb, vb⟩ := Bb.facts
  obtain ⟨xc, yc, zc, vc⟩ := Bc.facts
  obtain ⟨xd, yd, zd, vd⟩ := Bd.facts
  go_wp2
  refine at_world fun W6 hW => ?_
  replace hw : Below w.heap.size w W6 := by rw [hW]; exact hw
  replace Ba : Box W6 (w.heap.size) [.int .i64 a.x, .int .i64 a.y] 33 := by rw [hW]; exact Ba
  replace Bb : Box W6 (w.heap.size + 1) [.int .i64 b.x, .int .i64 b.y] 33 := by rw [hW]; exact Bb
  replace Bc : Box W6 (w.heap.size + 1 + 1) [.int .i64 c.x, .int .i64 c.y] 33 := by rw [hW]; exact Bc
  replace Bd : Box W6 (w.heap.size + 1 + 1 + 1) [.int .i64 d.x, .int .i64 d.y] 33 := by rw [hW]; exact Bd
  clear hW
  clear xa ya za va xb yb zb vb xc yc zc vc xd yd zd vd
  have ga := Ba.cells
  have gb := Bb.cells
  have gc := Bc.cells
  have gd := Bd.cells
  refine wp_region_tail 16 (by kernel_rfl) (by kernel_rfl) (C := fun w' => ∃ p : Regrown, w' = grow (redrawn W6 p.d) p.os) (fun w' h => regrown_of_below h) ?_
  simp only [List.take_succ_cons, List.take_zero, List.drop_succ_cons, List.drop_zero]
  repeat (first | (refine rWalk_skip (Eq.refl false) ?_; simp only [Act.put, List.setIfInBounds_toArray, List.set_cons_succ, List.set_cons_zero]) | (refine rWalk_step (fun K hK => ?_); go_simp; first | (refine hK _ ?_; clear hK K) | (apply Exists.intro; refine ⟨fun _ => ?_, hK _ ?_⟩; (first | with_reducible exact toExt o1 _ | with_reducible exact toExt o2 _ | with_reducible exact toExt o3 _ | with_reducible exact toExt o4 _); clear hK K)))
  refine rWalk_nil ?_
  intro w7 hb
  clear ga gb gc gd
  replace Ba := Ba.ext hb rfl
  replace Bb := Bb.ext hb rfl
  replace Bc := Bc.ext hb rfl
  replace Bd := Bd.ext hb rfl
  replace hw := hw.trans (hb.mono hw.size)
  obtain ⟨xa, ya, za, va⟩ := Ba.facts
  obtain ⟨xb, yb, zb, vb⟩ := Bb.facts
  obtain ⟨xc, yc, zc, vc⟩ := Bc.facts
  obtain ⟨xd, yd, zd, vd⟩ := Bd.facts
  go_wp2
  refine at_world fun W8 hW => ?_
  replace hw : Below w.heap.size w W8 := by rw [hW]; exact hw
  replace Ba : Box W8 (w.heap.size) [.int .i64 a.x, .int .i64 a.y] 33 := by rw [hW]; exact Ba
  replace Bb : Box W8 (w.heap.size + 1) [.int .i64 b.x, .int .i64 b.y] 33 := by rw [hW]; exact Bb
  replace Bc : Box W8 (w.heap.size + 1 + 1) [.int .i64 c.x, .int .i64 c.y] 33 := by rw [hW]; exact Bc
  replace Bd : Box W8 (w.heap.size + 1 + 1 + 1) [.int .i64 d.x, .int .i64 d.y] 33 := by rw [hW]; exact Bd
  clear hW
  clear xa ya za va xb yb zb vb xc yc zc vc xd yd zd vd
  have ga := Ba.cells
  have gb := Bb.cells
  have gc := Bc.cells
  have gd := Bd.cells
  refine wp_region_tail 16 (by kernel_rfl) (by kernel_rfl) (C := fun w' => ∃ p : Regrown, w' = grow (redrawn W8 p.d) p.os) (fun w' h => regrown_of_below h) ?_
  simp only [List.take_succ_cons, List.take_zero, List.drop_succ_cons, List.drop_zero]
  repeat (first | (refine rWalk_skip (Eq.refl false) ?_; simp only [Act.put, List.setIfInBounds_toArray, List.set_cons_succ, List.set_cons_zero]) | (refine rWalk_step (fun K hK => ?_); go_simp; first | (refine hK _ ?_; clear hK K) | (apply Exists.intro; refine ⟨fun _ => ?_, hK _ ?_⟩; (first | with_reducible exact toExt u1 _ | with_reducible exact toExt u2 _ | with_reducible exact toExt u3 _ | with_reducible exact toExt u4 _); clear hK K)))
  refine rWalk_nil ?_
  intro w9 hb
  clear ga gb gc gd
  replace Ba := Ba.ext hb rfl
  replace Bb := Bb.ext hb rfl
  replace Bc := Bc.ext hb rfl
  replace Bd := Bd.ext hb rfl
  replace hw := hw.trans (hb.mono hw.size)
  go_wp2
  all_goals go_ret
  all_goals exact ⟨rfl, hw⟩

set_option maxRecDepth 100000 in
theorem rmeet_t2 (a b c d : Pt) (ha : vld a = true) (hb : vld b = true) (hc : vld c = true) (hd : vld d = true) (e1 : peqI a.x a.y b.x b.y = false) (e2 : peqI c.x c.y d.x d.y = false) (z1 : ¬ ori a b c = 0) (x1 : ori a b c * ori a b d < 0) (x2 : ¬ ori c d a * ori c d b < 0) (w : World) :
    Calls Try.prog 27 #[.agg #[.int .i64 a.x, .int .i64 a.y], .agg #[.int .i64 b.x, .int .i64 b.y], .agg #[.int .i64 c.x, .int .i64 c.y], .agg #[.int .i64 d.x, .int .i64 d.y]] w fun e w' => e = .returned (.int .i64 (mx4 (tch a c d) (tch b c d) (tch c a b) (tch d a b))) ∧ Below w.heap.size w w' := by
  have ca := rvalid_any a
  rw [ha] at ca
  clear ha
  have cb := rvalid_any b
  rw [hb] at cb
  clear hb
  have cc := rvalid_any c
  rw [hc] at cc
  clear hc
  have cd := rvalid_any d
  rw [hd] at cd
  clear hd
  have o1 := rorient_any a b c
  have o2 := rorient_any a b d
  have o3 := rorient_any c d a
  have o4 := rorient_any c d b
  have sC := ori_bd a b c
  have sD := ori_bd a b d
  have sA := ori_bd c d a
  have sB := ori_bd c d b
  have m1 := mul_bd1 sC sD
  have m2 := mul_bd1 sA sB
  generalize ori a b c = C at *
  generalize ori a b d = D at *
  generalize ori c d a = A at *
  generalize ori c d b = B at *
  have t1 : (C == 0) = false := by simpa using z1
  clear z1
  have k1 : decide (C * D < 0) = true := by simpa using x1
  have k2 : decide (A * B < 0) = false := by simpa using x2
  clear x1 x2
  have u1 := tch_any a c d
  have u2 := tch_any b c d
  have u3 := tch_any c a b
  have u4 := tch_any d a b
  generalize tch a c d = T1 at *
  generalize tch b c d = T2 at *
  generalize tch c a b = T3 at *
  generalize tch d a b = T4 at *
  go_enter Try.func27, Try.ntmps27
  go_wp2_with fail
  refine at_call fun W1 hW => ?_
  have Ba : Box W1 (w.heap.size) [.int .i64 a.x, .int .i64 a.y] 33 := by rw [hW]; exact (((Box.new rfl).old _).old _).old _
  have Bb : Box W1 (w.heap.size + 1) [.int .i64 b.x, .int .i64 b.y] 33 := by rw [hW]; exact ((Box.new (by simp)).old _).old _
  have Bc : Box W1 (w.heap.size + 1 + 1) [.int .i64 c.x, .int .i64 c.y] 33 := by rw [hW]; exact (Box.new (by simp)).old _
  have Bd : Box W1 (w.heap.size + 1 + 1 + 1) [.int .i64 d.x, .int .i64 d.y] 33 := by rw [hW]; exact Box.new (by simp)
  have hw : Below w.heap.size w W1 := by rw [hW]; go_grown
  clear hW
  refine (ca _).mono ?_
  rintro e w2 ⟨rfl, hb⟩
  replace Ba := Ba.ext hb rfl
  replace Bb := Bb.ext hb rfl
  replace Bc := Bc.ext hb rfl
  replace Bd := Bd.ext hb rfl
  replace hw := hw.trans (hb.mono hw.size)
  clear hb
  obtain ⟨xa, ya, za, va⟩ := Ba.facts
  obtain ⟨xb, yb, zb, vb⟩ := Bb.facts
  obtain ⟨xc, yc, zc, vc⟩ := Bc.facts
  obtain ⟨xd, yd, zd, vd⟩ := Bd.facts
  go_wp2_with fail
  refine (cb _).mono ?_
  rintro e w3 ⟨rfl, hb⟩
  clear xa ya za va xb yb zb vb xc yc zc vc xd yd zd vd
  replace Ba := Ba.ext hb rfl
  replace Bb := Bb.ext hb rfl
  replace Bc := Bc.ext hb rfl
  replace Bd := Bd.ext hb rfl
  replace hw := hw.trans (hb.mono hw.size)
  clear hb
  obtain ⟨xa, ya, za, va⟩ := Ba.facts
  obtain ⟨xb, yb, zb, vb⟩ := Bb.facts
  obtain ⟨xc, yc, zc, vc⟩ := Bc.facts
  obtain ⟨xd, yd, zd, vd⟩ := Bd.facts
  go_wp2_with fail
  refine (cc _).mono ?_
  rintro e w4 ⟨rfl, hb⟩
  clear xa ya za va xb yb zb vb xc yc zc vc xd yd zd vd
  replace Ba := Ba.ext hb rfl
  replace Bb := Bb.ext hb rfl
  replace Bc := Bc.ext hb rfl
  replace Bd := Bd.ext hb rfl
  replace hw := hw.trans (hb.mono hw.size)
  clear hb
  obtain ⟨xa, ya, za, va⟩ := Ba.facts
  obtain ⟨xb, yb, zb, vb⟩ := Bb.facts
  obtain ⟨xc, yc, zc, vc⟩ := Bc.facts
  obtain ⟨xd, yd, zd, vd⟩ := Bd.facts
  go_wp2_with fail
  refine (cd _).mono ?_
  rintro e w5 ⟨rfl, hb⟩
  clear xa ya za va xb yb zb vb xc yc zc vc xd yd zd vd
  replace Ba := Ba.ext hb rfl
  replace Bb := Bb.ext hb rfl
  replace Bc := Bc.ext hb rfl
  replace Bd := Bd.ext hb rfl
  replace hw := hw.trans (hb.mono hw.size)
  clear hb
  obtain ⟨xa, ya, za, va⟩ := Ba.facts
  obtain ⟨xb, yb, zb, vb⟩ := Bb.facts
  obtain ⟨xc, yc, zc, vc⟩ := Bc.facts
  obtain ⟨xd, yd, zd, vd⟩ := Bd.facts
  go_wp2
  refine at_world fun W6 hW => ?_
  replace hw : Below w.heap.size w W6 := by rw [hW]; exact hw
  replace Ba : Box W6 (w.heap.size) [.int .i64 a.x, .int .i64 a.y] 33 := by rw [hW]; exact Ba
  replace Bb : Box W6 (w.heap.size + 1) [.int .i64 b.x, .int .i64 b.y] 33 := by rw [hW]; exact Bb
  replace Bc : Box W6 (w.heap.size + 1 + 1) [.int .i64 c.x, .int .i64 c.y] 33 := by rw [hW]; exact Bc
  replace Bd : Box W6 (w.heap.size + 1 + 1 + 1) [.int .i64 d.x, .int .i64 d.y] 33 := by rw [hW]; exact Bd
  clear hW
  clear xa ya za va xb yb zb vb xc yc zc vc xd yd zd vd
  have ga := Ba.cells
  have gb := Bb.cells
  have gc := Bc.cells
  have gd := Bd.cells
  refine wp_region_tail 16 (by kernel_rfl) (by kernel_rfl) (C := fun w' => ∃ p : Regrown, w' = grow (redrawn W6 p.d) p.os) (fun w' h => regrown_of_below h) ?_
  simp only [List.take_succ_cons, List.take_zero, List.drop_succ_cons, List.drop_zero]
  repeat (first | (refine rWalk_skip (Eq.refl false) ?_; simp only [Act.put, List.setIfInBounds_toArray, List.set_cons_succ, List.set_cons_zero]) | (refine rWalk_step (fun K hK => ?_); go_simp; first | (refine hK _ ?_; clear hK K) | (apply Exists.intro; refine ⟨fun _ => ?_, hK _ ?_⟩; (first | with_reducible exact toExt o1 _ | with_reducible exact toExt o2 _ | with_reducible exact toExt o3 _ | with_reducible exact toExt o4 _); clear hK K)))
  refine rWalk_nil ?_
  intro w7 hb
  clear ga gb gc gd
  replace Ba := Ba.ext hb rfl
  replace Bb := Bb.ext hb rfl
  replace Bc := Bc.ext hb rfl
  replace Bd := Bd.ext hb rfl
  replace hw := hw.trans (hb.mono hw.size)
  obtain ⟨xa, ya, za, va⟩ := Ba.facts
  obtain ⟨xb, yb, zb, vb⟩ := Bb.facts
  obtain ⟨xc, yc, zc, vc⟩ := Bc.facts
  obtain ⟨xd, yd, zd, vd⟩ := Bd.facts
  go_wp2
  refine at_world fun W8 hW => ?_
  replace hw : Below w.heap.size w W8 := by rw [hW]; exact hw
  replace Ba : Box W8 (w.heap.size) [.int .i64 a.x, .int .i64 a.y] 33 := by rw [hW]; exact Ba
  replace Bb : Box W8 (w.heap.size + 1) [.int .i64 b.x, .int .i64 b.y] 33 := by rw [hW]; exact Bb
  replace Bc : Box W8 (w.heap.size + 1 + 1) [.int .i64 c.x, .int .i64 c.y] 33 := by rw [hW]; exact Bc
  replace Bd : Box W8 (w.heap.size + 1 + 1 + 1) [.int .i64 d.x, .int .i64 d.y] 33 := by rw [hW]; exact Bd
  clear hW
  clear xa ya za va xb yb zb vb xc yc zc vc xd yd zd vd
  have ga := Ba.cells
  have gb := Bb.cells
  have gc := Bc.cells
  have gd := Bd.cells
  refine wp_region_tail 16 (by kernel_rfl) (by kernel_rfl) (C := fun w' => ∃ p : Regrown, w' = grow (redrawn W8 p.d) p.os) (fun w' h => regrown_of_below h) ?_
  simp only [List.take_succ_cons, List.take_zero, List.drop_succ_cons, List.drop_zero]
  repeat (first | (refine rWalk_skip (Eq.refl false) ?_; simp only [Act.put, List.setIfInBounds_toArray, List.set_cons_succ, List.set_cons_zero]) | (refine rWalk_step (fun K hK => ?_); go_simp; first | (refine hK _ ?_; clear hK K) | (apply Exists.intro; refine ⟨fun _ => ?_, hK _ ?_⟩; (first | with_reducible exact toExt u1 _ | with_reducible exact toExt u2 _ | with_reducible exact toExt u3 _ | with_reducible exact toExt u4 _); clear hK K)))
  refine rWalk_nil ?_
  intro w9 hb
  clear ga gb gc gd
  replace Ba := Ba.ext hb rfl
  replace Bb := Bb.ext hb rfl
  replace Bc := Bc.ext hb rfl
  replace Bd := Bd.ext hb rfl
  replace hw := hw.trans (hb.mono hw.size)
  go_wp2
  all_goals go_ret
  all_goals exact ⟨rfl, hw⟩

set_option maxRecDepth 100000 in
theorem rmeet_t3 (a b c d : Pt) (ha : vld a = true) (hb : vld b = true) (hc : vld c = true) (hd : vld d = true) (e1 : peqI a.x a.y b.x b.y = false) (e2 : peqI c.x c.y d.x d.y = false) (z1 : ori a b c = 0) (z2 : ¬ ori a b d = 0) (w : World) :
    Calls Try.prog 27 #[.agg #[.int .i64 a.x, .int .i64 a.y], .agg #[.int .i64 b.x, .int .i64 b.y], .agg #[.int .i64 c.x, .int .i64 c.y], .agg #[.int .i64 d.x, .int .i64 d.y]] w fun e w' => e = .returned (.int .i64 (mx4 (tch a c d) (tch b c d) (tch c a b) (tch d a b))) ∧ Below w.heap.size w w' := by
  have ca := rvalid_any a
  rw [ha] at ca
  clear ha
  have cb := rvalid_any b
  rw [hb] at cb
  clear hb
  have cc := rvalid_any c
  rw [hc] at cc
  clear hc
  have cd := rvalid_any d
  rw [hd] at cd
  clear hd
  have o1 := rorient_any a b c
  have o2 := rorient_any a b d
  have o3 := rorient_any c d a
  have o4 := rorient_any c d b
  have sC := ori_bd a b c
  have sD := ori_bd a b d
  have sA := ori_bd c d a
  have sB := ori_bd c d b
  have m2 := mul_bd1 sA sB
  rw [z1] at o1
  clear z1
  generalize ori a b d = D at *
  generalize ori c d a = A at *
  generalize ori c d b = B at *
  have t2 : (D == 0) = false := by simpa using z2
  clear z2
  have u1 := tch_any a c d
  have u2 := tch_any b c d
  have u3 := tch_any c a b
  have u4 := tch_any d a b
  generalize tch a c d = T1 at *
  generalize tch b c d = T2 at *
  generalize tch c a b = T3 at *
  generalize tch d a b = T4 at *
  go_enter Try.func27, Try.ntmps27
  go_wp2_with fail
  refine at_call fun W1 hW => ?_
  have Ba : Box W1 (w.heap.size) [.int .i64 a.x, .int .i64 a.y] 33 := by rw [hW]; exact (((Box.new rfl).old _).old _).old _
  have Bb : Box W1 (w.heap.size + 1) [.int .i64 b.x, .int .i64 b.y] 33 := by rw [hW]; exact ((Box.new (by simp)).old _).old _
  have Bc : Box W1 (w.heap.size + 1 + 1) [.int .i64 c.x, .int .i64 c.y] 33 := by rw [hW]; exact (Box.new (by simp)).old _
  have Bd : Box W1 (w.heap.size + 1 + 1 + 1) [.int .i64 d.x, .int .i64 d.y] 33 := by rw [hW]; exact Box.new (by simp)
  have hw : Below w.heap.size w W1 := by rw [hW]; go_grown
  clear hW
  refine (ca _).mono ?_
  rintro e w2 ⟨rfl, hb⟩
  replace Ba := Ba.ext hb rfl
  replace Bb := Bb.ext hb rfl
  replace Bc := Bc.ext hb rfl
  replace Bd := Bd.ext hb rfl
  replace hw := hw.trans (hb.mono hw.size)
  clear hb
  obtain ⟨xa, ya, za, va⟩ := Ba.facts
  obtain ⟨xb, yb, zb, vb⟩ := Bb.facts
  obtain ⟨xc, yc, zc, vc⟩ := Bc.facts
  obtain ⟨xd, yd, zd, vd⟩ := Bd.facts
  go_wp2_with fail
  refine (cb _).mono ?_
  rintro e w3 ⟨rfl, hb⟩
  clear xa ya za va xb yb zb vb xc yc zc vc xd yd zd vd
  replace Ba := Ba.ext hb rfl
  replace Bb := Bb.ext hb rfl
  replace Bc := Bc.ext hb rfl
  replace Bd := Bd.ext hb rfl
  replace hw := hw.trans (hb.mono hw.size)
  clear hb
  obtain ⟨xa, ya, za, va⟩ := Ba.facts
  obtain ⟨xb, yb, zb, vb⟩ := Bb.facts
  obtain ⟨xc, yc, zc, vc⟩ := Bc.facts
  obtain ⟨xd, yd, zd, vd⟩ := Bd.facts
  go_wp2_with fail
  refine (cc _).mono ?_
  rintro e w4 ⟨rfl, hb⟩
  clear xa ya za va xb yb zb vb xc yc zc vc xd yd zd vd
  replace Ba := Ba.ext hb rfl
  replace Bb := Bb.ext hb rfl
  replace Bc := Bc.ext hb rfl
  replace Bd := Bd.ext hb rfl
  replace hw := hw.trans (hb.mono hw.size)
  clear hb
  obtain ⟨xa, ya, za, va⟩ := Ba.facts
  obtain ⟨xb, yb, zb, vb⟩ := Bb.facts
  obtain ⟨xc, yc, zc, vc⟩ := Bc.facts
  obtain ⟨xd, yd, zd, vd⟩ := Bd.facts
  go_wp2_with fail
  refine (cd _).mono ?_
  rintro e w5 ⟨rfl, hb⟩
  clear xa ya za va xb yb zb vb xc yc zc vc xd yd zd vd
  replace Ba := Ba.ext hb rfl
  replace Bb := Bb.ext hb rfl
  replace Bc := Bc.ext hb rfl
  replace Bd := Bd.ext hb rfl
  replace hw := hw.trans (hb.mono hw.size)
  clear hb
  obtain ⟨xa, ya, za, va⟩ := Ba.facts
  obtain ⟨xb, yb, zb, vb⟩ := Bb.facts
  obtain ⟨xc, yc, zc, vc⟩ := Bc.facts
  obtain ⟨xd, yd, zd, vd⟩ := Bd.facts
  go_wp2
  refine at_world fun W6 hW => ?_
  replace hw : Below w.heap.size w W6 := by rw [hW]; exact hw
  replace Ba : Box W6 (w.heap.size) [.int .i64 a.x, .int .i64 a.y] 33 := by rw [hW]; exact Ba
  replace Bb : Box W6 (w.heap.size + 1) [.int .i64 b.x, .int .i64 b.y] 33 := by rw [hW]; exact Bb
  replace Bc : Box W6 (w.heap.size + 1 + 1) [.int .i64 c.x, .int .i64 c.y] 33 := by rw [hW]; exact Bc
  replace Bd : Box W6 (w.heap.size + 1 + 1 + 1) [.int .i64 d.x, .int .i64 d.y] 33 := by rw [hW]; exact Bd
  clear hW
  clear xa ya za va xb yb zb vb xc yc zc vc xd yd zd vd
  have ga := Ba.cells
  have gb := Bb.cells
  have gc := Bc.cells
  have gd := Bd.cells
  refine wp_region_tail 16 (by kernel_rfl) (by kernel_rfl) (C := fun w' => ∃ p : Regrown, w' = grow (redrawn W6 p.d) p.os) (fun w' h => regrown_of_below h) ?_
  simp only [List.take_succ_cons, List.take_zero, List.drop_succ_cons, List.drop_zero]
  repeat (first | (refine rWalk_skip (Eq.refl false) ?_; simp only [Act.put, List.setIfInBounds_toArray, List.set_cons_succ, List.set_cons_zero]) | (refine rWalk_step (fun K hK => ?_); go_simp; first | (refine hK _ ?_; clear hK K) | (apply Exists.intro; refine ⟨fun _ => ?_, hK _ ?_⟩; (first | with_reducible exact toExt o1 _ | with_reducible exact toExt o2 _ | with_reducible exact toExt o3 _ | with_reducible exact toExt o4 _); clear hK K)))
  refine rWalk_nil ?_
  intro w7 hb
  clear ga gb gc gd
  replace Ba := Ba.ext hb rfl
  replace Bb := Bb.ext hb rfl
  replace Bc := Bc.ext hb rfl
  replace Bd := Bd.ext hb rfl
  replace hw := hw.trans (hb.mono hw.size)
  obtain ⟨xa, ya, za, va⟩ := Ba.facts
  obtain ⟨xb, yb, zb, vb⟩ := Bb.facts
  obtain ⟨xc, yc, zc, vc⟩ := Bc.facts
  obtain ⟨xd, yd, zd, vd⟩ := Bd.facts
  go_wp2
  refine at_world fun W8 hW => ?_
  replace hw : Below w.heap.size w W8 := by rw [hW]; exact hw
  replace Ba : Box W8 (w.heap.size) [.int .i64 a.x, .int .i64 a.y] 33 := by rw [hW]; exact Ba
  replace Bb : Box W8 (w.heap.size + 1) [.int .i64 b.x, .int .i64 b.y] 33 := by rw [hW]; exact Bb
  replace Bc : Box W8 (w.heap.size + 1 + 1) [.int .i64 c.x, .int .i64 c.y] 33 := by rw [hW]; exact Bc
  replace Bd : Box W8 (w.heap.size + 1 + 1 + 1) [.int .i64 d.x, .int .i64 d.y] 33 := by rw [hW]; exact Bd
  clear hW
  clear xa ya za va xb yb zb vb xc yc zc vc xd yd zd vd
  have ga := Ba.cells
  have gb := Bb.cells
  have gc := Bc.cells
  have gd := Bd.cells
  refine wp_region_tail 16 (by kernel_rfl) (by kernel_rfl) (C := fun w' => ∃ p : Regrown, w' = grow (redrawn W8 p.d) p.os) (fun w' h => regrown_of_below h) ?_
  simp only [List.take_succ_cons, List.take_zero, List.drop_succ_cons, List.drop_zero]
  repeat (first | (refine rWalk_skip (Eq.refl false) ?_; simp only [Act.put, List.setIfInBounds_toArray, List.set_cons_succ, List.set_cons_zero]) | (refine rWalk_step (fun K hK => ?_); go_simp; first | (refine hK _ ?_; clear hK K) | (apply Exists.intro; refine ⟨fun _ => ?_, hK _ ?_⟩; (first | with_reducible exact toExt u1 _ | with_reducible exact toExt u2 _ | with_reducible exact toExt u3 _ | with_reducible exact toExt u4 _); clear hK K)))
  refine rWalk_nil ?_
  intro w9 hb
  clear ga gb gc gd
  replace Ba := Ba.ext hb rfl
  replace Bb := Bb.ext hb rfl
  replace Bc := Bc.ext hb rfl
  replace Bd := Bd.ext hb rfl
  replace hw := hw.trans (hb.mono hw.size)
  go_wp2
  all_goals go_ret
  all_goals exact ⟨rfl, hw⟩

theorem rmeet_any (a b c d : Pt) (w : World) :
    Calls Try.prog 27 #[.agg #[.int .i64 a.x, .int .i64 a.y], .agg #[.int .i64 b.x, .int .i64 b.y], .agg #[.int .i64 c.x, .int .i64 c.y], .agg #[.int .i64 d.x, .int .i64 d.y]] w fun e w' => e = .returned (.int .i64 (meetR a b c d)) ∧ Below w.heap.size w w' := by
  cases ha : vld a with
  | false => rw [show meetR a b c d = 0 by unfold meetR; rw [if_pos ha]]; exact rmeet_v0 a b c d ha w
  | true =>
  have n_ha : ¬ vld a = false := by rw [ha]; simp
  cases hb : vld b with
  | false => rw [show meetR a b c d = 0 by unfold meetR; rw [if_neg n_ha, if_pos hb]]; exact rmeet_v1 a b c d ha hb w
  | true =>
  have n_hb : ¬ vld b = false := by rw [hb]; simp
  cases hc : vld c with
  | false => rw [show meetR a b c d = 0 by unfold meetR; rw [if_neg n_ha, if_neg n_hb, if_pos hc]]; exact rmeet_v2 a b c d ha hb hc w
  | true =>
  have n_hc : ¬ vld c = false := by rw [hc]; simp
  cases hd : vld d with
  | false => rw [show meetR a b c d = 0 by unfold meetR; rw [if_neg n_ha, if_neg n_hb, if_neg n_hc, if_pos hd]]; exact rmeet_v3 a b c d ha hb hc hd w
  | true =>
  have n_hd : ¬ vld d = false := by rw [hd]; simp
  cases e1 : peqI a.x a.y b.x b.y with
  | true => rw [show meetR a b c d = 0 by unfold meetR; rw [if_neg n_ha, if_neg n_hb, if_neg n_hc, if_neg n_hd, if_pos e1]]; exact rmeet_e1 a b c d ha hb hc hd e1 w
  | false =>
  have n_e1 : ¬ peqI a.x a.y b.x b.y = true := by rw [e1]; simp
  cases e2 : peqI c.x c.y d.x d.y with
  | true => rw [show meetR a b c d = 0 by unfold meetR; rw [if_neg n_ha, if_neg n_hb, if_neg n_hc, if_neg n_hd, if_neg n_e1, if_pos e2]]; exact rmeet_e2 a b c d ha hb hc hd e1 e2 w
  | false =>
  have n_e2 : ¬ peqI c.x c.y d.x d.y = true := by rw [e2]; simp
  by_cases z1 : ori a b c = 0
  · by_cases z2 : ori a b d = 0
    · rw [show meetR a b c d = lap a b c d by unfold meetR; rw [if_neg n_ha, if_neg n_hb, if_neg n_hc, if_neg n_hd, if_neg n_e1, if_neg n_e2, if_pos ⟨z1, z2⟩]]
      by_cases hk : cmpP (rg (rl a b) (rl c d)) (rl (rg a b) (rg c d)) < 0
      · rw [show lap a b c d = 3 by unfold lap; rw [if_pos hk]]; exact rmeet_l1 a b c d ha hb hc hd e1 e2 z1 z2 (by simpa using hk) w
      · rw [show lap a b c d = 0 by unfold lap; rw [if_neg hk]]; exact rmeet_l0 a b c d ha hb hc hd e1 e2 z1 z2 (by simpa using hk) w
    · rw [show meetR a b c d = mx4 (tch a c d) (tch b c d) (tch c a b) (tch d a b) by unfold meetR; rw [if_neg n_ha, if_neg n_hb, if_neg n_hc, if_neg n_hd, if_neg n_e1, if_neg n_e2, if_neg (fun h => z2 h.2), if_neg (fun h => by have := h.1; rw [z1] at this; simp at this)]]
      exact rmeet_t3 a b c d ha hb hc hd e1 e2 z1 z2 w
  · by_cases x1 : ori a b c * ori a b d < 0
    · by_cases x2 : ori c d a * ori c d b < 0
      · rw [show meetR a b c d = 1 by unfold meetR; rw [if_neg n_ha, if_neg n_hb, if_neg n_hc, if_neg n_hd, if_neg n_e1, if_neg n_e2, if_neg (fun h => z1 h.1), if_pos ⟨x1, x2⟩]]; exact rmeet_x a b c d ha hb hc hd e1 e2 z1 x1 x2 w
      · rw [show meetR a b c d = mx4 (tch a c d) (tch b c d) (tch c a b) (tch d a b) by unfold meetR; rw [if_neg n_ha, if_neg n_hb, if_neg n_hc, if_neg n_hd, if_neg n_e1, if_neg n_e2, if_neg (fun h => z1 h.1), if_neg (fun h => x2 h.2)]]; exact rmeet_t2 a b c d ha hb hc hd e1 e2 z1 x1 x2 w
    · rw [show meetR a b c d = mx4 (tch a c d) (tch b c d) (tch c a b) (tch d a b) by unfold meetR; rw [if_neg n_ha, if_neg n_hb, if_neg n_hc, if_neg n_hd, if_neg n_e1, if_neg n_e2, if_neg (fun h => z1 h.1), if_neg (fun h => x1 h.1)]]; exact rmeet_t1 a b c d ha hb hc hd e1 e2 z1 x1 w
end Go.Proofs.Ytnocdecimcpkfaa
