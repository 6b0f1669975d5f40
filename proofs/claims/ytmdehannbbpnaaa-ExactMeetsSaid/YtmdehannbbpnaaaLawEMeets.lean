/- How two segments meet is the same from whichever end, and whichever is named first; one meets itself all along: the law ExactMeets of package hectarelaw2 answers true at every input; no conditions. -/
import Derived.Test.YtmdehannbbpnaaaRows
import Derived.Test.YtmdehannbbpnaaaExS
import Derived.Test.YtmdehannbbpnaaaExT
import Derived.Test.YtmdehannbbpnaaaPost
import Derived.WalkKit
import Derived.WalkSpells
import Derived.WalkLawsBesides
import Derived.Deep.QuietTactic
import Derived.BigQuiet
import Derived.Lib.Hide
import Derived.Handy
import Derived.ProofKit
import Derived.Lib.SmallJoins
namespace Go.Proofs.Ytmdehannbbpnaaa
open Go.RowKit Go.Sort Go.ChangeShapes Go.WideShapes Go.ChangeAt
attribute [local go_sem] rOper rAt rUpon cell_set sg_i64 sg_u64 alloc_cell alloc_frozen
attribute [local go_sem 10000] pt_eql pt_neq
attribute [local irreducible] rWalk

set_option maxRecDepth 100000 in
set_option maxHeartbeats 4000000 in
theorem meets_A (a b c d : Pt) (ha : vld a = false) (w : World) :
    Calls Try.prog 6 #[.agg #[.int .i64 a.x, .int .i64 a.y], .agg #[.int .i64 b.x, .int .i64 b.y], .agg #[.int .i64 c.x, .int .i64 c.y], .agg #[.int .i64 d.x, .int .i64 d.y]] w fun e w' => e = .returned (.bool true) ∧ Below w.heap.size w w' := by
  have n0 := meet_bd a b c d
  have m0 := meet_any a b c d
  have m1 := meet_any b a c d
  have m2 := meet_any a b d c
  have m3 := meet_any c d a b
  have m4 := meet_any a b b a
  have E1 := Lib.hid (@meet_one a b c d)
  have E2 := Lib.hid (@meet_two a b c d)
  rw [meet_sw1] at m1
  rw [meet_sw2] at m2
  rw [meet_sw3] at m3
  have rva := rvalid_any a
  have rvb := rvalid_any b
  have o1 := orient_any a b c
  have o2 := orient_any a b d
  have o3 := orient_any c d a
  have o4 := orient_any c d b
  have u1 := on_any a c d
  have u2 := on_any b c d
  have u3 := on_any c a b
  have u4 := on_any d a b
  rw [meet_no_self (.inl ha)] at m4
  rw [ha] at rva
  clear ha
  generalize meetS a b c d = n at *
  generalize ori a b c = O1 at *
  generalize ori a b d = O2 at *
  generalize ori c d a = O3 at *
  generalize ori c d b = O4 at *
  generalize onS a c d = X1 at *
  generalize onS b c d = X2 at *
  generalize onS c a b = X3 at *
  generalize onS d a b = X4 at *
  obtain ⟨n0, n3⟩ := n0
  have b0 : decide (n < 0) = false := by simp; omega
  have b3 : decide (3 < n) = false := by simp; omega
  go_enter Try.func6, Try.ntmps6
  go_wp2_with fail
  refine at_call fun W1 hW => ?_
  have Ba : Box W1 (w.heap.size) [.int .i64 a.x, .int .i64 a.y] 23 := by rw [hW]; exact (((Box.new rfl).old _).old _).old _
  have Bb : Box W1 (w.heap.size + 1) [.int .i64 b.x, .int .i64 b.y] 23 := by rw [hW]; exact ((Box.new (by simp)).old _).old _
  have Bc : Box W1 (w.heap.size + 1 + 1) [.int .i64 c.x, .int .i64 c.y] 23 := by rw [hW]; exact (Box.new (by simp)).old _
  have Bd : Box W1 (w.heap.size + 1 + 1 + 1) [.int .i64 d.x, .int .i64 d.y] 23 := by rw [hW]; exact Box.new (by simp)
  have hw : Below w.heap.size w W1 := by rw [hW]; go_grown
  clear hW
  refine (m0 _).mono ?_
  rintro e w2 ⟨rfl, hb⟩
  replace Ba := Ba.ext hb rfl
  replace Bb := Bb.ext hb rfl
  replace Bc := Bc.ext hb rfl
  replace Bd := Bd.ext hb rfl
  replace hw := hw.trans (hb.mono hw.size)
  clear hb
  obtain ⟨xa, ya, za, va⟩ := Ba.facts
  obtain ⟨xb, yb, zb, vb⟩ := Bb.facts
  obtain ⟨xc, yc, zc, vc⟩ := Bc.facts
  obtain ⟨xd, yd, zd, vd⟩ := Bd.facts
  go_wp2_with fail
  refine (rva _).mono ?_
  rintro e w3 ⟨rfl, hb⟩
  clear xa ya za va xb yb zb vb xc yc zc vc xd yd zd vd
  replace Ba := Ba.ext hb rfl
  replace Bb := Bb.ext hb rfl
  replace Bc := Bc.ext hb rfl
  replace Bd := Bd.ext hb rfl
  replace hw := hw.trans (hb.mono hw.size)
  clear hb
  obtain ⟨xa, ya, za, va⟩ := Ba.facts
  obtain ⟨xb, yb, zb, vb⟩ := Bb.facts
  obtain ⟨xc, yc, zc, vc⟩ := Bc.facts
  obtain ⟨xd, yd, zd, vd⟩ := Bd.facts
  go_wp2_with fail
  refine (m1 _).mono ?_
  rintro e w4 ⟨rfl, hb⟩
  clear xa ya za va xb yb zb vb xc yc zc vc xd yd zd vd
  replace Ba := Ba.ext hb rfl
  replace Bb := Bb.ext hb rfl
  replace Bc := Bc.ext hb rfl
  replace Bd := Bd.ext hb rfl
  replace hw := hw.trans (hb.mono hw.size)
  clear hb
  obtain ⟨xa, ya, za, va⟩ := Ba.facts
  obtain ⟨xb, yb, zb, vb⟩ := Bb.facts
  obtain ⟨xc, yc, zc, vc⟩ := Bc.facts
  obtain ⟨xd, yd, zd, vd⟩ := Bd.facts
  go_wp2_with fail
  refine (m2 _).mono ?_
  rintro e w5 ⟨rfl, hb⟩
  clear xa ya za va xb yb zb vb xc yc zc vc xd yd zd vd
  replace Ba := Ba.ext hb rfl
  replace Bb := Bb.ext hb rfl
  replace Bc := Bc.ext hb rfl
  replace Bd := Bd.ext hb rfl
  replace hw := hw.trans (hb.mono hw.size)
  clear hb
  obtain ⟨xa, ya, za, va⟩ := Ba.facts
  obtain ⟨xb, yb, zb, vb⟩ := Bb.facts
  obtain ⟨xc, yc, zc, vc⟩ := Bc.facts
  obtain ⟨xd, yd, zd, vd⟩ := Bd.facts
  go_wp2_with fail
  refine (m3 _).mono ?_
  rintro e w6 ⟨rfl, hb⟩
  clear xa ya za va xb yb zb vb xc yc zc vc xd yd zd vd
  replace Ba := Ba.ext hb rfl
  replace Bb := Bb.ext hb rfl
  replace Bc := Bc.ext hb rfl
  replace Bd := Bd.ext hb rfl
  replace hw := hw.trans (hb.mono hw.size)
  clear hb
  obtain ⟨xa, ya, za, va⟩ := Ba.facts
  obtain ⟨xb, yb, zb, vb⟩ := Bb.facts
  obtain ⟨xc, yc, zc, vc⟩ := Bc.facts
  obtain ⟨xd, yd, zd, vd⟩ := Bd.facts
  go_wp2_with fail
  refine (m4 _).mono ?_
  rintro e w7 ⟨rfl, hb⟩
  clear xa ya za va xb yb zb vb xc yc zc vc xd yd zd vd
  replace Ba := Ba.ext hb rfl
  replace Bb := Bb.ext hb rfl
  replace Bc := Bc.ext hb rfl
  replace Bd := Bd.ext hb rfl
  replace hw := hw.trans (hb.mono hw.size)
  clear hb
  by_cases hn : n = 1
  · obtain ⟨w1, w2⟩ := E1.out hn
    clear E1 E2
    have t1 : (n == 1) = true := by simpa using hn
    clear hn
    have y1 : IntKind.i64.wrap (O1 * O2) = -1 := by rw [w1]; decide
    have y2 : IntKind.i64.wrap (O3 * O4) = -1 := by rw [w2]; decide
    clear w1 w2
    obtain ⟨xa, ya, za, va⟩ := Ba.facts
    obtain ⟨xb, yb, zb, vb⟩ := Bb.facts
    obtain ⟨xc, yc, zc, vc⟩ := Bc.facts
    obtain ⟨xd, yd, zd, vd⟩ := Bd.facts
    go_wp2
    refine at_world fun W8 hW => ?_
    replace hw : Below w.heap.size w W8 := by rw [hW]; exact hw
    replace Ba : Box W8 (w.heap.size) [.int .i64 a.x, .int .i64 a.y] 23 := by rw [hW]; exact Ba
    replace Bb : Box W8 (w.heap.size + 1) [.int .i64 b.x, .int .i64 b.y] 23 := by rw [hW]; exact Bb
    replace Bc : Box W8 (w.heap.size + 1 + 1) [.int .i64 c.x, .int .i64 c.y] 23 := by rw [hW]; exact Bc
    replace Bd : Box W8 (w.heap.size + 1 + 1 + 1) [.int .i64 d.x, .int .i64 d.y] 23 := by rw [hW]; exact Bd
    clear hW
    clear xa ya za va xb yb zb vb xc yc zc vc xd yd zd vd
    have ga := Ba.cells
    have gb := Bb.cells
    have gc := Bc.cells
    have gd := Bd.cells
    refine wp_region_tail 25 (by kernel_rfl) (by kernel_rfl) (C := fun w' => ∃ p : Regrown, w' = grow (redrawn W8 p.d) p.os) (fun w' h => regrown_of_below h) ?_
    simp only [List.take_succ_cons, List.take_zero, List.drop_succ_cons, List.drop_zero]
    repeat (first | (refine rWalk_skip (Eq.refl false) ?_; simp only [Act.put, List.setIfInBounds_toArray, List.set_cons_succ, List.set_cons_zero]) | (refine rWalk_step (fun K hK => ?_); go_simp; first | (refine hK _ ?_; clear hK K) | (apply Exists.intro; refine ⟨fun _ => ?_, hK _ ?_⟩; (first | with_reducible exact toExt o1 _ | with_reducible exact toExt o2 _ | with_reducible exact toExt o3 _ | with_reducible exact toExt o4 _ | with_reducible exact toExt awake_any _); clear hK K)))
    refine rWalk_nil ?_
    intro w9 hb
    clear ga gb gc gd
    replace Ba := Ba.ext hb rfl
    replace Bb := Bb.ext hb rfl
    replace Bc := Bc.ext hb rfl
    replace Bd := Bd.ext hb rfl
    replace hw := hw.trans (hb.mono hw.size)
    go_wp2
    go_ret
    exact ⟨rfl, hw⟩
  · have t1 : (n == 1) = false := by simpa using hn
    have E3 := Lib.hid (fun h2 : 2 ≤ n => E2.out h2)
    clear E1 E2 hn
    cases X1
    · cases X2
      · cases X3
        · cases X4
          · have t2 : decide (n < 2) = true := by
              by_cases h2 : 2 ≤ n
              · have := E3.out h2; simp at this
              · simp; omega
            clear E3
            obtain ⟨xa, ya, za, va⟩ := Ba.facts
            obtain ⟨xb, yb, zb, vb⟩ := Bb.facts
            obtain ⟨xc, yc, zc, vc⟩ := Bc.facts
            obtain ⟨xd, yd, zd, vd⟩ := Bd.facts
            go_wp2_with fail
            refine (u1 _).mono ?_
            rintro e w8 ⟨rfl, hb⟩
            clear xa ya za va xb yb zb vb xc yc zc vc xd yd zd vd
            replace Ba := Ba.ext hb rfl
            replace Bb := Bb.ext hb rfl
            replace Bc := Bc.ext hb rfl
            replace Bd := Bd.ext hb rfl
            replace hw := hw.trans (hb.mono hw.size)
            clear hb
            obtain ⟨xa, ya, za, va⟩ := Ba.facts
            obtain ⟨xb, yb, zb, vb⟩ := Bb.facts
            obtain ⟨xc, yc, zc, vc⟩ := Bc.facts
            obtain ⟨xd, yd, zd, vd⟩ := Bd.facts
            go_wp2_with fail
            refine (u2 _).mono ?_
            rintro e w9 ⟨rfl, hb⟩
            clear xa ya za va xb yb zb vb xc yc zc vc xd yd zd vd
            replace Ba := Ba.ext hb rfl
            replace Bb := Bb.ext hb rfl
            replace Bc := Bc.ext hb rfl
            replace Bd := Bd.ext hb rfl
            replace hw := hw.trans (hb.mono hw.size)
            clear hb
            obtain ⟨xa, ya, za, va⟩ := Ba.facts
            obtain ⟨xb, yb, zb, vb⟩ := Bb.facts
            obtain ⟨xc, yc, zc, vc⟩ := Bc.facts
            obtain ⟨xd, yd, zd, vd⟩ := Bd.facts
            go_wp2_with fail
            refine (u3 _).mono ?_
            rintro e w10 ⟨rfl, hb⟩
            clear xa ya za va xb yb zb vb xc yc zc vc xd yd zd vd
            replace Ba := Ba.ext hb rfl
            replace Bb := Bb.ext hb rfl
            replace Bc := Bc.ext hb rfl
            replace Bd := Bd.ext hb rfl
            replace hw := hw.trans (hb.mono hw.size)
            clear hb
            obtain ⟨xa, ya, za, va⟩ := Ba.facts
            obtain ⟨xb, yb, zb, vb⟩ := Bb.facts
            obtain ⟨xc, yc, zc, vc⟩ := Bc.facts
            obtain ⟨xd, yd, zd, vd⟩ := Bd.facts
            go_wp2_with fail
            refine (u4 _).mono ?_
            rintro e w11 ⟨rfl, hb⟩
            clear xa ya za va xb yb zb vb xc yc zc vc xd yd zd vd
            replace Ba := Ba.ext hb rfl
            replace Bb := Bb.ext hb rfl
            replace Bc := Bc.ext hb rfl
            replace Bd := Bd.ext hb rfl
            replace hw := hw.trans (hb.mono hw.size)
            clear hb
            obtain ⟨xa, ya, za, va⟩ := Ba.facts
            obtain ⟨xb, yb, zb, vb⟩ := Bb.facts
            obtain ⟨xc, yc, zc, vc⟩ := Bc.facts
            obtain ⟨xd, yd, zd, vd⟩ := Bd.facts
            go_wp2_with fail
            refine (awake_any _).mono ?_
            rintro e w12 ⟨rfl, hb⟩
            clear xa ya za va xb yb zb vb xc yc zc vc xd yd zd vd
            replace Ba := Ba.ext hb rfl
            replace Bb := Bb.ext hb rfl
            replace Bc := Bc.ext hb rfl
            replace Bd := Bd.ext hb rfl
            replace hw := hw.trans (hb.mono hw.size)
            clear hb
            go_wp2
            go_ret
            exact ⟨rfl, hw⟩
          · have t2 : decide (n < 2) = true ∨ decide (n < 2) = false := by cases decide (n < 2) <;> simp
            clear E3
            rcases t2 with t2 | t2
            · obtain ⟨xa, ya, za, va⟩ := Ba.facts
              obtain ⟨xb, yb, zb, vb⟩ := Bb.facts
              obtain ⟨xc, yc, zc, vc⟩ := Bc.facts
              obtain ⟨xd, yd, zd, vd⟩ := Bd.facts
              go_wp2_with fail
              refine (u1 _).mono ?_
              rintro e w8 ⟨rfl, hb⟩
              clear xa ya za va xb yb zb vb xc yc zc vc xd yd zd vd
              replace Ba := Ba.ext hb rfl
              replace Bb := Bb.ext hb rfl
              replace Bc := Bc.ext hb rfl
              replace Bd := Bd.ext hb rfl
              replace hw := hw.trans (hb.mono hw.size)
              clear hb
              obtain ⟨xa, ya, za, va⟩ := Ba.facts
              obtain ⟨xb, yb, zb, vb⟩ := Bb.facts
              obtain ⟨xc, yc, zc, vc⟩ := Bc.facts
              obtain ⟨xd, yd, zd, vd⟩ := Bd.facts
              go_wp2_with fail
              refine (u2 _).mono ?_
              rintro e w9 ⟨rfl, hb⟩
              clear xa ya za va xb yb zb vb xc yc zc vc xd yd zd vd
              replace Ba := Ba.ext hb rfl
              replace Bb := Bb.ext hb rfl
              replace Bc := Bc.ext hb rfl
              replace Bd := Bd.ext hb rfl
              replace hw := hw.trans (hb.mono hw.size)
              clear hb
              obtain ⟨xa, ya, za, va⟩ := Ba.facts
              obtain ⟨xb, yb, zb, vb⟩ := Bb.facts
              obtain ⟨xc, yc, zc, vc⟩ := Bc.facts
              obtain ⟨xd, yd, zd, vd⟩ := Bd.facts
              go_wp2_with fail
              refine (u3 _).mono ?_
              rintro e w10 ⟨rfl, hb⟩
              clear xa ya za va xb yb zb vb xc yc zc vc xd yd zd vd
              replace Ba := Ba.ext hb rfl
              replace Bb := Bb.ext hb rfl
              replace Bc := Bc.ext hb rfl
              replace Bd := Bd.ext hb rfl
              replace hw := hw.trans (hb.mono hw.size)
              clear hb
              obtain ⟨xa, ya, za, va⟩ := Ba.facts
              obtain ⟨xb, yb, zb, vb⟩ := Bb.facts
              obtain ⟨xc, yc, zc, vc⟩ := Bc.facts
              obtain ⟨xd, yd, zd, vd⟩ := Bd.facts
              go_wp2_with fail
              refine (u4 _).mono ?_
              rintro e w11 ⟨rfl, hb⟩
              clear xa ya za va xb yb zb vb xc yc zc vc xd yd zd vd
              replace Ba := Ba.ext hb rfl
              replace Bb := Bb.ext hb rfl
              replace Bc := Bc.ext hb rfl
              replace Bd := Bd.ext hb rfl
              replace hw := hw.trans (hb.mono hw.size)
              clear hb
              obtain ⟨xa, ya, za, va⟩ := Ba.facts
              obtain ⟨xb, yb, zb, vb⟩ := Bb.facts
              obtain ⟨xc, yc, zc, vc⟩ := Bc.facts
              obtain ⟨xd, yd, zd, vd⟩ := Bd.facts
              go_wp2_with fail
              refine (awake_any _).mono ?_
              rintro e w12 ⟨rfl, hb⟩
              clear xa ya za va xb yb zb vb xc yc zc vc xd yd zd vd
              replace Ba := Ba.ext hb rfl
              replace Bb := Bb.ext hb rfl
              replace Bc := Bc.ext hb rfl
              replace Bd := Bd.ext hb rfl
              replace hw := hw.trans (hb.mono hw.size)
              clear hb
              go_wp2
              go_ret
              exact ⟨rfl, hw⟩
            · obtain ⟨xa, ya, za, va⟩ := Ba.facts
              obtain ⟨xb, yb, zb, vb⟩ := Bb.facts
              obtain ⟨xc, yc, zc, vc⟩ := Bc.facts
              obtain ⟨xd, yd, zd, vd⟩ := Bd.facts
              go_wp2_with fail
              refine (u1 _).mono ?_
              rintro e w8 ⟨rfl, hb⟩
              clear xa ya za va xb yb zb vb xc yc zc vc xd yd zd vd
              replace Ba := Ba.ext hb rfl
              replace Bb := Bb.ext hb rfl
              replace Bc := Bc.ext hb rfl
              replace Bd := Bd.ext hb rfl
              replace hw := hw.trans (hb.mono hw.size)
              clear hb
              obtain ⟨xa, ya, za, va⟩ := Ba.facts
              obtain ⟨xb, yb, zb, vb⟩ := Bb.facts
              obtain ⟨xc, yc, zc, vc⟩ := Bc.facts
              obtain ⟨xd, yd, zd, vd⟩ := Bd.facts
              go_wp2_with fail
              refine (u2 _).mono ?_
              rintro e w9 ⟨rfl, hb⟩
              clear xa ya za va xb yb zb vb xc yc zc vc xd yd zd vd
              replace Ba := Ba.ext hb rfl
              replace Bb := Bb.ext hb rfl
              replace Bc := Bc.ext hb rfl
              replace Bd := Bd.ext hb rfl
              replace hw := hw.trans (hb.mono hw.size)
              clear hb
              obtain ⟨xa, ya, za, va⟩ := Ba.facts
              obtain ⟨xb, yb, zb, vb⟩ := Bb.facts
              obtain ⟨xc, yc, zc, vc⟩ := Bc.facts
              obtain ⟨xd, yd, zd, vd⟩ := Bd.facts
              go_wp2_with fail
              refine (u3 _).mono ?_
              rintro e w10 ⟨rfl, hb⟩
              clear xa ya za va xb yb zb vb xc yc zc vc xd yd zd vd
              replace Ba := Ba.ext hb rfl
              replace Bb := Bb.ext hb rfl
              replace Bc := Bc.ext hb rfl
              replace Bd := Bd.ext hb rfl
              replace hw := hw.trans (hb.mono hw.size)
              clear hb
              obtain ⟨xa, ya, za, va⟩ := Ba.facts
              obtain ⟨xb, yb, zb, vb⟩ := Bb.facts
              obtain ⟨xc, yc, zc, vc⟩ := Bc.facts
              obtain ⟨xd, yd, zd, vd⟩ := Bd.facts
              go_wp2_with fail
              refine (u4 _).mono ?_
              rintro e w11 ⟨rfl, hb⟩
              clear xa ya za va xb yb zb vb xc yc zc vc xd yd zd vd
              replace Ba := Ba.ext hb rfl
              replace Bb := Bb.ext hb rfl
              replace Bc := Bc.ext hb rfl
              replace Bd := Bd.ext hb rfl
              replace hw := hw.trans (hb.mono hw.size)
              clear hb
              obtain ⟨xa, ya, za, va⟩ := Ba.facts
              obtain ⟨xb, yb, zb, vb⟩ := Bb.facts
              obtain ⟨xc, yc, zc, vc⟩ := Bc.facts
              obtain ⟨xd, yd, zd, vd⟩ := Bd.facts
              go_wp2_with fail
              refine (awake_any _).mono ?_
              rintro e w12 ⟨rfl, hb⟩
              clear xa ya za va xb yb zb vb xc yc zc vc xd yd zd vd
              replace Ba := Ba.ext hb rfl
              replace Bb := Bb.ext hb rfl
              replace Bc := Bc.ext hb rfl
              replace Bd := Bd.ext hb rfl
              replace hw := hw.trans (hb.mono hw.size)
              clear hb
              go_wp2
              go_ret
              exact ⟨rfl, hw⟩
        · have t2 : decide (n < 2) = true ∨ decide (n < 2) = false := by cases decide (n < 2) <;> simp
          clear E3
          rcases t2 with t2 | t2
          · obtain ⟨xa, ya, za, va⟩ := Ba.facts
            obtain ⟨xb, yb, zb, vb⟩ := Bb.facts
            obtain ⟨xc, yc, zc, vc⟩ := Bc.facts
            obtain ⟨xd, yd, zd, vd⟩ := Bd.facts
            go_wp2_with fail
            refine (u1 _).mono ?_
            rintro e w8 ⟨rfl, hb⟩
            clear xa ya za va xb yb zb vb xc yc zc vc xd yd zd vd
            replace Ba := Ba.ext hb rfl
            replace Bb := Bb.ext hb rfl
            replace Bc := Bc.ext hb rfl
            replace Bd := Bd.ext hb rfl
            replace hw := hw.trans (hb.mono hw.size)
            clear hb
            obtain ⟨xa, ya, za, va⟩ := Ba.facts
            obtain ⟨xb, yb, zb, vb⟩ := Bb.facts
            obtain ⟨xc, yc, zc, vc⟩ := Bc.facts
            obtain ⟨xd, yd, zd, vd⟩ := Bd.facts
            go_wp2_with fail
            refine (u2 _).mono ?_
            rintro e w9 ⟨rfl, hb⟩
            clear xa ya za va xb yb zb vb xc yc zc vc xd yd zd vd
            replace Ba := Ba.ext hb rfl
            replace Bb := Bb.ext hb rfl
            replace Bc := Bc.ext hb rfl
            replace Bd := Bd.ext hb rfl
            replace hw := hw.trans (hb.mono hw.size)
            clear hb
            obtain ⟨xa, ya, za, va⟩ := Ba.facts
            obtain ⟨xb, yb, zb, vb⟩ := Bb.facts
            obtain ⟨xc, yc, zc, vc⟩ := Bc.facts
            obtain ⟨xd, yd, zd, vd⟩ := Bd.facts
            go_wp2_with fail
            refine (u3 _).mono ?_
            rintro e w10 ⟨rfl, hb⟩
            clear xa ya za va xb yb zb vb xc yc zc vc xd yd zd vd
            replace Ba := Ba.ext hb rfl
            replace Bb := Bb.ext hb rfl
            replace Bc := Bc.ext hb rfl
            replace Bd := Bd.ext hb rfl
            replace hw := hw.trans (hb.mono hw.size)
            clear hb
            obtain ⟨xa, ya, za, va⟩ := Ba.facts
            obtain ⟨xb, yb, zb, vb⟩ := Bb.facts
            obtain ⟨xc, yc, zc, vc⟩ := Bc.facts
            obtain ⟨xd, yd, zd, vd⟩ := Bd.facts
            go_wp2_with fail
            refine (awake_any _).mono ?_
            rintro e w11 ⟨rfl, hb⟩
            clear xa ya za va xb yb zb vb xc yc zc vc xd yd zd vd
            replace Ba := Ba.ext hb rfl
            replace Bb := Bb.ext hb rfl
            replace Bc := Bc.ext hb rfl
            replace Bd := Bd.ext hb rfl
            replace hw := hw.trans (hb.mono hw.size)
            clear hb
            go_wp2
            go_ret
            exact ⟨rfl, hw⟩
          · obtain ⟨xa, ya, za, va⟩ := Ba.facts
            obtain ⟨xb, yb, zb, vb⟩ := Bb.facts
            obtain ⟨xc, yc, zc, vc⟩ := Bc.facts
            obtain ⟨xd, yd, zd, vd⟩ := Bd.facts
            go_wp2_with fail
            refine (u1 _).mono ?_
            rintro e w8 ⟨rfl, hb⟩
            clear xa ya za va xb yb zb vb xc yc zc vc xd yd zd vd
            replace Ba := Ba.ext hb rfl
            replace Bb := Bb.ext hb rfl
            replace Bc := Bc.ext hb rfl
            replace Bd := Bd.ext hb rfl
            replace hw := hw.trans (hb.mono hw.size)
            clear hb
            obtain ⟨xa, ya, za, va⟩ := Ba.facts
            obtain ⟨xb, yb, zb, vb⟩ := Bb.facts
            obtain ⟨xc, yc, zc, vc⟩ := Bc.facts
            obtain ⟨xd, yd, zd, vd⟩ := Bd.facts
            go_wp2_with fail
            refine (u2 _).mono ?_
            rintro e w9 ⟨rfl, hb⟩
            clear xa ya za va xb yb zb vb xc yc zc vc xd yd zd vd
            replace Ba := Ba.ext hb rfl
            replace Bb := Bb.ext hb rfl
            replace Bc := Bc.ext hb rfl
            replace Bd := Bd.ext hb rfl
            replace hw := hw.trans (hb.mono hw.size)
            clear hb
            obtain ⟨xa, ya, za, va⟩ := Ba.facts
            obtain ⟨xb, yb, zb, vb⟩ := Bb.facts
            obtain ⟨xc, yc, zc, vc⟩ := Bc.facts
            obtain ⟨xd, yd, zd, vd⟩ := Bd.facts
            go_wp2_with fail
            refine (u3 _).mono ?_
            rintro e w10 ⟨rfl, hb⟩
            clear xa ya za va xb yb zb vb xc yc zc vc xd yd zd vd
            replace Ba := Ba.ext hb rfl
            replace Bb := Bb.ext hb rfl
            replace Bc := Bc.ext hb rfl
            replace Bd := Bd.ext hb rfl
            replace hw := hw.trans (hb.mono hw.size)
            clear hb
            obtain ⟨xa, ya, za, va⟩ := Ba.facts
            obtain ⟨xb, yb, zb, vb⟩ := Bb.facts
            obtain ⟨xc, yc, zc, vc⟩ := Bc.facts
            obtain ⟨xd, yd, zd, vd⟩ := Bd.facts
            go_wp2_with fail
            refine (awake_any _).mono ?_
            rintro e w11 ⟨rfl, hb⟩
            clear xa ya za va xb yb zb vb xc yc zc vc xd yd zd vd
            replace Ba := Ba.ext hb rfl
            replace Bb := Bb.ext hb rfl
            replace Bc := Bc.ext hb rfl
            replace Bd := Bd.ext hb rfl
            replace hw := hw.trans (hb.mono hw.size)
            clear hb
            go_wp2
            go_ret
            exact ⟨rfl, hw⟩
      · have t2 : decide (n < 2) = true ∨ decide (n < 2) = false := by cases decide (n < 2) <;> simp
        clear E3
        rcases t2 with t2 | t2
        · obtain ⟨xa, ya, za, va⟩ := Ba.facts
          obtain ⟨xb, yb, zb, vb⟩ := Bb.facts
          obtain ⟨xc, yc, zc, vc⟩ := Bc.facts
          obtain ⟨xd, yd, zd, vd⟩ := Bd.facts
          go_wp2_with fail
          refine (u1 _).mono ?_
          rintro e w8 ⟨rfl, hb⟩
          clear xa ya za va xb yb zb vb xc yc zc vc xd yd zd vd
          replace Ba := Ba.ext hb rfl
          replace Bb := Bb.ext hb rfl
          replace Bc := Bc.ext hb rfl
          replace Bd := Bd.ext hb rfl
          replace hw := hw.trans (hb.mono hw.size)
          clear hb
          obtain ⟨xa, ya, za, va⟩ := Ba.facts
          obtain ⟨xb, yb, zb, vb⟩ := Bb.facts
          obtain ⟨xc, yc, zc, vc⟩ := Bc.facts
          obtain ⟨xd, yd, zd, vd⟩ := Bd.facts
          go_wp2_with fail
          refine (u2 _).mono ?_
          rintro e w9 ⟨rfl, hb⟩
          clear xa ya za va xb yb zb vb xc yc zc vc xd yd zd vd
          replace Ba := Ba.ext hb rfl
          replace Bb := Bb.ext hb rfl
          replace Bc := Bc.ext hb rfl
          replace Bd := Bd.ext hb rfl
          replace hw := hw.trans (hb.mono hw.size)
          clear hb
          obtain ⟨xa, ya, za, va⟩ := Ba.facts
          obtain ⟨xb, yb, zb, vb⟩ := Bb.facts
          obtain ⟨xc, yc, zc, vc⟩ := Bc.facts
          obtain ⟨xd, yd, zd, vd⟩ := Bd.facts
          go_wp2_with fail
          refine (awake_any _).mono ?_
          rintro e w10 ⟨rfl, hb⟩
          clear xa ya za va xb yb zb vb xc yc zc vc xd yd zd vd
          replace Ba := Ba.ext hb rfl
          replace Bb := Bb.ext hb rfl
          replace Bc := Bc.ext hb rfl
          replace Bd := Bd.ext hb rfl
          replace hw := hw.trans (hb.mono hw.size)
          clear hb
          go_wp2
          go_ret
          exact ⟨rfl, hw⟩
        · obtain ⟨xa, ya, za, va⟩ := Ba.facts
          obtain ⟨xb, yb, zb, vb⟩ := Bb.facts
          obtain ⟨xc, yc, zc, vc⟩ := Bc.facts
          obtain ⟨xd, yd, zd, vd⟩ := Bd.facts
          go_wp2_with fail
          refine (u1 _).mono ?_
          rintro e w8 ⟨rfl, hb⟩
          clear xa ya za va xb yb zb vb xc yc zc vc xd yd zd vd
          replace Ba := Ba.ext hb rfl
          replace Bb := Bb.ext hb rfl
          replace Bc := Bc.ext hb rfl
          replace Bd := Bd.ext hb rfl
          replace hw := hw.trans (hb.mono hw.size)
          clear hb
          obtain ⟨xa, ya, za, va⟩ := Ba.facts
          obtain ⟨xb, yb, zb, vb⟩ := Bb.facts
          obtain ⟨xc, yc, zc, vc⟩ := Bc.facts
          obtain ⟨xd, yd, zd, vd⟩ := Bd.facts
          go_wp2_with fail
          refine (u2 _).mono ?_
          rintro e w9 ⟨rfl, hb⟩
          clear xa ya za va xb yb zb vb xc yc zc vc xd yd zd vd
          replace Ba := Ba.ext hb rfl
          replace Bb := Bb.ext hb rfl
          replace Bc := Bc.ext hb rfl
          replace Bd := Bd.ext hb rfl
          replace hw := hw.trans (hb.mono hw.size)
          clear hb
          obtain ⟨xa, ya, za, va⟩ := Ba.facts
          obtain ⟨xb, yb, zb, vb⟩ := Bb.facts
          obtain ⟨xc, yc, zc, vc⟩ := Bc.facts
          obtain ⟨xd, yd, zd, vd⟩ := Bd.facts
          go_wp2_with fail
          refine (awake_any _).mono ?_
          rintro e w10 ⟨rfl, hb⟩
          clear xa ya za va xb yb zb vb xc yc zc vc xd yd zd vd
          replace Ba := Ba.ext hb rfl
          replace Bb := Bb.ext hb rfl
          replace Bc := Bc.ext hb rfl
          replace Bd := Bd.ext hb rfl
          replace hw := hw.trans (hb.mono hw.size)
          clear hb
          go_wp2
          go_ret
          exact ⟨rfl, hw⟩
    · have t2 : decide (n < 2) = true ∨ decide (n < 2) = false := by cases decide (n < 2) <;> simp
      clear E3
      rcases t2 with t2 | t2
      · obtain ⟨xa, ya, za, va⟩ := Ba.facts
        obtain ⟨xb, yb, zb, vb⟩ := Bb.facts
        obtain ⟨xc, yc, zc, vc⟩ := Bc.facts
        obtain ⟨xd, yd, zd, vd⟩ := Bd.facts
        go_wp2_with fail
        refine (u1 _).mono ?_
        rintro e w8 ⟨rfl, hb⟩
        clear xa ya za va xb yb zb vb xc yc zc vc xd yd zd vd
        replace Ba := Ba.ext hb rfl
        replace Bb := Bb.ext hb rfl
        replace Bc := Bc.ext hb rfl
        replace Bd := Bd.ext hb rfl
        replace hw := hw.trans (hb.mono hw.size)
        clear hb
        obtain ⟨xa, ya, za, va⟩ := Ba.facts
        obtain ⟨xb, yb, zb, vb⟩ := Bb.facts
        obtain ⟨xc, yc, zc, vc⟩ := Bc.facts
        obtain ⟨xd, yd, zd, vd⟩ := Bd.facts
        go_wp2_with fail
        refine (awake_any _).mono ?_
        rintro e w9 ⟨rfl, hb⟩
        clear xa ya za va xb yb zb vb xc yc zc vc xd yd zd vd
        replace Ba := Ba.ext hb rfl
        replace Bb := Bb.ext hb rfl
        replace Bc := Bc.ext hb rfl
        replace Bd := Bd.ext hb rfl
        replace hw := hw.trans (hb.mono hw.size)
        clear hb
        go_wp2
        go_ret
        exact ⟨rfl, hw⟩
      · obtain ⟨xa, ya, za, va⟩ := Ba.facts
        obtain ⟨xb, yb, zb, vb⟩ := Bb.facts
        obtain ⟨xc, yc, zc, vc⟩ := Bc.facts
        obtain ⟨xd, yd, zd, vd⟩ := Bd.facts
        go_wp2_with fail
        refine (u1 _).mono ?_
        rintro e w8 ⟨rfl, hb⟩
        clear xa ya za va xb yb zb vb xc yc zc vc xd yd zd vd
        replace Ba := Ba.ext hb rfl
        replace Bb := Bb.ext hb rfl
        replace Bc := Bc.ext hb rfl
        replace Bd := Bd.ext hb rfl
        replace hw := hw.trans (hb.mono hw.size)
        clear hb
        obtain ⟨xa, ya, za, va⟩ := Ba.facts
        obtain ⟨xb, yb, zb, vb⟩ := Bb.facts
        obtain ⟨xc, yc, zc, vc⟩ := Bc.facts
        obtain ⟨xd, yd, zd, vd⟩ := Bd.facts
        go_wp2_with fail
        refine (awake_any _).mono ?_
        rintro e w9 ⟨rfl, hb⟩
        clear xa ya za va xb yb zb vb xc yc zc vc xd yd zd vd
        replace Ba := Ba.ext hb rfl
        replace Bb := Bb.ext hb rfl
        replace Bc := Bc.ext hb rfl
        replace Bd := Bd.ext hb rfl
        replace hw := hw.trans (hb.mono hw.size)
        clear hb
        go_wp2
        go_ret
        exact ⟨rfl, hw⟩

set_option maxRecDepth 100000 in
set_option maxHeartbeats 4000000 in
theorem meets_B (a b c d : Pt) (ha : vld a = true) (hb : vld b = false) (w : World) :
    Calls Try.prog 6 #[.agg #[.int .i64 a.x, .int .i64 a.y], .agg #[.int .i64 b.x, .int .i64 b.y], .agg #[.int .i64 c.x, .int .i64 c.y], .agg #[.int .i64 d.x, .int .i64 d.y]] w fun e w' => e = .returned (.bool true) ∧ Below w.heap.size w w' := by
  have n0 := meet_bd a b c d
  have m0 := meet_any a b c d
  have m1 := meet_any b a c d
  have m2 := meet_any a b d c
  have m3 := meet_any c d a b
  have m4 := meet_any a b b a
  have E1 := Lib.hid (@meet_one a b c d)
  have E2 := Lib.hid (@meet_two a b c d)
  rw [meet_sw1] at m1
  rw [meet_sw2] at m2
  rw [meet_sw3] at m3
  have rva := rvalid_any a
  have rvb := rvalid_any b
  have o1 := orient_any a b c
  have o2 := orient_any a b d
  have o3 := orient_any c d a
  have o4 := orient_any c d b
  have u1 := on_any a c d
  have u2 := on_any b c d
  have u3 := on_any c a b
  have u4 := on_any d a b
  rw [meet_no_self (.inr (.inl hb))] at m4
  rw [ha] at rva
  rw [hb] at rvb
  clear ha hb
  generalize meetS a b c d = n at *
  generalize ori a b c = O1 at *
  generalize ori a b d = O2 at *
  generalize ori c d a = O3 at *
  generalize ori c d b = O4 at *
  generalize onS a c d = X1 at *
  generalize onS b c d = X2 at *
  generalize onS c a b = X3 at *
  generalize onS d a b = X4 at *
  obtain ⟨n0, n3⟩ := n0
  have b0 : decide (n < 0) = false := by simp; omega
  have b3 : decide (3 < n) = false := by simp; omega
  go_enter Try.func6, Try.ntmps6
  go_wp2_with fail
  refine at_call fun W1 hW => ?_
  have Ba : Box W1 (w.heap.size) [.int .i64 a.x, .int .i64 a.y] 23 := by rw [hW]; exact (((Box.new rfl).old _).old _).old _
  have Bb : Box W1 (w.heap.size + 1) [.int .i64 b.x, .int .i64 b.y] 23 := by rw [hW]; exact ((Box.new (by simp)).old _).old _
  have Bc : Box W1 (w.heap.size + 1 + 1) [.int .i64 c.x, .int .i64 c.y] 23 := by rw [hW]; exact (Box.new (by simp)).old _
  have Bd : Box W1 (w.heap.size + 1 + 1 + 1) [.int .i64 d.x, .int .i64 d.y] 23 := by rw [hW]; exact Box.new (by simp)
  have hw : Below w.heap.size w W1 := by rw [hW]; go_grown
  clear hW
  refine (m0 _).mono ?_
  rintro e w2 ⟨rfl, hb⟩
  replace Ba := Ba.ext hb rfl
  replace Bb := Bb.ext hb rfl
  replace Bc := Bc.ext hb rfl
  replace Bd := Bd.ext hb rfl
  replace hw := hw.trans (hb.mono hw.size)
  clear hb
  obtain ⟨xa, ya, za, va⟩ := Ba.facts
  obtain ⟨xb, yb, zb, vb⟩ := Bb.facts
  obtain ⟨xc, yc, zc, vc⟩ := Bc.facts
  obtain ⟨xd, yd, zd, vd⟩ := Bd.facts
  go_wp2_with fail
  refine (rva _).mono ?_
  rintro e w3 ⟨rfl, hb⟩
  clear xa ya za va xb yb zb vb xc yc zc vc xd yd zd vd
  replace Ba := Ba.ext hb rfl
  replace Bb := Bb.ext hb rfl
  replace Bc := Bc.ext hb rfl
  replace Bd := Bd.ext hb rfl
  replace hw := hw.trans (hb.mono hw.size)
  clear hb
  obtain ⟨xa, ya, za, va⟩ := Ba.facts
  obtain ⟨xb, yb, zb, vb⟩ := Bb.facts
  obtain ⟨xc, yc, zc, vc⟩ := Bc.facts
  obtain ⟨xd, yd, zd, vd⟩ := Bd.facts
  go_wp2_with fail
  refine (rvb _).mono ?_
  rintro e w4 ⟨rfl, hb⟩
  clear xa ya za va xb yb zb vb xc yc zc vc xd yd zd vd
  replace Ba := Ba.ext hb rfl
  replace Bb := Bb.ext hb rfl
  replace Bc := Bc.ext hb rfl
  replace Bd := Bd.ext hb rfl
  replace hw := hw.trans (hb.mono hw.size)
  clear hb
  obtain ⟨xa, ya, za, va⟩ := Ba.facts
  obtain ⟨xb, yb, zb, vb⟩ := Bb.facts
  obtain ⟨xc, yc, zc, vc⟩ := Bc.facts
  obtain ⟨xd, yd, zd, vd⟩ := Bd.facts
  go_wp2_with fail
  refine (m1 _).mono ?_
  rintro e w5 ⟨rfl, hb⟩
  clear xa ya za va xb yb zb vb xc yc zc vc xd yd zd vd
  replace Ba := Ba.ext hb rfl
  replace Bb := Bb.ext hb rfl
  replace Bc := Bc.ext hb rfl
  replace Bd := Bd.ext hb rfl
  replace hw := hw.trans (hb.mono hw.size)
  clear hb
  obtain ⟨xa, ya, za, va⟩ := Ba.facts
  obtain ⟨xb, yb, zb, vb⟩ := Bb.facts
  obtain ⟨xc, yc, zc, vc⟩ := Bc.facts
  obtain ⟨xd, yd, zd, vd⟩ := Bd.facts
  go_wp2_with fail
  refine (m2 _).mono ?_
  rintro e w6 ⟨rfl, hb⟩
  clear xa ya za va xb yb zb vb xc yc zc vc xd yd zd vd
  replace Ba := Ba.ext hb rfl
  replace Bb := Bb.ext hb rfl
  replace Bc := Bc.ext hb rfl
  replace Bd := Bd.ext hb rfl
  replace hw := hw.trans (hb.mono hw.size)
  clear hb
  obtain ⟨xa, ya, za, va⟩ := Ba.facts
  obtain ⟨xb, yb, zb, vb⟩ := Bb.facts
  obtain ⟨xc, yc, zc, vc⟩ := Bc.facts
  obtain ⟨xd, yd, zd, vd⟩ := Bd.facts
  go_wp2_with fail
  refine (m3 _).mono ?_
  rintro e w7 ⟨rfl, hb⟩
  clear xa ya za va xb yb zb vb xc yc zc vc xd yd zd vd
  replace Ba := Ba.ext hb rfl
  replace Bb := Bb.ext hb rfl
  replace Bc := Bc.ext hb rfl
  replace Bd := Bd.ext hb rfl
  replace hw := hw.trans (hb.mono hw.size)
  clear hb
  obtain ⟨xa, ya, za, va⟩ := Ba.facts
  obtain ⟨xb, yb, zb, vb⟩ := Bb.facts
  obtain ⟨xc, yc, zc, vc⟩ := Bc.facts
  obtain ⟨xd, yd, zd, vd⟩ := Bd.facts
  go_wp2_with fail
  refine (m4 _).mono ?_
  rintro e w8 ⟨rfl, hb⟩
  clear xa ya za va xb yb zb vb xc yc zc vc xd yd zd vd
  replace Ba := Ba.ext hb rfl
  replace Bb := Bb.ext hb rfl
  replace Bc := Bc.ext hb rfl
  replace Bd := Bd.ext hb rfl
  replace hw := hw.trans (hb.mono hw.size)
  clear hb
  by_cases hn : n = 1
  · obtain ⟨w1, w2⟩ := E1.out hn
    clear E1 E2
    have t1 : (n == 1) = true := by simpa using hn
    clear hn
    have y1 : IntKind.i64.wrap (O1 * O2) = -1 := by rw [w1]; decide
    have y2 : IntKind.i64.wrap (O3 * O4) = -1 := by rw [w2]; decide
    clear w1 w2
    obtain ⟨xa, ya, za, va⟩ := Ba.facts
    obtain ⟨xb, yb, zb, vb⟩ := Bb.facts
    obtain ⟨xc, yc, zc, vc⟩ := Bc.facts
    obtain ⟨xd, yd, zd, vd⟩ := Bd.facts
    go_wp2
    refine at_world fun W9 hW => ?_
    replace hw : Below w.heap.size w W9 := by rw [hW]; exact hw
    replace Ba : Box W9 (w.heap.size) [.int .i64 a.x, .int .i64 a.y] 23 := by rw [hW]; exact Ba
    replace Bb : Box W9 (w.heap.size + 1) [.int .i64 b.x, .int .i64 b.y] 23 := by rw [hW]; exact Bb
    replace Bc : Box W9 (w.heap.size + 1 + 1) [.int .i64 c.x, .int .i64 c.y] 23 := by rw [hW]; exact Bc
    replace Bd : Box W9 (w.heap.size + 1 + 1 + 1) [.int .i64 d.x, .int .i64 d.y] 23 := by rw [hW]; exact Bd
    clear hW
    clear xa ya za va xb yb zb vb xc yc zc vc xd yd zd vd
    have ga := Ba.cells
    have gb := Bb.cells
    have gc := Bc.cells
    have gd := Bd.cells
    refine wp_region_tail 25 (by kernel_rfl) (by kernel_rfl) (C := fun w' => ∃ p : Regrown, w' = grow (redrawn W9 p.d) p.os) (fun w' h => regrown_of_below h) ?_
    simp only [List.take_succ_cons, List.take_zero, List.drop_succ_cons, List.drop_zero]
    repeat (first | (refine rWalk_skip (Eq.refl false) ?_; simp only [Act.put, List.setIfInBounds_toArray, List.set_cons_succ, List.set_cons_zero]) | (refine rWalk_step (fun K hK => ?_); go_simp; first | (refine hK _ ?_; clear hK K) | (apply Exists.intro; refine ⟨fun _ => ?_, hK _ ?_⟩; (first | with_reducible exact toExt o1 _ | with_reducible exact toExt o2 _ | with_reducible exact toExt o3 _ | with_reducible exact toExt o4 _ | with_reducible exact toExt awake_any _); clear hK K)))
    refine rWalk_nil ?_
    intro w10 hb
    clear ga gb gc gd
    replace Ba := Ba.ext hb rfl
    replace Bb := Bb.ext hb rfl
    replace Bc := Bc.ext hb rfl
    replace Bd := Bd.ext hb rfl
    replace hw := hw.trans (hb.mono hw.size)
    go_wp2
    go_ret
    exact ⟨rfl, hw⟩
  · have t1 : (n == 1) = false := by simpa using hn
    have E3 := Lib.hid (fun h2 : 2 ≤ n => E2.out h2)
    clear E1 E2 hn
    cases X1
    · cases X2
      · cases X3
        · cases X4
          · have t2 : decide (n < 2) = true := by
              by_cases h2 : 2 ≤ n
              · have := E3.out h2; simp at this
              · simp; omega
            clear E3
            obtain ⟨xa, ya, za, va⟩ := Ba.facts
            obtain ⟨xb, yb, zb, vb⟩ := Bb.facts
            obtain ⟨xc, yc, zc, vc⟩ := Bc.facts
            obtain ⟨xd, yd, zd, vd⟩ := Bd.facts
            go_wp2_with fail
            refine (u1 _).mono ?_
            rintro e w9 ⟨rfl, hb⟩
            clear xa ya za va xb yb zb vb xc yc zc vc xd yd zd vd
            replace Ba := Ba.ext hb rfl
            replace Bb := Bb.ext hb rfl
            replace Bc := Bc.ext hb rfl
            replace Bd := Bd.ext hb rfl
            replace hw := hw.trans (hb.mono hw.size)
            clear hb
            obtain ⟨xa, ya, za, va⟩ := Ba.facts
            obtain ⟨xb, yb, zb, vb⟩ := Bb.facts
            obtain ⟨xc, yc, zc, vc⟩ := Bc.facts
            obtain ⟨xd, yd, zd, vd⟩ := Bd.facts
            go_wp2_with fail
            refine (u2 _).mono ?_
            rintro e w10 ⟨rfl, hb⟩
            clear xa ya za va xb yb zb vb xc yc zc vc xd yd zd vd
            replace Ba := Ba.ext hb rfl
            replace Bb := Bb.ext hb rfl
            replace Bc := Bc.ext hb rfl
            replace Bd := Bd.ext hb rfl
            replace hw := hw.trans (hb.mono hw.size)
            clear hb
            obtain ⟨xa, ya, za, va⟩ := Ba.facts
            obtain ⟨xb, yb, zb, vb⟩ := Bb.facts
            obtain ⟨xc, yc, zc, vc⟩ := Bc.facts
            obtain ⟨xd, yd, zd, vd⟩ := Bd.facts
            go_wp2_with fail
            refine (u3 _).mono ?_
            rintro e w11 ⟨rfl, hb⟩
            clear xa ya za va xb yb zb vb xc yc zc vc xd yd zd vd
            replace Ba := Ba.ext hb rfl
            replace Bb := Bb.ext hb rfl
            replace Bc := Bc.ext hb rfl
            replace Bd := Bd.ext hb rfl
            replace hw := hw.trans (hb.mono hw.size)
            clear hb
            obtain ⟨xa, ya, za, va⟩ := Ba.facts
            obtain ⟨xb, yb, zb, vb⟩ := Bb.facts
            obtain ⟨xc, yc, zc, vc⟩ := Bc.facts
            obtain ⟨xd, yd, zd, vd⟩ := Bd.facts
            go_wp2_with fail
            refine (u4 _).mono ?_
            rintro e w12 ⟨rfl, hb⟩
            clear xa ya za va xb yb zb vb xc yc zc vc xd yd zd vd
            replace Ba := Ba.ext hb rfl
            replace Bb := Bb.ext hb rfl
            replace Bc := Bc.ext hb rfl
            replace Bd := Bd.ext hb rfl
            replace hw := hw.trans (hb.mono hw.size)
            clear hb
            obtain ⟨xa, ya, za, va⟩ := Ba.facts
            obtain ⟨xb, yb, zb, vb⟩ := Bb.facts
            obtain ⟨xc, yc, zc, vc⟩ := Bc.facts
            obtain ⟨xd, yd, zd, vd⟩ := Bd.facts
            go_wp2_with fail
            refine (awake_any _).mono ?_
            rintro e w13 ⟨rfl, hb⟩
            clear xa ya za va xb yb zb vb xc yc zc vc xd yd zd vd
            replace Ba := Ba.ext hb rfl
            replace Bb := Bb.ext hb rfl
            replace Bc := Bc.ext hb rfl
            replace Bd := Bd.ext hb rfl
            replace hw := hw.trans (hb.mono hw.size)
            clear hb
            go_wp2
            go_ret
            exact ⟨rfl, hw⟩
          · have t2 : decide (n < 2) = true ∨ decide (n < 2) = false := by cases decide (n < 2) <;> simp
            clear E3
            rcases t2 with t2 | t2
            · obtain ⟨xa, ya, za, va⟩ := Ba.facts
              obtain ⟨xb, yb, zb, vb⟩ := Bb.facts
              obtain ⟨xc, yc, zc, vc⟩ := Bc.facts
              obtain ⟨xd, yd, zd, vd⟩ := Bd.facts
              go_wp2_with fail
              refine (u1 _).mono ?_
              rintro e w9 ⟨rfl, hb⟩
              clear xa ya za va xb yb zb vb xc yc zc vc xd yd zd vd
              replace Ba := Ba.ext hb rfl
              replace Bb := Bb.ext hb rfl
              replace Bc := Bc.ext hb rfl
              replace Bd := Bd.ext hb rfl
              replace hw := hw.trans (hb.mono hw.size)
              clear hb
              obtain ⟨xa, ya, za, va⟩ := Ba.facts
              obtain ⟨xb, yb, zb, vb⟩ := Bb.facts
              obtain ⟨xc, yc, zc, vc⟩ := Bc.facts
              obtain ⟨xd, yd, zd, vd⟩ := Bd.facts
              go_wp2_with fail
              refine (u2 _).mono ?_
              rintro e w10 ⟨rfl, hb⟩
              clear xa ya za va xb yb zb vb xc yc zc vc xd yd zd vd
              replace Ba := Ba.ext hb rfl
              replace Bb := Bb.ext hb rfl
              replace Bc := Bc.ext hb rfl
              replace Bd := Bd.ext hb rfl
              replace hw := hw.trans (hb.mono hw.size)
              clear hb
              obtain ⟨xa, ya, za, va⟩ := Ba.facts
              obtain ⟨xb, yb, zb, vb⟩ := Bb.facts
              obtain ⟨xc, yc, zc, vc⟩ := Bc.facts
              obtain ⟨xd, yd, zd, vd⟩ := Bd.facts
              go_wp2_with fail
              refine (u3 _).mono ?_
              rintro e w11 ⟨rfl, hb⟩
              clear xa ya za va xb yb zb vb xc yc zc vc xd yd zd vd
              replace Ba := Ba.ext hb rfl
              replace Bb := Bb.ext hb rfl
              replace Bc := Bc.ext hb rfl
              replace Bd := Bd.ext hb rfl
              replace hw := hw.trans (hb.mono hw.size)
              clear hb
              obtain ⟨xa, ya, za, va⟩ := Ba.facts
              obtain ⟨xb, yb, zb, vb⟩ := Bb.facts
              obtain ⟨xc, yc, zc, vc⟩ := Bc.facts
              obtain ⟨xd, yd, zd, vd⟩ := Bd.facts
              go_wp2_with fail
              refine (u4 _).mono ?_
              rintro e w12 ⟨rfl, hb⟩
              clear xa ya za va xb yb zb vb xc yc zc vc xd yd zd vd
              replace Ba := Ba.ext hb rfl
              replace Bb := Bb.ext hb rfl
              replace Bc := Bc.ext hb rfl
              replace Bd := Bd.ext hb rfl
              replace hw := hw.trans (hb.mono hw.size)
              clear hb
              obtain ⟨xa, ya, za, va⟩ := Ba.facts
              obtain ⟨xb, yb, zb, vb⟩ := Bb.facts
              obtain ⟨xc, yc, zc, vc⟩ := Bc.facts
              obtain ⟨xd, yd, zd, vd⟩ := Bd.facts
              go_wp2_with fail
              refine (awake_any _).mono ?_
              rintro e w13 ⟨rfl, hb⟩
              clear xa ya za va xb yb zb vb xc yc zc vc xd yd zd vd
              replace Ba := Ba.ext hb rfl
              replace Bb := Bb.ext hb rfl
              replace Bc := Bc.ext hb rfl
              replace Bd := Bd.ext hb rfl
              replace hw := hw.trans (hb.mono hw.size)
              clear hb
              go_wp2
              go_ret
              exact ⟨rfl, hw⟩
            · obtain ⟨xa, ya, za, va⟩ := Ba.facts
              obtain ⟨xb, yb, zb, vb⟩ := Bb.facts
              obtain ⟨xc, yc, zc, vc⟩ := Bc.facts
              obtain ⟨xd, yd, zd, vd⟩ := Bd.facts
              go_wp2_with fail
              refine (u1 _).mono ?_
              rintro e w9 ⟨rfl, hb⟩
              clear xa ya za va xb yb zb vb xc yc zc vc xd yd zd vd
              replace Ba := Ba.ext hb rfl
              replace Bb := Bb.ext hb rfl
              replace Bc := Bc.ext hb rfl
              replace Bd := Bd.ext hb rfl
              replace hw := hw.trans (hb.mono hw.size)
              clear hb
              obtain ⟨xa, ya, za, va⟩ := Ba.facts
              obtain ⟨xb, yb, zb, vb⟩ := Bb.facts
              obtain ⟨xc, yc, zc, vc⟩ := Bc.facts
              obtain ⟨xd, yd, zd, vd⟩ := Bd.facts
              go_wp2_with fail
              refine (u2 _).mono ?_
              rintro e w10 ⟨rfl, hb⟩
              clear xa ya za va xb yb zb vb xc yc zc vc xd yd zd vd
              replace Ba := Ba.ext hb rfl
              replace Bb := Bb.ext hb rfl
              replace Bc := Bc.ext hb rfl
              replace Bd := Bd.ext hb rfl
              replace hw := hw.trans (hb.mono hw.size)
              clear hb
              obtain ⟨xa, ya, za, va⟩ := Ba.facts
              obtain ⟨xb, yb, zb, vb⟩ := Bb.facts
              obtain ⟨xc, yc, zc, vc⟩ := Bc.facts
              obtain ⟨xd, yd, zd, vd⟩ := Bd.facts
              go_wp2_with fail
              refine (u3 _).mono ?_
              rintro e w11 ⟨rfl, hb⟩
              clear xa ya za va xb yb zb vb xc yc zc vc xd yd zd vd
              replace Ba := Ba.ext hb rfl
              replace Bb := Bb.ext hb rfl
              replace Bc := Bc.ext hb rfl
              replace Bd := Bd.ext hb rfl
              replace hw := hw.trans (hb.mono hw.size)
              clear hb
              obtain ⟨xa, ya, za, va⟩ := Ba.facts
              obtain ⟨xb, yb, zb, vb⟩ := Bb.facts
              obtain ⟨xc, yc, zc, vc⟩ := Bc.facts
              obtain ⟨xd, yd, zd, vd⟩ := Bd.facts
              go_wp2_with fail
              refine (u4 _).mono ?_
              rintro e w12 ⟨rfl, hb⟩
              clear xa ya za va xb yb zb vb xc yc zc vc xd yd zd vd
              replace Ba := Ba.ext hb rfl
              replace Bb := Bb.ext hb rfl
              replace Bc := Bc.ext hb rfl
              replace Bd := Bd.ext hb rfl
              replace hw := hw.trans (hb.mono hw.size)
              clear hb
              obtain ⟨xa, ya, za, va⟩ := Ba.facts
              obtain ⟨xb, yb, zb, vb⟩ := Bb.facts
              obtain ⟨xc, yc, zc, vc⟩ := Bc.facts
              obtain ⟨xd, yd, zd, vd⟩ := Bd.facts
              go_wp2_with fail
              refine (awake_any _).mono ?_
              rintro e w13 ⟨rfl, hb⟩
              clear xa ya za va xb yb zb vb xc yc zc vc xd yd zd vd
              replace Ba := Ba.ext hb rfl
              replace Bb := Bb.ext hb rfl
              replace Bc := Bc.ext hb rfl
              replace Bd := Bd.ext hb rfl
              replace hw := hw.trans (hb.mono hw.size)
              clear hb
              go_wp2
              go_ret
              exact ⟨rfl, hw⟩
        · have t2 : decide (n < 2) = true ∨ decide (n < 2) = false := by cases decide (n < 2) <;> simp
          clear E3
          rcases t2 with t2 | t2
          · obtain ⟨xa, ya, za, va⟩ := Ba.facts
            obtain ⟨xb, yb, zb, vb⟩ := Bb.facts
            obtain ⟨xc, yc, zc, vc⟩ := Bc.facts
            obtain ⟨xd, yd, zd, vd⟩ := Bd.facts
            go_wp2_with fail
            refine (u1 _).mono ?_
            rintro e w9 ⟨rfl, hb⟩
            clear xa ya za va xb yb zb vb xc yc zc vc xd yd zd vd
            replace Ba := Ba.ext hb rfl
            replace Bb := Bb.ext hb rfl
            replace Bc := Bc.ext hb rfl
            replace Bd := Bd.ext hb rfl
            replace hw := hw.trans (hb.mono hw.size)
            clear hb
            obtain ⟨xa, ya, za, va⟩ := Ba.facts
            obtain ⟨xb, yb, zb, vb⟩ := Bb.facts
            obtain ⟨xc, yc, zc, vc⟩ := Bc.facts
            obtain ⟨xd, yd, zd, vd⟩ := Bd.facts
            go_wp2_with fail
            refine (u2 _).mono ?_
            rintro e w10 ⟨rfl, hb⟩
            clear xa ya za va xb yb zb vb xc yc zc vc xd yd zd vd
            replace Ba := Ba.ext hb rfl
            replace Bb := Bb.ext hb rfl
            replace Bc := Bc.ext hb rfl
            replace Bd := Bd.ext hb rfl
            replace hw := hw.trans (hb.mono hw.size)
            clear hb
            obtain ⟨xa, ya, za, va⟩ := Ba.facts
            obtain ⟨xb, yb, zb, vb⟩ := Bb.facts
            obtain ⟨xc, yc, zc, vc⟩ := Bc.facts
            obtain ⟨xd, yd, zd, vd⟩ := Bd.facts
            go_wp2_with fail
            refine (u3 _).mono ?_
            rintro e w11 ⟨rfl, hb⟩
            clear xa ya za va xb yb zb vb xc yc zc vc xd yd zd vd
            replace Ba := Ba.ext hb rfl
            replace Bb := Bb.ext hb rfl
            replace Bc := Bc.ext hb rfl
            replace Bd := Bd.ext hb rfl
            replace hw := hw.trans (hb.mono hw.size)
            clear hb
            obtain ⟨xa, ya, za, va⟩ := Ba.facts
            obtain ⟨xb, yb, zb, vb⟩ := Bb.facts
            obtain ⟨xc, yc, zc, vc⟩ := Bc.facts
            obtain ⟨xd, yd, zd, vd⟩ := Bd.facts
            go_wp2_with fail
            refine (awake_any _).mono ?_
            rintro e w12 ⟨rfl, hb⟩
            clear xa ya za va xb yb zb vb xc yc zc vc xd yd zd vd
            replace Ba := Ba.ext hb rfl
            replace Bb := Bb.ext hb rfl
            replace Bc := Bc.ext hb rfl
            replace Bd := Bd.ext hb rfl
            replace hw := hw.trans (hb.mono hw.size)
            clear hb
            go_wp2
            go_ret
            exact ⟨rfl, hw⟩
          · obtain ⟨xa, ya, za, va⟩ := Ba.facts
            obtain ⟨xb, yb, zb, vb⟩ := Bb.facts
            obtain ⟨xc, yc, zc, vc⟩ := Bc.facts
            obtain ⟨xd, yd, zd, vd⟩ := Bd.facts
            go_wp2_with fail
            refine (u1 _).mono ?_
            rintro e w9 ⟨rfl, hb⟩
            clear xa ya za va xb yb zb vb xc yc zc vc xd yd zd vd
            replace Ba := Ba.ext hb rfl
            replace Bb := Bb.ext hb rfl
            replace Bc := Bc.ext hb rfl
            replace Bd := Bd.ext hb rfl
            replace hw := hw.trans (hb.mono hw.size)
            clear hb
            obtain ⟨xa, ya, za, va⟩ := Ba.facts
            obtain ⟨xb, yb, zb, vb⟩ := Bb.facts
            obtain ⟨xc, yc, zc, vc⟩ := Bc.facts
            obtain ⟨xd, yd, zd, vd⟩ := Bd.facts
            go_wp2_with fail
            refine (u2 _).mono ?_
            rintro e w10 ⟨rfl, hb⟩
            clear xa ya za va xb yb zb vb xc yc zc vc xd yd zd vd
            replace Ba := Ba.ext hb rfl
            replace Bb := Bb.ext hb rfl
            replace Bc := Bc.ext hb rfl
            replace Bd := Bd.ext hb rfl
            replace hw := hw.trans (hb.mono hw.size)
            clear hb
            obtain ⟨xa, ya, za, va⟩ := Ba.facts
            obtain ⟨xb, yb, zb, vb⟩ := Bb.facts
            obtain ⟨xc, yc, zc, vc⟩ := Bc.facts
            obtain ⟨xd, yd, zd, vd⟩ := Bd.facts
            go_wp2_with fail
            refine (u3 _).mono ?_
            rintro e w11 ⟨rfl, hb⟩
            clear xa ya za va xb yb zb vb xc yc zc vc xd yd zd vd
            replace Ba := Ba.ext hb rfl
            replace Bb := Bb.ext hb rfl
            replace Bc := Bc.ext hb rfl
            replace Bd := Bd.ext hb rfl
            replace hw := hw.trans (hb.mono hw.size)
            clear hb
            obtain ⟨xa, ya, za, va⟩ := Ba.facts
            obtain ⟨xb, yb, zb, vb⟩ := Bb.facts
            obtain ⟨xc, yc, zc, vc⟩ := Bc.facts
            obtain ⟨xd, yd, zd, vd⟩ := Bd.facts
            go_wp2_with fail
            refine (awake_any _).mono ?_
            rintro e w12 ⟨rfl, hb⟩
            clear xa ya za va xb yb zb vb xc yc zc vc xd yd zd vd
            replace Ba := Ba.ext hb rfl
            replace Bb := Bb.ext hb rfl
            replace Bc := Bc.ext hb rfl
            replace Bd := Bd.ext hb rfl
            replace hw := hw.trans (hb.mono hw.size)
            clear hb
            go_wp2
            go_ret
            exact ⟨rfl, hw⟩
      · have t2 : decide (n < 2) = true ∨ decide (n < 2) = false := by cases decide (n < 2) <;> simp
        clear E3
        rcases t2 with t2 | t2
        · obtain ⟨xa, ya, za, va⟩ := Ba.facts
          obtain ⟨xb, yb, zb, vb⟩ := Bb.facts
          obtain ⟨xc, yc, zc, vc⟩ := Bc.facts
          obtain ⟨xd, yd, zd, vd⟩ := Bd.facts
          go_wp2_with fail
          refine (u1 _).mono ?_
          rintro e w9 ⟨rfl, hb⟩
          clear xa ya za va xb yb zb vb xc yc zc vc xd yd zd vd
          replace Ba := Ba.ext hb rfl
          replace Bb := Bb.ext hb rfl
          replace Bc := Bc.ext hb rfl
          replace Bd := Bd.ext hb rfl
          replace hw := hw.trans (hb.mono hw.size)
          clear hb
          obtain ⟨xa, ya, za, va⟩ := Ba.facts
          obtain ⟨xb, yb, zb, vb⟩ := Bb.facts
          obtain ⟨xc, yc, zc, vc⟩ := Bc.facts
          obtain ⟨xd, yd, zd, vd⟩ := Bd.facts
          go_wp2_with fail
          refine (u2 _).mono ?_
          rintro e w10 ⟨rfl, hb⟩
          clear xa ya za va xb yb zb vb xc yc zc vc xd yd zd vd
          replace Ba := Ba.ext hb rfl
          replace Bb := Bb.ext hb rfl
          replace Bc := Bc.ext hb rfl
          replace Bd := Bd.ext hb rfl
          replace hw := hw.trans (hb.mono hw.size)
          clear hb
          obtain ⟨xa, ya, za, va⟩ := Ba.facts
          obtain ⟨xb, yb, zb, vb⟩ := Bb.facts
          obtain ⟨xc, yc, zc, vc⟩ := Bc.facts
          obtain ⟨xd, yd, zd, vd⟩ := Bd.facts
          go_wp2_with fail
          refine (awake_any _).mono ?_
          rintro e w11 ⟨rfl, hb⟩
          clear xa ya za va xb yb zb vb xc yc zc vc xd yd zd vd
          replace Ba := Ba.ext hb rfl
          replace Bb := Bb.ext hb rfl
          replace Bc := Bc.ext hb rfl
          replace Bd := Bd.ext hb rfl
          replace hw := hw.trans (hb.mono hw.size)
          clear hb
          go_wp2
          go_ret
          exact ⟨rfl, hw⟩
        · obtain ⟨xa, ya, za, va⟩ := Ba.facts
          obtain ⟨xb, yb, zb, vb⟩ := Bb.facts
          obtain ⟨xc, yc, zc, vc⟩ := Bc.facts
          obtain ⟨xd, yd, zd, vd⟩ := Bd.facts
          go_wp2_with fail
          refine (u1 _).mono ?_
          rintro e w9 ⟨rfl, hb⟩
          clear xa ya za va xb yb zb vb xc yc zc vc xd yd zd vd
          replace Ba := Ba.ext hb rfl
          replace Bb := Bb.ext hb rfl
          replace Bc := Bc.ext hb rfl
          replace Bd := Bd.ext hb rfl
          replace hw := hw.trans (hb.mono hw.size)
          clear hb
          obtain ⟨xa, ya, za, va⟩ := Ba.facts
          obtain ⟨xb, yb, zb, vb⟩ := Bb.facts
          obtain ⟨xc, yc, zc, vc⟩ := Bc.facts
          obtain ⟨xd, yd, zd, vd⟩ := Bd.facts
          go_wp2_with fail
          refine (u2 _).mono ?_
          rintro e w10 ⟨rfl, hb⟩
          clear xa ya za va xb yb zb vb xc yc zc vc xd yd zd vd
          replace Ba := Ba.ext hb rfl
          replace Bb := Bb.ext hb rfl
          replace Bc := Bc.ext hb rfl
          replace Bd := Bd.ext hb rfl
          replace hw := hw.trans (hb.mono hw.size)
          clear hb
          obtain ⟨xa, ya, za, va⟩ := Ba.facts
          obtain ⟨xb, yb, zb, vb⟩ := Bb.facts
          obtain ⟨xc, yc, zc, vc⟩ := Bc.facts
          obtain ⟨xd, yd, zd, vd⟩ := Bd.facts
          go_wp2_with fail
          refine (awake_any _).mono ?_
          rintro e w11 ⟨rfl, hb⟩
          clear xa ya za va xb yb zb vb xc yc zc vc xd yd zd vd
          replace Ba := Ba.ext hb rfl
          replace Bb := Bb.ext hb rfl
          replace Bc := Bc.ext hb rfl
          replace Bd := Bd.ext hb rfl
          replace hw := hw.trans (hb.mono hw.size)
          clear hb
          go_wp2
          go_ret
          exact ⟨rfl, hw⟩
    · have t2 : decide (n < 2) = true ∨ decide (n < 2) = false := by cases decide (n < 2) <;> simp
      clear E3
      rcases t2 with t2 | t2
      · obtain ⟨xa, ya, za, va⟩ := Ba.facts
        obtain ⟨xb, yb, zb, vb⟩ := Bb.facts
        obtain ⟨xc, yc, zc, vc⟩ := Bc.facts
        obtain ⟨xd, yd, zd, vd⟩ := Bd.facts
        go_wp2_with fail
        refine (u1 _).mono ?_
        rintro e w9 ⟨rfl, hb⟩
        clear xa ya za va xb yb zb vb xc yc zc vc xd yd zd vd
        replace Ba := Ba.ext hb rfl
        replace Bb := Bb.ext hb rfl
        replace Bc := Bc.ext hb rfl
        replace Bd := Bd.ext hb rfl
        replace hw := hw.trans (hb.mono hw.size)
        clear hb
        obtain ⟨xa, ya, za, va⟩ := Ba.facts
        obtain ⟨xb, yb, zb, vb⟩ := Bb.facts
        obtain ⟨xc, yc, zc, vc⟩ := Bc.facts
        obtain ⟨xd, yd, zd, vd⟩ := Bd.facts
        go_wp2_with fail
        refine (awake_any _).mono ?_
        rintro e w10 ⟨rfl, hb⟩
        clear xa ya za va xb yb zb vb xc yc zc vc xd yd zd vd
        replace Ba := Ba.ext hb rfl
        replace Bb := Bb.ext hb rfl
        replace Bc := Bc.ext hb rfl
        replace Bd := Bd.ext hb rfl
        replace hw := hw.trans (hb.mono hw.size)
        clear hb
        go_wp2
        go_ret
        exact ⟨rfl, hw⟩
      · obtain ⟨xa, ya, za, va⟩ := Ba.facts
        obtain ⟨xb, yb, zb, vb⟩ := Bb.facts
        obtain ⟨xc, yc, zc, vc⟩ := Bc.facts
        obtain ⟨xd, yd, zd, vd⟩ := Bd.facts
        go_wp2_with fail
        refine (u1 _).mono ?_
        rintro e w9 ⟨rfl, hb⟩
        clear xa ya za va xb yb zb vb xc yc zc vc xd yd zd vd
        replace Ba := Ba.ext hb rfl
        replace Bb := Bb.ext hb rfl
        replace Bc := Bc.ext hb rfl
        replace Bd := Bd.ext hb rfl
        replace hw := hw.trans (hb.mono hw.size)
        clear hb
        obtain ⟨xa, ya, za, va⟩ := Ba.facts
        obtain ⟨xb, yb, zb, vb⟩ := Bb.facts
        obtain ⟨xc, yc, zc, vc⟩ := Bc.facts
        obtain ⟨xd, yd, zd, vd⟩ := Bd.facts
        go_wp2_with fail
        refine (awake_any _).mono ?_
        rintro e w10 ⟨rfl, hb⟩
        clear xa ya za va xb yb zb vb xc yc zc vc xd yd zd vd
        replace Ba := Ba.ext hb rfl
        replace Bb := Bb.ext hb rfl
        replace Bc := Bc.ext hb rfl
        replace Bd := Bd.ext hb rfl
        replace hw := hw.trans (hb.mono hw.size)
        clear hb
        go_wp2
        go_ret
        exact ⟨rfl, hw⟩

set_option maxRecDepth 100000 in
set_option maxHeartbeats 4000000 in
theorem meets_C (a b c d : Pt) (ha : vld a = true) (hb : vld b = true) (he : peqI a.x a.y b.x b.y = true) (w : World) :
    Calls Try.prog 6 #[.agg #[.int .i64 a.x, .int .i64 a.y], .agg #[.int .i64 b.x, .int .i64 b.y], .agg #[.int .i64 c.x, .int .i64 c.y], .agg #[.int .i64 d.x, .int .i64 d.y]] w fun e w' => e = .returned (.bool true) ∧ Below w.heap.size w w' := by
  have n0 := meet_bd a b c d
  have m0 := meet_any a b c d
  have m1 := meet_any b a c d
  have m2 := meet_any a b d c
  have m3 := meet_any c d a b
  have m4 := meet_any a b b a
  have E1 := Lib.hid (@meet_one a b c d)
  have E2 := Lib.hid (@meet_two a b c d)
  rw [meet_sw1] at m1
  rw [meet_sw2] at m2
  rw [meet_sw3] at m3
  have rva := rvalid_any a
  have rvb := rvalid_any b
  have o1 := orient_any a b c
  have o2 := orient_any a b d
  have o3 := orient_any c d a
  have o4 := orient_any c d b
  have u1 := on_any a c d
  have u2 := on_any b c d
  have u3 := on_any c a b
  have u4 := on_any d a b
  rw [meet_no_self (.inr (.inr (peqI_eq.1 he)))] at m4
  rw [ha] at rva
  rw [hb] at rvb
  clear ha hb
  generalize meetS a b c d = n at *
  generalize ori a b c = O1 at *
  generalize ori a b d = O2 at *
  generalize ori c d a = O3 at *
  generalize ori c d b = O4 at *
  generalize onS a c d = X1 at *
  generalize onS b c d = X2 at *
  generalize onS c a b = X3 at *
  generalize onS d a b = X4 at *
  obtain ⟨n0, n3⟩ := n0
  have b0 : decide (n < 0) = false := by simp; omega
  have b3 : decide (3 < n) = false := by simp; omega
  go_enter Try.func6, Try.ntmps6
  go_wp2_with fail
  refine at_call fun W1 hW => ?_
  have Ba : Box W1 (w.heap.size) [.int .i64 a.x, .int .i64 a.y] 23 := by rw [hW]; exact (((Box.new rfl).old _).old _).old _
  have Bb : Box W1 (w.heap.size + 1) [.int .i64 b.x, .int .i64 b.y] 23 := by rw [hW]; exact ((Box.new (by simp)).old _).old _
  have Bc : Box W1 (w.heap.size + 1 + 1) [.int .i64 c.x, .int .i64 c.y] 23 := by rw [hW]; exact (Box.new (by simp)).old _
  have Bd : Box W1 (w.heap.size + 1 + 1 + 1) [.int .i64 d.x, .int .i64 d.y] 23 := by rw [hW]; exact Box.new (by simp)
  have hw : Below w.heap.size w W1 := by rw [hW]; go_grown
  clear hW
  refine (m0 _).mono ?_
  rintro e w2 ⟨rfl, hb⟩
  replace Ba := Ba.ext hb rfl
  replace Bb := Bb.ext hb rfl
  replace Bc := Bc.ext hb rfl
  replace Bd := Bd.ext hb rfl
  replace hw := hw.trans (hb.mono hw.size)
  clear hb
  obtain ⟨xa, ya, za, va⟩ := Ba.facts
  obtain ⟨xb, yb, zb, vb⟩ := Bb.facts
  obtain ⟨xc, yc, zc, vc⟩ := Bc.facts
  obtain ⟨xd, yd, zd, vd⟩ := Bd.facts
  go_wp2_with fail
  refine (rva _).mono ?_
  rintro e w3 ⟨rfl, hb⟩
  clear xa ya za va xb yb zb vb xc yc zc vc xd yd zd vd
  replace Ba := Ba.ext hb rfl
  replace Bb := Bb.ext hb rfl
  replace Bc := Bc.ext hb rfl
  replace Bd := Bd.ext hb rfl
  replace hw := hw.trans (hb.mono hw.size)
  clear hb
  obtain ⟨xa, ya, za, va⟩ := Ba.facts
  obtain ⟨xb, yb, zb, vb⟩ := Bb.facts
  obtain ⟨xc, yc, zc, vc⟩ := Bc.facts
  obtain ⟨xd, yd, zd, vd⟩ := Bd.facts
  go_wp2_with fail
  refine (rvb _).mono ?_
  rintro e w4 ⟨rfl, hb⟩
  clear xa ya za va xb yb zb vb xc yc zc vc xd yd zd vd
  replace Ba := Ba.ext hb rfl
  replace Bb := Bb.ext hb rfl
  replace Bc := Bc.ext hb rfl
  replace Bd := Bd.ext hb rfl
  replace hw := hw.trans (hb.mono hw.size)
  clear hb
  obtain ⟨xa, ya, za, va⟩ := Ba.facts
  obtain ⟨xb, yb, zb, vb⟩ := Bb.facts
  obtain ⟨xc, yc, zc, vc⟩ := Bc.facts
  obtain ⟨xd, yd, zd, vd⟩ := Bd.facts
  go_wp2_with fail
  refine (m1 _).mono ?_
  rintro e w5 ⟨rfl, hb⟩
  clear xa ya za va xb yb zb vb xc yc zc vc xd yd zd vd
  replace Ba := Ba.ext hb rfl
  replace Bb := Bb.ext hb rfl
  replace Bc := Bc.ext hb rfl
  replace Bd := Bd.ext hb rfl
  replace hw := hw.trans (hb.mono hw.size)
  clear hb
  obtain ⟨xa, ya, za, va⟩ := Ba.facts
  obtain ⟨xb, yb, zb, vb⟩ := Bb.facts
  obtain ⟨xc, yc, zc, vc⟩ := Bc.facts
  obtain ⟨xd, yd, zd, vd⟩ := Bd.facts
  go_wp2_with fail
  refine (m2 _).mono ?_
  rintro e w6 ⟨rfl, hb⟩
  clear xa ya za va xb yb zb vb xc yc zc vc xd yd zd vd
  replace Ba := Ba.ext hb rfl
  replace Bb := Bb.ext hb rfl
  replace Bc := Bc.ext hb rfl
  replace Bd := Bd.ext hb rfl
  replace hw := hw.trans (hb.mono hw.size)
  clear hb
  obtain ⟨xa, ya, za, va⟩ := Ba.facts
  obtain ⟨xb, yb, zb, vb⟩ := Bb.facts
  obtain ⟨xc, yc, zc, vc⟩ := Bc.facts
  obtain ⟨xd, yd, zd, vd⟩ := Bd.facts
  go_wp2_with fail
  refine (m3 _).mono ?_
  rintro e w7 ⟨rfl, hb⟩
  clear xa ya za va xb yb zb vb xc yc zc vc xd yd zd vd
  replace Ba := Ba.ext hb rfl
  replace Bb := Bb.ext hb rfl
  replace Bc := Bc.ext hb rfl
  replace Bd := Bd.ext hb rfl
  replace hw := hw.trans (hb.mono hw.size)
  clear hb
  obtain ⟨xa, ya, za, va⟩ := Ba.facts
  obtain ⟨xb, yb, zb, vb⟩ := Bb.facts
  obtain ⟨xc, yc, zc, vc⟩ := Bc.facts
  obtain ⟨xd, yd, zd, vd⟩ := Bd.facts
  go_wp2_with fail
  refine (m4 _).mono ?_
  rintro e w8 ⟨rfl, hb⟩
  clear xa ya za va xb yb zb vb xc yc zc vc xd yd zd vd
  replace Ba := Ba.ext hb rfl
  replace Bb := Bb.ext hb rfl
  replace Bc := Bc.ext hb rfl
  replace Bd := Bd.ext hb rfl
  replace hw := hw.trans (hb.mono hw.size)
  clear hb
  by_cases hn : n = 1
  · obtain ⟨w1, w2⟩ := E1.out hn
    clear E1 E2
    have t1 : (n == 1) = true := by simpa using hn
    clear hn
    have y1 : IntKind.i64.wrap (O1 * O2) = -1 := by rw [w1]; decide
    have y2 : IntKind.i64.wrap (O3 * O4) = -1 := by rw [w2]; decide
    clear w1 w2
    obtain ⟨xa, ya, za, va⟩ := Ba.facts
    obtain ⟨xb, yb, zb, vb⟩ := Bb.facts
    obtain ⟨xc, yc, zc, vc⟩ := Bc.facts
    obtain ⟨xd, yd, zd, vd⟩ := Bd.facts
    go_wp2
    refine at_world fun W9 hW => ?_
    replace hw : Below w.heap.size w W9 := by rw [hW]; exact hw
    replace Ba : Box W9 (w.heap.size) [.int .i64 a.x, .int .i64 a.y] 23 := by rw [hW]; exact Ba
    replace Bb : Box W9 (w.heap.size + 1) [.int .i64 b.x, .int .i64 b.y] 23 := by rw [hW]; exact Bb
    replace Bc : Box W9 (w.heap.size + 1 + 1) [.int .i64 c.x, .int .i64 c.y] 23 := by rw [hW]; exact Bc
    replace Bd : Box W9 (w.heap.size + 1 + 1 + 1) [.int .i64 d.x, .int .i64 d.y] 23 := by rw [hW]; exact Bd
    clear hW
    clear xa ya za va xb yb zb vb xc yc zc vc xd yd zd vd
    have ga := Ba.cells
    have gb := Bb.cells
    have gc := Bc.cells
    have gd := Bd.cells
    refine wp_region_tail 25 (by kernel_rfl) (by kernel_rfl) (C := fun w' => ∃ p : Regrown, w' = grow (redrawn W9 p.d) p.os) (fun w' h => regrown_of_below h) ?_
    simp only [List.take_succ_cons, List.take_zero, List.drop_succ_cons, List.drop_zero]
    repeat (first | (refine rWalk_skip (Eq.refl false) ?_; simp only [Act.put, List.setIfInBounds_toArray, List.set_cons_succ, List.set_cons_zero]) | (refine rWalk_step (fun K hK => ?_); go_simp; first | (refine hK _ ?_; clear hK K) | (apply Exists.intro; refine ⟨fun _ => ?_, hK _ ?_⟩; (first | with_reducible exact toExt o1 _ | with_reducible exact toExt o2 _ | with_reducible exact toExt o3 _ | with_reducible exact toExt o4 _ | with_reducible exact toExt awake_any _); clear hK K)))
    refine rWalk_nil ?_
    intro w10 hb
    clear ga gb gc gd
    replace Ba := Ba.ext hb rfl
    replace Bb := Bb.ext hb rfl
    replace Bc := Bc.ext hb rfl
    replace Bd := Bd.ext hb rfl
    replace hw := hw.trans (hb.mono hw.size)
    go_wp2
    go_ret
    exact ⟨rfl, hw⟩
  · have t1 : (n == 1) = false := by simpa using hn
    have E3 := Lib.hid (fun h2 : 2 ≤ n => E2.out h2)
    clear E1 E2 hn
    cases X1
    · cases X2
      · cases X3
        · cases X4
          · have t2 : decide (n < 2) = true := by
              by_cases h2 : 2 ≤ n
              · have := E3.out h2; simp at this
              · simp; omega
            clear E3
            obtain ⟨xa, ya, za, va⟩ := Ba.facts
            obtain ⟨xb, yb, zb, vb⟩ := Bb.facts
            obtain ⟨xc, yc, zc, vc⟩ := Bc.facts
            obtain ⟨xd, yd, zd, vd⟩ := Bd.facts
            go_wp2_with fail
            refine (u1 _).mono ?_
            rintro e w9 ⟨rfl, hb⟩
            clear xa ya za va xb yb zb vb xc yc zc vc xd yd zd vd
            replace Ba := Ba.ext hb rfl
            replace Bb := Bb.ext hb rfl
            replace Bc := Bc.ext hb rfl
            replace Bd := Bd.ext hb rfl
            replace hw := hw.trans (hb.mono hw.size)
            clear hb
            obtain ⟨xa, ya, za, va⟩ := Ba.facts
            obtain ⟨xb, yb, zb, vb⟩ := Bb.facts
            obtain ⟨xc, yc, zc, vc⟩ := Bc.facts
            obtain ⟨xd, yd, zd, vd⟩ := Bd.facts
            go_wp2_with fail
            refine (u2 _).mono ?_
            rintro e w10 ⟨rfl, hb⟩
            clear xa ya za va xb yb zb vb xc yc zc vc xd yd zd vd
            replace Ba := Ba.ext hb rfl
            replace Bb := Bb.ext hb rfl
            replace Bc := Bc.ext hb rfl
            replace Bd := Bd.ext hb rfl
            replace hw := hw.trans (hb.mono hw.size)
            clear hb
            obtain ⟨xa, ya, za, va⟩ := Ba.facts
            obtain ⟨xb, yb, zb, vb⟩ := Bb.facts
            obtain ⟨xc, yc, zc, vc⟩ := Bc.facts
            obtain ⟨xd, yd, zd, vd⟩ := Bd.facts
            go_wp2_with fail
            refine (u3 _).mono ?_
            rintro e w11 ⟨rfl, hb⟩
            clear xa ya za va xb yb zb vb xc yc zc vc xd yd zd vd
            replace Ba := Ba.ext hb rfl
            replace Bb := Bb.ext hb rfl
            replace Bc := Bc.ext hb rfl
            replace Bd := Bd.ext hb rfl
            replace hw := hw.trans (hb.mono hw.size)
            clear hb
            obtain ⟨xa, ya, za, va⟩ := Ba.facts
            obtain ⟨xb, yb, zb, vb⟩ := Bb.facts
            obtain ⟨xc, yc, zc, vc⟩ := Bc.facts
            obtain ⟨xd, yd, zd, vd⟩ := Bd.facts
            go_wp2_with fail
            refine (u4 _).mono ?_
            rintro e w12 ⟨rfl, hb⟩
            clear xa ya za va xb yb zb vb xc yc zc vc xd yd zd vd
            replace Ba := Ba.ext hb rfl
            replace Bb := Bb.ext hb rfl
            replace Bc := Bc.ext hb rfl
            replace Bd := Bd.ext hb rfl
            replace hw := hw.trans (hb.mono hw.size)
            clear hb
            obtain ⟨xa, ya, za, va⟩ := Ba.facts
            obtain ⟨xb, yb, zb, vb⟩ := Bb.facts
            obtain ⟨xc, yc, zc, vc⟩ := Bc.facts
            obtain ⟨xd, yd, zd, vd⟩ := Bd.facts
            go_wp2_with fail
            refine (awake_any _).mono ?_
            rintro e w13 ⟨rfl, hb⟩
            clear xa ya za va xb yb zb vb xc yc zc vc xd yd zd vd
            replace Ba := Ba.ext hb rfl
            replace Bb := Bb.ext hb rfl
            replace Bc := Bc.ext hb rfl
            replace Bd := Bd.ext hb rfl
            replace hw := hw.trans (hb.mono hw.size)
            clear hb
            go_wp2
            go_ret
            exact ⟨rfl, hw⟩
          · have t2 : decide (n < 2) = true ∨ decide (n < 2) = false := by cases decide (n < 2) <;> simp
            clear E3
            rcases t2 with t2 | t2
            · obtain ⟨xa, ya, za, va⟩ := Ba.facts
              obtain ⟨xb, yb, zb, vb⟩ := Bb.facts
              obtain ⟨xc, yc, zc, vc⟩ := Bc.facts
              obtain ⟨xd, yd, zd, vd⟩ := Bd.facts
              go_wp2_with fail
              refine (u1 _).mono ?_
              rintro e w9 ⟨rfl, hb⟩
              clear xa ya za va xb yb zb vb xc yc zc vc xd yd zd vd
              replace Ba := Ba.ext hb rfl
              replace Bb := Bb.ext hb rfl
              replace Bc := Bc.ext hb rfl
              replace Bd := Bd.ext hb rfl
              replace hw := hw.trans (hb.mono hw.size)
              clear hb
              obtain ⟨xa, ya, za, va⟩ := Ba.facts
              obtain ⟨xb, yb, zb, vb⟩ := Bb.facts
              obtain ⟨xc, yc, zc, vc⟩ := Bc.facts
              obtain ⟨xd, yd, zd, vd⟩ := Bd.facts
              go_wp2_with fail
              refine (u2 _).mono ?_
              rintro e w10 ⟨rfl, hb⟩
              clear xa ya za va xb yb zb vb xc yc zc vc xd yd zd vd
              replace Ba := Ba.ext hb rfl
              replace Bb := Bb.ext hb rfl
              replace Bc := Bc.ext hb rfl
              replace Bd := Bd.ext hb rfl
              replace hw := hw.trans (hb.mono hw.size)
              clear hb
              obtain ⟨xa, ya, za, va⟩ := Ba.facts
              obtain ⟨xb, yb, zb, vb⟩ := Bb.facts
              obtain ⟨xc, yc, zc, vc⟩ := Bc.facts
              obtain ⟨xd, yd, zd, vd⟩ := Bd.facts
              go_wp2_with fail
              refine (u3 _).mono ?_
              rintro e w11 ⟨rfl, hb⟩
              clear xa ya za va xb yb zb vb xc yc zc vc xd yd zd vd
              replace Ba := Ba.ext hb rfl
              replace Bb := Bb.ext hb rfl
              replace Bc := Bc.ext hb rfl
              replace Bd := Bd.ext hb rfl
              replace hw := hw.trans (hb.mono hw.size)
              clear hb
              obtain ⟨xa, ya, za, va⟩ := Ba.facts
              obtain ⟨xb, yb, zb, vb⟩ := Bb.facts
              obtain ⟨xc, yc, zc, vc⟩ := Bc.facts
              obtain ⟨xd, yd, zd, vd⟩ := Bd.facts
              go_wp2_with fail
              refine (u4 _).mono ?_
              rintro e w12 ⟨rfl, hb⟩
              clear xa ya za va xb yb zb vb xc yc zc vc xd yd zd vd
              replace Ba := Ba.ext hb rfl
              replace Bb := Bb.ext hb rfl
              replace Bc := Bc.ext hb rfl
              replace Bd := Bd.ext hb rfl
              replace hw := hw.trans (hb.mono hw.size)
              clear hb
              obtain ⟨xa, ya, za, va⟩ := Ba.facts
              obtain ⟨xb, yb, zb, vb⟩ := Bb.facts
              obtain ⟨xc, yc, zc, vc⟩ := Bc.facts
              obtain ⟨xd, yd, zd, vd⟩ := Bd.facts
              go_wp2_with fail
              refine (awake_any _).mono ?_
              rintro e w13 ⟨rfl, hb⟩
              clear xa ya za va xb yb zb vb xc yc zc vc xd yd zd vd
              replace Ba := Ba.ext hb rfl
              replace Bb := Bb.ext hb rfl
              replace Bc := Bc.ext hb rfl
              replace Bd := Bd.ext hb rfl
              replace hw := hw.trans (hb.mono hw.size)
              clear hb
              go_wp2
              go_ret
              exact ⟨rfl, hw⟩
            · obtain ⟨xa, ya, za, va⟩ := Ba.facts
              obtain ⟨xb, yb, zb, vb⟩ := Bb.facts
              obtain ⟨xc, yc, zc, vc⟩ := Bc.facts
              obtain ⟨xd, yd, zd, vd⟩ := Bd.facts
              go_wp2_with fail
              refine (u1 _).mono ?_
              rintro e w9 ⟨rfl, hb⟩
              clear xa ya za va xb yb zb vb xc yc zc vc xd yd zd vd
              replace Ba := Ba.ext hb rfl
              replace Bb := Bb.ext hb rfl
              replace Bc := Bc.ext hb rfl
              replace Bd := Bd.ext hb rfl
              replace hw := hw.trans (hb.mono hw.size)
              clear hb
              obtain ⟨xa, ya, za, va⟩ := Ba.facts
              obtain ⟨xb, yb, zb, vb⟩ := Bb.facts
              obtain ⟨xc, yc, zc, vc⟩ := Bc.facts
              obtain ⟨xd, yd, zd, vd⟩ := Bd.facts
              go_wp2_with fail
              refine (u2 _).mono ?_
              rintro e w10 ⟨rfl, hb⟩
              clear xa ya za va xb yb zb vb xc yc zc vc xd yd zd vd
              replace Ba := Ba.ext hb rfl
              replace Bb := Bb.ext hb rfl
              replace Bc := Bc.ext hb rfl
              replace Bd := Bd.ext hb rfl
              replace hw := hw.trans (hb.mono hw.size)
              clear hb
              obtain ⟨xa, ya, za, va⟩ := Ba.facts
              obtain ⟨xb, yb, zb, vb⟩ := Bb.facts
              obtain ⟨xc, yc, zc, vc⟩ := Bc.facts
              obtain ⟨xd, yd, zd, vd⟩ := Bd.facts
              go_wp2_with fail
              refine (u3 _).mono ?_
              rintro e w11 ⟨rfl, hb⟩
              clear xa ya za va xb yb zb vb xc yc zc vc xd yd zd vd
              replace Ba := Ba.ext hb rfl
              replace Bb := Bb.ext hb rfl
              replace Bc := Bc.ext hb rfl
              replace Bd := Bd.ext hb rfl
              replace hw := hw.trans (hb.mono hw.size)
              clear hb
              obtain ⟨xa, ya, za, va⟩ := Ba.facts
              obtain ⟨xb, yb, zb, vb⟩ := Bb.facts
              obtain ⟨xc, yc, zc, vc⟩ := Bc.facts
              obtain ⟨xd, yd, zd, vd⟩ := Bd.facts
              go_wp2_with fail
              refine (u4 _).mono ?_
              rintro e w12 ⟨rfl, hb⟩
              clear xa ya za va xb yb zb vb xc yc zc vc xd yd zd vd
              replace Ba := Ba.ext hb rfl
              replace Bb := Bb.ext hb rfl
              replace Bc := Bc.ext hb rfl
              replace Bd := Bd.ext hb rfl
              replace hw := hw.trans (hb.mono hw.size)
              clear hb
              obtain ⟨xa, ya, za, va⟩ := Ba.facts
              obtain ⟨xb, yb, zb, vb⟩ := Bb.facts
              obtain ⟨xc, yc, zc, vc⟩ := Bc.facts
              obtain ⟨xd, yd, zd, vd⟩ := Bd.facts
              go_wp2_with fail
              refine (awake_any _).mono ?_
              rintro e w13 ⟨rfl, hb⟩
              clear xa ya za va xb yb zb vb xc yc zc vc xd yd zd vd
              replace Ba := Ba.ext hb rfl
              replace Bb := Bb.ext hb rfl
              replace Bc := Bc.ext hb rfl
              replace Bd := Bd.ext hb rfl
              replace hw := hw.trans (hb.mono hw.size)
              clear hb
              go_wp2
              go_ret
              exact ⟨rfl, hw⟩
        · have t2 : decide (n < 2) = true ∨ decide (n < 2) = false := by cases decide (n < 2) <;> simp
          clear E3
          rcases t2 with t2 | t2
          · obtain ⟨xa, ya, za, va⟩ := Ba.facts
            obtain ⟨xb, yb, zb, vb⟩ := Bb.facts
            obtain ⟨xc, yc, zc, vc⟩ := Bc.facts
            obtain ⟨xd, yd, zd, vd⟩ := Bd.facts
            go_wp2_with fail
            refine (u1 _).mono ?_
            rintro e w9 ⟨rfl, hb⟩
            clear xa ya za va xb yb zb vb xc yc zc vc xd yd zd vd
            replace Ba := Ba.ext hb rfl
            replace Bb := Bb.ext hb rfl
            replace Bc := Bc.ext hb rfl
            replace Bd := Bd.ext hb rfl
            replace hw := hw.trans (hb.mono hw.size)
            clear hb
            obtain ⟨xa, ya, za, va⟩ := Ba.facts
            obtain ⟨xb, yb, zb, vb⟩ := Bb.facts
            obtain ⟨xc, yc, zc, vc⟩ := Bc.facts
            obtain ⟨xd, yd, zd, vd⟩ := Bd.facts
            go_wp2_with fail
            refine (u2 _).mono ?_
            rintro e w10 ⟨rfl, hb⟩
            clear xa ya za va xb yb zb vb xc yc zc vc xd yd zd vd
            replace Ba := Ba.ext hb rfl
            replace Bb := Bb.ext hb rfl
            replace Bc := Bc.ext hb rfl
            replace Bd := Bd.ext hb rfl
            replace hw := hw.trans (hb.mono hw.size)
            clear hb
            obtain ⟨xa, ya, za, va⟩ := Ba.facts
            obtain ⟨xb, yb, zb, vb⟩ := Bb.facts
            obtain ⟨xc, yc, zc, vc⟩ := Bc.facts
            obtain ⟨xd, yd, zd, vd⟩ := Bd.facts
            go_wp2_with fail
            refine (u3 _).mono ?_
            rintro e w11 ⟨rfl, hb⟩
            clear xa ya za va xb yb zb vb xc yc zc vc xd yd zd vd
            replace Ba := Ba.ext hb rfl
            replace Bb := Bb.ext hb rfl
            replace Bc := Bc.ext hb rfl
            replace Bd := Bd.ext hb rfl
            replace hw := hw.trans (hb.mono hw.size)
            clear hb
            obtain ⟨xa, ya, za, va⟩ := Ba.facts
            obtain ⟨xb, yb, zb, vb⟩ := Bb.facts
            obtain ⟨xc, yc, zc, vc⟩ := Bc.facts
            obtain ⟨xd, yd, zd, vd⟩ := Bd.facts
            go_wp2_with fail
            refine (awake_any _).mono ?_
            rintro e w12 ⟨rfl, hb⟩
            clear xa ya za va xb yb zb vb xc yc zc vc xd yd zd vd
            replace Ba := Ba.ext hb rfl
            replace Bb := Bb.ext hb rfl
            replace Bc := Bc.ext hb rfl
            replace Bd := Bd.ext hb rfl
            replace hw := hw.trans (hb.mono hw.size)
            clear hb
            go_wp2
            go_ret
            exact ⟨rfl, hw⟩
          · obtain ⟨xa, ya, za, va⟩ := Ba.facts
            obtain ⟨xb, yb, zb, vb⟩ := Bb.facts
            obtain ⟨xc, yc, zc, vc⟩ := Bc.facts
            obtain ⟨xd, yd, zd, vd⟩ := Bd.facts
            go_wp2_with fail
            refine (u1 _).mono ?_
            rintro e w9 ⟨rfl, hb⟩
            clear xa ya za va xb yb zb vb xc yc zc vc xd yd zd vd
            replace Ba := Ba.ext hb rfl
            replace Bb := Bb.ext hb rfl
            replace Bc := Bc.ext hb rfl
            replace Bd := Bd.ext hb rfl
            replace hw := hw.trans (hb.mono hw.size)
            clear hb
            obtain ⟨xa, ya, za, va⟩ := Ba.facts
            obtain ⟨xb, yb, zb, vb⟩ := Bb.facts
            obtain ⟨xc, yc, zc, vc⟩ := Bc.facts
            obtain ⟨xd, yd, zd, vd⟩ := Bd.facts
            go_wp2_with fail
            refine (u2 _).mono ?_
            rintro e w10 ⟨rfl, hb⟩
            clear xa ya za va xb yb zb vb xc yc zc vc xd yd zd vd
            replace Ba := Ba.ext hb rfl
            replace Bb := Bb.ext hb rfl
            replace Bc := Bc.ext hb rfl
            replace Bd := Bd.ext hb rfl
            replace hw := hw.trans (hb.mono hw.size)
            clear hb
            obtain ⟨xa, ya, za, va⟩ := Ba.facts
            obtain ⟨xb, yb, zb, vb⟩ := Bb.facts
            obtain ⟨xc, yc, zc, vc⟩ := Bc.facts
            obtain ⟨xd, yd, zd, vd⟩ := Bd.facts
            go_wp2_with fail
            refine (u3 _).mono ?_
            rintro e w11 ⟨rfl, hb⟩
            clear xa ya za va xb yb zb vb xc yc zc vc xd yd zd vd
            replace Ba := Ba.ext hb rfl
            replace Bb := Bb.ext hb rfl
            replace Bc := Bc.ext hb rfl
            replace Bd := Bd.ext hb rfl
            replace hw := hw.trans (hb.mono hw.size)
            clear hb
            obtain ⟨xa, ya, za, va⟩ := Ba.facts
            obtain ⟨xb, yb, zb, vb⟩ := Bb.facts
            obtain ⟨xc, yc, zc, vc⟩ := Bc.facts
            obtain ⟨xd, yd, zd, vd⟩ := Bd.facts
            go_wp2_with fail
            refine (awake_any _).mono ?_
            rintro e w12 ⟨rfl, hb⟩
            clear xa ya za va xb yb zb vb xc yc zc vc xd yd zd vd
            replace Ba := Ba.ext hb rfl
            replace Bb := Bb.ext hb rfl
            replace Bc := Bc.ext hb rfl
            replace Bd := Bd.ext hb rfl
            replace hw := hw.trans (hb.mono hw.size)
            clear hb
            go_wp2
            go_ret
            exact ⟨rfl, hw⟩
      · have t2 : decide (n < 2) = true ∨ decide (n < 2) = false := by cases decide (n < 2) <;> simp
        clear E3
        rcases t2 with t2 | t2
        · obtain ⟨xa, ya, za, va⟩ := Ba.facts
          obtain ⟨xb, yb, zb, vb⟩ := Bb.facts
          obtain ⟨xc, yc, zc, vc⟩ := Bc.facts
          obtain ⟨xd, yd, zd, vd⟩ := Bd.facts
          go_wp2_with fail
          refine (u1 _).mono ?_
          rintro e w9 ⟨rfl, hb⟩
          clear xa ya za va xb yb zb vb xc yc zc vc xd yd zd vd
          replace Ba := Ba.ext hb rfl
          replace Bb := Bb.ext hb rfl
          replace Bc := Bc.ext hb rfl
          replace Bd := Bd.ext hb rfl
          replace hw := hw.trans (hb.mono hw.size)
          clear hb
          obtain ⟨xa, ya, za, va⟩ := Ba.facts
          obtain ⟨xb, yb, zb, vb⟩ := Bb.facts
          obtain ⟨xc, yc, zc, vc⟩ := Bc.facts
          obtain ⟨xd, yd, zd, vd⟩ := Bd.facts
          go_wp2_with fail
          refine (u2 _).mono ?_
          rintro e w10 ⟨rfl, hb⟩
          clear xa ya za va xb yb zb vb xc yc zc vc xd yd zd vd
          replace Ba := Ba.ext hb rfl
          replace Bb := Bb.ext hb rfl
          replace Bc := Bc.ext hb rfl
          replace Bd := Bd.ext hb rfl
          replace hw := hw.trans (hb.mono hw.size)
          clear hb
          obtain ⟨xa, ya, za, va⟩ := Ba.facts
          obtain ⟨xb, yb, zb, vb⟩ := Bb.facts
          obtain ⟨xc, yc, zc, vc⟩ := Bc.facts
          obtain ⟨xd, yd, zd, vd⟩ := Bd.facts
          go_wp2_with fail
          refine (awake_any _).mono ?_
          rintro e w11 ⟨rfl, hb⟩
          clear xa ya za va xb yb zb vb xc yc zc vc xd yd zd vd
          replace Ba := Ba.ext hb rfl
          replace Bb := Bb.ext hb rfl
          replace Bc := Bc.ext hb rfl
          replace Bd := Bd.ext hb rfl
          replace hw := hw.trans (hb.mono hw.size)
          clear hb
          go_wp2
          go_ret
          exact ⟨rfl, hw⟩
        · obtain ⟨xa, ya, za, va⟩ := Ba.facts
          obtain ⟨xb, yb, zb, vb⟩ := Bb.facts
          obtain ⟨xc, yc, zc, vc⟩ := Bc.facts
          obtain ⟨xd, yd, zd, vd⟩ := Bd.facts
          go_wp2_with fail
          refine (u1 _).mono ?_
          rintro e w9 ⟨rfl, hb⟩
          clear xa ya za va xb yb zb vb xc yc zc vc xd yd zd vd
          replace Ba := Ba.ext hb rfl
          replace Bb := Bb.ext hb rfl
          replace Bc := Bc.ext hb rfl
          replace Bd := Bd.ext hb rfl
          replace hw := hw.trans (hb.mono hw.size)
          clear hb
          obtain ⟨xa, ya, za, va⟩ := Ba.facts
          obtain ⟨xb, yb, zb, vb⟩ := Bb.facts
          obtain ⟨xc, yc, zc, vc⟩ := Bc.facts
          obtain ⟨xd, yd, zd, vd⟩ := Bd.facts
          go_wp2_with fail
          refine (u2 _).mono ?_
          rintro e w10 ⟨rfl, hb⟩
          clear xa ya za va xb yb zb vb xc yc zc vc xd yd zd vd
          replace Ba := Ba.ext hb rfl
          replace Bb := Bb.ext hb rfl
          replace Bc := Bc.ext hb rfl
          replace Bd := Bd.ext hb rfl
          replace hw := hw.trans (hb.mono hw.size)
          clear hb
          obtain ⟨xa, ya, za, va⟩ := Ba.facts
          obtain ⟨xb, yb, zb, vb⟩ := Bb.facts
          obtain ⟨xc, yc, zc, vc⟩ := Bc.facts
          obtain ⟨xd, yd, zd, vd⟩ := Bd.facts
          go_wp2_with fail
          refine (awake_any _).mono ?_
          rintro e w11 ⟨rfl, hb⟩
          clear xa ya za va xb yb zb vb xc yc zc vc xd yd zd vd
          replace Ba := Ba.ext hb rfl
          replace Bb := Bb.ext hb rfl
          replace Bc := Bc.ext hb rfl
          replace Bd := Bd.ext hb rfl
          replace hw := hw.trans (hb.mono hw.size)
          clear hb
          go_wp2
          go_ret
          exact ⟨rfl, hw⟩
    · have t2 : decide (n < 2) = true ∨ decide (n < 2) = false := by cases decide (n < 2) <;> simp
      clear E3
      rcases t2 with t2 | t2
      · obtain ⟨xa, ya, za, va⟩ := Ba.facts
        obtain ⟨xb, yb, zb, vb⟩ := Bb.facts
        obtain ⟨xc, yc, zc, vc⟩ := Bc.facts
        obtain ⟨xd, yd, zd, vd⟩ := Bd.facts
        go_wp2_with fail
        refine (u1 _).mono ?_
        rintro e w9 ⟨rfl, hb⟩
        clear xa ya za va xb yb zb vb xc yc zc vc xd yd zd vd
        replace Ba := Ba.ext hb rfl
        replace Bb := Bb.ext hb rfl
        replace Bc := Bc.ext hb rfl
        replace Bd := Bd.ext hb rfl
        replace hw := hw.trans (hb.mono hw.size)
        clear hb
        obtain ⟨xa, ya, za, va⟩ := Ba.facts
        obtain ⟨xb, yb, zb, vb⟩ := Bb.facts
        obtain ⟨xc, yc, zc, vc⟩ := Bc.facts
        obtain ⟨xd, yd, zd, vd⟩ := Bd.facts
        go_wp2_with fail
        refine (awake_any _).mono ?_
        rintro e w10 ⟨rfl, hb⟩
        clear xa ya za va xb yb zb vb xc yc zc vc xd yd zd vd
        replace Ba := Ba.ext hb rfl
        replace Bb := Bb.ext hb rfl
        replace Bc := Bc.ext hb rfl
        replace Bd := Bd.ext hb rfl
        replace hw := hw.trans (hb.mono hw.size)
        clear hb
        go_wp2
        go_ret
        exact ⟨rfl, hw⟩
      · obtain ⟨xa, ya, za, va⟩ := Ba.facts
        obtain ⟨xb, yb, zb, vb⟩ := Bb.facts
        obtain ⟨xc, yc, zc, vc⟩ := Bc.facts
        obtain ⟨xd, yd, zd, vd⟩ := Bd.facts
        go_wp2_with fail
        refine (u1 _).mono ?_
        rintro e w9 ⟨rfl, hb⟩
        clear xa ya za va xb yb zb vb xc yc zc vc xd yd zd vd
        replace Ba := Ba.ext hb rfl
        replace Bb := Bb.ext hb rfl
        replace Bc := Bc.ext hb rfl
        replace Bd := Bd.ext hb rfl
        replace hw := hw.trans (hb.mono hw.size)
        clear hb
        obtain ⟨xa, ya, za, va⟩ := Ba.facts
        obtain ⟨xb, yb, zb, vb⟩ := Bb.facts
        obtain ⟨xc, yc, zc, vc⟩ := Bc.facts
        obtain ⟨xd, yd, zd, vd⟩ := Bd.facts
        go_wp2_with fail
        refine (awake_any _).mono ?_
        rintro e w10 ⟨rfl, hb⟩
        clear xa ya za va xb yb zb vb xc yc zc vc xd yd zd vd
        replace Ba := Ba.ext hb rfl
        replace Bb := Bb.ext hb rfl
        replace Bc := Bc.ext hb rfl
        replace Bd := Bd.ext hb rfl
        replace hw := hw.trans (hb.mono hw.size)
        clear hb
        go_wp2
        go_ret
        exact ⟨rfl, hw⟩

set_option maxRecDepth 100000 in
set_option maxHeartbeats 4000000 in
theorem meets_D (a b c d : Pt) (ha : vld a = true) (hb : vld b = true) (he : peqI a.x a.y b.x b.y = false) (w : World) :
    Calls Try.prog 6 #[.agg #[.int .i64 a.x, .int .i64 a.y], .agg #[.int .i64 b.x, .int .i64 b.y], .agg #[.int .i64 c.x, .int .i64 c.y], .agg #[.int .i64 d.x, .int .i64 d.y]] w fun e w' => e = .returned (.bool true) ∧ Below w.heap.size w w' := by
  have n0 := meet_bd a b c d
  have m0 := meet_any a b c d
  have m1 := meet_any b a c d
  have m2 := meet_any a b d c
  have m3 := meet_any c d a b
  have m4 := meet_any a b b a
  have E1 := Lib.hid (@meet_one a b c d)
  have E2 := Lib.hid (@meet_two a b c d)
  rw [meet_sw1] at m1
  rw [meet_sw2] at m2
  rw [meet_sw3] at m3
  have rva := rvalid_any a
  have rvb := rvalid_any b
  have o1 := orient_any a b c
  have o2 := orient_any a b d
  have o3 := orient_any c d a
  have o4 := orient_any c d b
  have u1 := on_any a c d
  have u2 := on_any b c d
  have u3 := on_any c a b
  have u4 := on_any d a b
  rw [meet_self ha hb (peqI_ne.1 he)] at m4
  rw [ha] at rva
  rw [hb] at rvb
  clear ha hb
  generalize meetS a b c d = n at *
  generalize ori a b c = O1 at *
  generalize ori a b d = O2 at *
  generalize ori c d a = O3 at *
  generalize ori c d b = O4 at *
  generalize onS a c d = X1 at *
  generalize onS b c d = X2 at *
  generalize onS c a b = X3 at *
  generalize onS d a b = X4 at *
  obtain ⟨n0, n3⟩ := n0
  have b0 : decide (n < 0) = false := by simp; omega
  have b3 : decide (3 < n) = false := by simp; omega
  go_enter Try.func6, Try.ntmps6
  go_wp2_with fail
  refine at_call fun W1 hW => ?_
  have Ba : Box W1 (w.heap.size) [.int .i64 a.x, .int .i64 a.y] 23 := by rw [hW]; exact (((Box.new rfl).old _).old _).old _
  have Bb : Box W1 (w.heap.size + 1) [.int .i64 b.x, .int .i64 b.y] 23 := by rw [hW]; exact ((Box.new (by simp)).old _).old _
  have Bc : Box W1 (w.heap.size + 1 + 1) [.int .i64 c.x, .int .i64 c.y] 23 := by rw [hW]; exact (Box.new (by simp)).old _
  have Bd : Box W1 (w.heap.size + 1 + 1 + 1) [.int .i64 d.x, .int .i64 d.y] 23 := by rw [hW]; exact Box.new (by simp)
  have hw : Below w.heap.size w W1 := by rw [hW]; go_grown
  clear hW
  refine (m0 _).mono ?_
  rintro e w2 ⟨rfl, hb⟩
  replace Ba := Ba.ext hb rfl
  replace Bb := Bb.ext hb rfl
  replace Bc := Bc.ext hb rfl
  replace Bd := Bd.ext hb rfl
  replace hw := hw.trans (hb.mono hw.size)
  clear hb
  obtain ⟨xa, ya, za, va⟩ := Ba.facts
  obtain ⟨xb, yb, zb, vb⟩ := Bb.facts
  obtain ⟨xc, yc, zc, vc⟩ := Bc.facts
  obtain ⟨xd, yd, zd, vd⟩ := Bd.facts
  go_wp2_with fail
  refine (rva _).mono ?_
  rintro e w3 ⟨rfl, hb⟩
  clear xa ya za va xb yb zb vb xc yc zc vc xd yd zd vd
  replace Ba := Ba.ext hb rfl
  replace Bb := Bb.ext hb rfl
  replace Bc := Bc.ext hb rfl
  replace Bd := Bd.ext hb rfl
  replace hw := hw.trans (hb.mono hw.size)
  clear hb
  obtain ⟨xa, ya, za, va⟩ := Ba.facts
  obtain ⟨xb, yb, zb, vb⟩ := Bb.facts
  obtain ⟨xc, yc, zc, vc⟩ := Bc.facts
  obtain ⟨xd, yd, zd, vd⟩ := Bd.facts
  go_wp2_with fail
  refine (rvb _).mono ?_
  rintro e w4 ⟨rfl, hb⟩
  clear xa ya za va xb yb zb vb xc yc zc vc xd yd zd vd
  replace Ba := Ba.ext hb rfl
  replace Bb := Bb.ext hb rfl
  replace Bc := Bc.ext hb rfl
  replace Bd := Bd.ext hb rfl
  replace hw := hw.trans (hb.mono hw.size)
  clear hb
  obtain ⟨xa, ya, za, va⟩ := Ba.facts
  obtain ⟨xb, yb, zb, vb⟩ := Bb.facts
  obtain ⟨xc, yc, zc, vc⟩ := Bc.facts
  obtain ⟨xd, yd, zd, vd⟩ := Bd.facts
  go_wp2_with fail
  refine (m1 _).mono ?_
  rintro e w5 ⟨rfl, hb⟩
  clear xa ya za va xb yb zb vb xc yc zc vc xd yd zd vd
  replace Ba := Ba.ext hb rfl
  replace Bb := Bb.ext hb rfl
  replace Bc := Bc.ext hb rfl
  replace Bd := Bd.ext hb rfl
  replace hw := hw.trans (hb.mono hw.size)
  clear hb
  obtain ⟨xa, ya, za, va⟩ := Ba.facts
  obtain ⟨xb, yb, zb, vb⟩ := Bb.facts
  obtain ⟨xc, yc, zc, vc⟩ := Bc.facts
  obtain ⟨xd, yd, zd, vd⟩ := Bd.facts
  go_wp2_with fail
  refine (m2 _).mono ?_
  rintro e w6 ⟨rfl, hb⟩
  clear xa ya za va xb yb zb vb xc yc zc vc xd yd zd vd
  replace Ba := Ba.ext hb rfl
  replace Bb := Bb.ext hb rfl
  replace Bc := Bc.ext hb rfl
  replace Bd := Bd.ext hb rfl
  replace hw := hw.trans (hb.mono hw.size)
  clear hb
  obtain ⟨xa, ya, za, va⟩ := Ba.facts
  obtain ⟨xb, yb, zb, vb⟩ := Bb.facts
  obtain ⟨xc, yc, zc, vc⟩ := Bc.facts
  obtain ⟨xd, yd, zd, vd⟩ := Bd.facts
  go_wp2_with fail
  refine (m3 _).mono ?_
  rintro e w7 ⟨rfl, hb⟩
  clear xa ya za va xb yb zb vb xc yc zc vc xd yd zd vd
  replace Ba := Ba.ext hb rfl
  replace Bb := Bb.ext hb rfl
  replace Bc := Bc.ext hb rfl
  replace Bd := Bd.ext hb rfl
  replace hw := hw.trans (hb.mono hw.size)
  clear hb
  obtain ⟨xa, ya, za, va⟩ := Ba.facts
  obtain ⟨xb, yb, zb, vb⟩ := Bb.facts
  obtain ⟨xc, yc, zc, vc⟩ := Bc.facts
  obtain ⟨xd, yd, zd, vd⟩ := Bd.facts
  go_wp2_with fail
  refine (m4 _).mono ?_
  rintro e w8 ⟨rfl, hb⟩
  clear xa ya za va xb yb zb vb xc yc zc vc xd yd zd vd
  replace Ba := Ba.ext hb rfl
  replace Bb := Bb.ext hb rfl
  replace Bc := Bc.ext hb rfl
  replace Bd := Bd.ext hb rfl
  replace hw := hw.trans (hb.mono hw.size)
  clear hb
  by_cases hn : n = 1
  · obtain ⟨w1, w2⟩ := E1.out hn
    clear E1 E2
    have t1 : (n == 1) = true := by simpa using hn
    clear hn
    have y1 : IntKind.i64.wrap (O1 * O2) = -1 := by rw [w1]; decide
    have y2 : IntKind.i64.wrap (O3 * O4) = -1 := by rw [w2]; decide
    clear w1 w2
    obtain ⟨xa, ya, za, va⟩ := Ba.facts
    obtain ⟨xb, yb, zb, vb⟩ := Bb.facts
    obtain ⟨xc, yc, zc, vc⟩ := Bc.facts
    obtain ⟨xd, yd, zd, vd⟩ := Bd.facts
    go_wp2
    refine at_world fun W9 hW => ?_
    replace hw : Below w.heap.size w W9 := by rw [hW]; exact hw
    replace Ba : Box W9 (w.heap.size) [.int .i64 a.x, .int .i64 a.y] 23 := by rw [hW]; exact Ba
    replace Bb : Box W9 (w.heap.size + 1) [.int .i64 b.x, .int .i64 b.y] 23 := by rw [hW]; exact Bb
    replace Bc : Box W9 (w.heap.size + 1 + 1) [.int .i64 c.x, .int .i64 c.y] 23 := by rw [hW]; exact Bc
    replace Bd : Box W9 (w.heap.size + 1 + 1 + 1) [.int .i64 d.x, .int .i64 d.y] 23 := by rw [hW]; exact Bd
    clear hW
    clear xa ya za va xb yb zb vb xc yc zc vc xd yd zd vd
    have ga := Ba.cells
    have gb := Bb.cells
    have gc := Bc.cells
    have gd := Bd.cells
    refine wp_region_tail 25 (by kernel_rfl) (by kernel_rfl) (C := fun w' => ∃ p : Regrown, w' = grow (redrawn W9 p.d) p.os) (fun w' h => regrown_of_below h) ?_
    simp only [List.take_succ_cons, List.take_zero, List.drop_succ_cons, List.drop_zero]
    repeat (first | (refine rWalk_skip (Eq.refl false) ?_; simp only [Act.put, List.setIfInBounds_toArray, List.set_cons_succ, List.set_cons_zero]) | (refine rWalk_step (fun K hK => ?_); go_simp; first | (refine hK _ ?_; clear hK K) | (apply Exists.intro; refine ⟨fun _ => ?_, hK _ ?_⟩; (first | with_reducible exact toExt o1 _ | with_reducible exact toExt o2 _ | with_reducible exact toExt o3 _ | with_reducible exact toExt o4 _ | with_reducible exact toExt awake_any _); clear hK K)))
    refine rWalk_nil ?_
    intro w10 hb
    clear ga gb gc gd
    replace Ba := Ba.ext hb rfl
    replace Bb := Bb.ext hb rfl
    replace Bc := Bc.ext hb rfl
    replace Bd := Bd.ext hb rfl
    replace hw := hw.trans (hb.mono hw.size)
    go_wp2
    go_ret
    exact ⟨rfl, hw⟩
  · have t1 : (n == 1) = false := by simpa using hn
    have E3 := Lib.hid (fun h2 : 2 ≤ n => E2.out h2)
    clear E1 E2 hn
    cases X1
    · cases X2
      · cases X3
        · cases X4
          · have t2 : decide (n < 2) = true := by
              by_cases h2 : 2 ≤ n
              · have := E3.out h2; simp at this
              · simp; omega
            clear E3
            obtain ⟨xa, ya, za, va⟩ := Ba.facts
            obtain ⟨xb, yb, zb, vb⟩ := Bb.facts
            obtain ⟨xc, yc, zc, vc⟩ := Bc.facts
            obtain ⟨xd, yd, zd, vd⟩ := Bd.facts
            go_wp2_with fail
            refine (u1 _).mono ?_
            rintro e w9 ⟨rfl, hb⟩
            clear xa ya za va xb yb zb vb xc yc zc vc xd yd zd vd
            replace Ba := Ba.ext hb rfl
            replace Bb := Bb.ext hb rfl
            replace Bc := Bc.ext hb rfl
            replace Bd := Bd.ext hb rfl
            replace hw := hw.trans (hb.mono hw.size)
            clear hb
            obtain ⟨xa, ya, za, va⟩ := Ba.facts
            obtain ⟨xb, yb, zb, vb⟩ := Bb.facts
            obtain ⟨xc, yc, zc, vc⟩ := Bc.facts
            obtain ⟨xd, yd, zd, vd⟩ := Bd.facts
            go_wp2_with fail
            refine (u2 _).mono ?_
            rintro e w10 ⟨rfl, hb⟩
            clear xa ya za va xb yb zb vb xc yc zc vc xd yd zd vd
            replace Ba := Ba.ext hb rfl
            replace Bb := Bb.ext hb rfl
            replace Bc := Bc.ext hb rfl
            replace Bd := Bd.ext hb rfl
            replace hw := hw.trans (hb.mono hw.size)
            clear hb
            obtain ⟨xa, ya, za, va⟩ := Ba.facts
            obtain ⟨xb, yb, zb, vb⟩ := Bb.facts
            obtain ⟨xc, yc, zc, vc⟩ := Bc.facts
            obtain ⟨xd, yd, zd, vd⟩ := Bd.facts
            go_wp2_with fail
            refine (u3 _).mono ?_
            rintro e w11 ⟨rfl, hb⟩
            clear xa ya za va xb yb zb vb xc yc zc vc xd yd zd vd
            replace Ba := Ba.ext hb rfl
            replace Bb := Bb.ext hb rfl
            replace Bc := Bc.ext hb rfl
            replace Bd := Bd.ext hb rfl
            replace hw := hw.trans (hb.mono hw.size)
            clear hb
            obtain ⟨xa, ya, za, va⟩ := Ba.facts
            obtain ⟨xb, yb, zb, vb⟩ := Bb.facts
            obtain ⟨xc, yc, zc, vc⟩ := Bc.facts
            obtain ⟨xd, yd, zd, vd⟩ := Bd.facts
            go_wp2_with fail
            refine (u4 _).mono ?_
            rintro e w12 ⟨rfl, hb⟩
            clear xa ya za va xb yb zb vb xc yc zc vc xd yd zd vd
            replace Ba := Ba.ext hb rfl
            replace Bb := Bb.ext hb rfl
            replace Bc := Bc.ext hb rfl
            replace Bd := Bd.ext hb rfl
            replace hw := hw.trans (hb.mono hw.size)
            clear hb
            obtain ⟨xa, ya, za, va⟩ := Ba.facts
            obtain ⟨xb, yb, zb, vb⟩ := Bb.facts
            obtain ⟨xc, yc, zc, vc⟩ := Bc.facts
            obtain ⟨xd, yd, zd, vd⟩ := Bd.facts
            go_wp2_with fail
            refine (awake_any _).mono ?_
            rintro e w13 ⟨rfl, hb⟩
            clear xa ya za va xb yb zb vb xc yc zc vc xd yd zd vd
            replace Ba := Ba.ext hb rfl
            replace Bb := Bb.ext hb rfl
            replace Bc := Bc.ext hb rfl
            replace Bd := Bd.ext hb rfl
            replace hw := hw.trans (hb.mono hw.size)
            clear hb
            go_wp2
            go_ret
            exact ⟨rfl, hw⟩
          · have t2 : decide (n < 2) = true ∨ decide (n < 2) = false := by cases decide (n < 2) <;> simp
            clear E3
            rcases t2 with t2 | t2
            · obtain ⟨xa, ya, za, va⟩ := Ba.facts
              obtain ⟨xb, yb, zb, vb⟩ := Bb.facts
              obtain ⟨xc, yc, zc, vc⟩ := Bc.facts
              obtain ⟨xd, yd, zd, vd⟩ := Bd.facts
              go_wp2_with fail
              refine (u1 _).mono ?_
              rintro e w9 ⟨rfl, hb⟩
              clear xa ya za va xb yb zb vb xc yc zc vc xd yd zd vd
              replace Ba := Ba.ext hb rfl
              replace Bb := Bb.ext hb rfl
              replace Bc := Bc.ext hb rfl
              replace Bd := Bd.ext hb rfl
              replace hw := hw.trans (hb.mono hw.size)
              clear hb
              obtain ⟨xa, ya, za, va⟩ := Ba.facts
              obtain ⟨xb, yb, zb, vb⟩ := Bb.facts
              obtain ⟨xc, yc, zc, vc⟩ := Bc.facts
              obtain ⟨xd, yd, zd, vd⟩ := Bd.facts
              go_wp2_with fail
              refine (u2 _).mono ?_
              rintro e w10 ⟨rfl, hb⟩
              clear xa ya za va xb yb zb vb xc yc zc vc xd yd zd vd
              replace Ba := Ba.ext hb rfl
              replace Bb := Bb.ext hb rfl
              replace Bc := Bc.ext hb rfl
              replace Bd := Bd.ext hb rfl
              replace hw := hw.trans (hb.mono hw.size)
              clear hb
              obtain ⟨xa, ya, za, va⟩ := Ba.facts
              obtain ⟨xb, yb, zb, vb⟩ := Bb.facts
              obtain ⟨xc, yc, zc, vc⟩ := Bc.facts
              obtain ⟨xd, yd, zd, vd⟩ := Bd.facts
              go_wp2_with fail
              refine (u3 _).mono ?_
              rintro e w11 ⟨rfl, hb⟩
              clear xa ya za va xb yb zb vb xc yc zc vc xd yd zd vd
              replace Ba := Ba.ext hb rfl
              replace Bb := Bb.ext hb rfl
              replace Bc := Bc.ext hb rfl
              replace Bd := Bd.ext hb rfl
              replace hw := hw.trans (hb.mono hw.size)
              clear hb
              obtain ⟨xa, ya, za, va⟩ := Ba.facts
              obtain ⟨xb, yb, zb, vb⟩ := Bb.facts
              obtain ⟨xc, yc, zc, vc⟩ := Bc.facts
              obtain ⟨xd, yd, zd, vd⟩ := Bd.facts
              go_wp2_with fail
              refine (u4 _).mono ?_
              rintro e w12 ⟨rfl, hb⟩
              clear xa ya za va xb yb zb vb xc yc zc vc xd yd zd vd
              replace Ba := Ba.ext hb rfl
              replace Bb := Bb.ext hb rfl
              replace Bc := Bc.ext hb rfl
              replace Bd := Bd.ext hb rfl
              replace hw := hw.trans (hb.mono hw.size)
              clear hb
              obtain ⟨xa, ya, za, va⟩ := Ba.facts
              obtain ⟨xb, yb, zb, vb⟩ := Bb.facts
              obtain ⟨xc, yc, zc, vc⟩ := Bc.facts
              obtain ⟨xd, yd, zd, vd⟩ := Bd.facts
              go_wp2_with fail
              refine (awake_any _).mono ?_
              rintro e w13 ⟨rfl, hb⟩
              clear xa ya za va xb yb zb vb xc yc zc vc xd yd zd vd
              replace Ba := Ba.ext hb rfl
              replace Bb := Bb.ext hb rfl
              replace Bc := Bc.ext hb rfl
              replace Bd := Bd.ext hb rfl
              replace hw := hw.trans (hb.mono hw.size)
              clear hb
              go_wp2
              go_ret
              exact ⟨rfl, hw⟩
            · obtain ⟨xa, ya, za, va⟩ := Ba.facts
              obtain ⟨xb, yb, zb, vb⟩ := Bb.facts
              obtain ⟨xc, yc, zc, vc⟩ := Bc.facts
              obtain ⟨xd, yd, zd, vd⟩ := Bd.facts
              go_wp2_with fail
              refine (u1 _).mono ?_
              rintro e w9 ⟨rfl, hb⟩
              clear xa ya za va xb yb zb vb xc yc zc vc xd yd zd vd
              replace Ba := Ba.ext hb rfl
              replace Bb := Bb.ext hb rfl
              replace Bc := Bc.ext hb rfl
              replace Bd := Bd.ext hb rfl
              replace hw := hw.trans (hb.mono hw.size)
              clear hb
              obtain ⟨xa, ya, za, va⟩ := Ba.facts
              obtain ⟨xb, yb, zb, vb⟩ := Bb.facts
              obtain ⟨xc, yc, zc, vc⟩ := Bc.facts
              obtain ⟨xd, yd, zd, vd⟩ := Bd.facts
              go_wp2_with fail
              refine (u2 _).mono ?_
              rintro e w10 ⟨rfl, hb⟩
              clear xa ya za va xb yb zb vb xc yc zc vc xd yd zd vd
              replace Ba := Ba.ext hb rfl
              replace Bb := Bb.ext hb rfl
              replace Bc := Bc.ext hb rfl
              replace Bd := Bd.ext hb rfl
              replace hw := hw.trans (hb.mono hw.size)
              clear hb
              obtain ⟨xa, ya, za, va⟩ := Ba.facts
              obtain ⟨xb, yb, zb, vb⟩ := Bb.facts
              obtain ⟨xc, yc, zc, vc⟩ := Bc.facts
              obtain ⟨xd, yd, zd, vd⟩ := Bd.facts
              go_wp2_with fail
              refine (u3 _).mono ?_
              rintro e w11 ⟨rfl, hb⟩
              clear xa ya za va xb yb zb vb xc yc zc vc xd yd zd vd
              replace Ba := Ba.ext hb rfl
              replace Bb := Bb.ext hb rfl
              replace Bc := Bc.ext hb rfl
              replace Bd := Bd.ext hb rfl
              replace hw := hw.trans (hb.mono hw.size)
              clear hb
              obtain ⟨xa, ya, za, va⟩ := Ba.facts
              obtain ⟨xb, yb, zb, vb⟩ := Bb.facts
              obtain ⟨xc, yc, zc, vc⟩ := Bc.facts
              obtain ⟨xd, yd, zd, vd⟩ := Bd.facts
              go_wp2_with fail
              refine (u4 _).mono ?_
              rintro e w12 ⟨rfl, hb⟩
              clear xa ya za va xb yb zb vb xc yc zc vc xd yd zd vd
              replace Ba := Ba.ext hb rfl
              replace Bb := Bb.ext hb rfl
              replace Bc := Bc.ext hb rfl
              replace Bd := Bd.ext hb rfl
              replace hw := hw.trans (hb.mono hw.size)
              clear hb
              obtain ⟨xa, ya, za, va⟩ := Ba.facts
              obtain ⟨xb, yb, zb, vb⟩ := Bb.facts
              obtain ⟨xc, yc, zc, vc⟩ := Bc.facts
              obtain ⟨xd, yd, zd, vd⟩ := Bd.facts
              go_wp2_with fail
              refine (awake_any _).mono ?_
              rintro e w13 ⟨rfl, hb⟩
              clear xa ya za va xb yb zb vb xc yc zc vc xd yd zd vd
              replace Ba := Ba.ext hb rfl
              replace Bb := Bb.ext hb rfl
              replace Bc := Bc.ext hb rfl
              replace Bd := Bd.ext hb rfl
              replace hw := hw.trans (hb.mono hw.size)
              clear hb
              go_wp2
              go_ret
              exact ⟨rfl, hw⟩
        · have t2 : decide (n < 2) = true ∨ decide (n < 2) = false := by cases decide (n < 2) <;> simp
          clear E3
          rcases t2 with t2 | t2
          · obtain ⟨xa, ya, za, va⟩ := Ba.facts
            obtain ⟨xb, yb, zb, vb⟩ := Bb.facts
            obtain ⟨xc, yc, zc, vc⟩ := Bc.facts
            obtain ⟨xd, yd, zd, vd⟩ := Bd.facts
            go_wp2_with fail
            refine (u1 _).mono ?_
            rintro e w9 ⟨rfl, hb⟩
            clear xa ya za va xb yb zb vb xc yc zc vc xd yd zd vd
            replace Ba := Ba.ext hb rfl
            replace Bb := Bb.ext hb rfl
            replace Bc := Bc.ext hb rfl
            replace Bd := Bd.ext hb rfl
            replace hw := hw.trans (hb.mono hw.size)
            clear hb
            obtain ⟨xa, ya, za, va⟩ := Ba.facts
            obtain ⟨xb, yb, zb, vb⟩ := Bb.facts
            obtain ⟨xc, yc, zc, vc⟩ := Bc.facts
            obtain ⟨xd, yd, zd, vd⟩ := Bd.facts
            go_wp2_with fail
            refine (u2 _).mono ?_
            rintro e w10 ⟨rfl, hb⟩
            clear xa ya za va xb yb zb vb xc yc zc vc xd yd zd vd
            replace Ba := Ba.ext hb rfl
            replace Bb := Bb.ext hb rfl
            replace Bc := Bc.ext hb rfl
            replace Bd := Bd.ext hb rfl
            replace hw := hw.trans (hb.mono hw.size)
            clear hb
            obtain ⟨xa, ya, za, va⟩ := Ba.facts
            obtain ⟨xb, yb, zb, vb⟩ := Bb.facts
            obtain ⟨xc, yc, zc, vc⟩ := Bc.facts
            obtain ⟨xd, yd, zd, vd⟩ := Bd.facts
            go_wp2_with fail
            refine (u3 _).mono ?_
            rintro e w11 ⟨rfl, hb⟩
            clear xa ya za va xb yb zb vb xc yc zc vc xd yd zd vd
            replace Ba := Ba.ext hb rfl
            replace Bb := Bb.ext hb rfl
            replace Bc := Bc.ext hb rfl
            replace Bd := Bd.ext hb rfl
            replace hw := hw.trans (hb.mono hw.size)
            clear hb
            obtain ⟨xa, ya, za, va⟩ := Ba.facts
            obtain ⟨xb, yb, zb, vb⟩ := Bb.facts
            obtain ⟨xc, yc, zc, vc⟩ := Bc.facts
            obtain ⟨xd, yd, zd, vd⟩ := Bd.facts
            go_wp2_with fail
            refine (awake_any _).mono ?_
            rintro e w12 ⟨rfl, hb⟩
            clear xa ya za va xb yb zb vb xc yc zc vc xd yd zd vd
            replace Ba := Ba.ext hb rfl
            replace Bb := Bb.ext hb rfl
            replace Bc := Bc.ext hb rfl
            replace Bd := Bd.ext hb rfl
            replace hw := hw.trans (hb.mono hw.size)
            clear hb
            go_wp2
            go_ret
            exact ⟨rfl, hw⟩
          · obtain ⟨xa, ya, za, va⟩ := Ba.facts
            obtain ⟨xb, yb, zb, vb⟩ := Bb.facts
            obtain ⟨xc, yc, zc, vc⟩ := Bc.facts
            obtain ⟨xd, yd, zd, vd⟩ := Bd.facts
            go_wp2_with fail
            refine (u1 _).mono ?_
            rintro e w9 ⟨rfl, hb⟩
            clear xa ya za va xb yb zb vb xc yc zc vc xd yd zd vd
            replace Ba := Ba.ext hb rfl
            replace Bb := Bb.ext hb rfl
            replace Bc := Bc.ext hb rfl
            replace Bd := Bd.ext hb rfl
            replace hw := hw.trans (hb.mono hw.size)
            clear hb
            obtain ⟨xa, ya, za, va⟩ := Ba.facts
            obtain ⟨xb, yb, zb, vb⟩ := Bb.facts
            obtain ⟨xc, yc, zc, vc⟩ := Bc.facts
            obtain ⟨xd, yd, zd, vd⟩ := Bd.facts
            go_wp2_with fail
            refine (u2 _).mono ?_
            rintro e w10 ⟨rfl, hb⟩
            clear xa ya za va xb yb zb vb xc yc zc vc xd yd zd vd
            replace Ba := Ba.ext hb rfl
            replace Bb := Bb.ext hb rfl
            replace Bc := Bc.ext hb rfl
            replace Bd := Bd.ext hb rfl
            replace hw := hw.trans (hb.mono hw.size)
            clear hb
            obtain ⟨xa, ya, za, va⟩ := Ba.facts
            obtain ⟨xb, yb, zb, vb⟩ := Bb.facts
            obtain ⟨xc, yc, zc, vc⟩ := Bc.facts
            obtain ⟨xd, yd, zd, vd⟩ := Bd.facts
            go_wp2_with fail
            refine (u3 _).mono ?_
            rintro e w11 ⟨rfl, hb⟩
            clear xa ya za va xb yb zb vb xc yc zc vc xd yd zd vd
            replace Ba := Ba.ext hb rfl
            replace Bb := Bb.ext hb rfl
            replace Bc := Bc.ext hb rfl
            replace Bd := Bd.ext hb rfl
            replace hw := hw.trans (hb.mono hw.size)
            clear hb
            obtain ⟨xa, ya, za, va⟩ := Ba.facts
            obtain ⟨xb, yb, zb, vb⟩ := Bb.facts
            obtain ⟨xc, yc, zc, vc⟩ := Bc.facts
            obtain ⟨xd, yd, zd, vd⟩ := Bd.facts
            go_wp2_with fail
            refine (awake_any _).mono ?_
            rintro e w12 ⟨rfl, hb⟩
            clear xa ya za va xb yb zb vb xc yc zc vc xd yd zd vd
            replace Ba := Ba.ext hb rfl
            replace Bb := Bb.ext hb rfl
            replace Bc := Bc.ext hb rfl
            replace Bd := Bd.ext hb rfl
            replace hw := hw.trans (hb.mono hw.size)
            clear hb
            go_wp2
            go_ret
            exact ⟨rfl, hw⟩
      · have t2 : decide (n < 2) = true ∨ decide (n < 2) = false := by cases decide (n < 2) <;> simp
        clear E3
        rcases t2 with t2 | t2
        · obtain ⟨xa, ya, za, va⟩ := Ba.facts
          obtain ⟨xb, yb, zb, vb⟩ := Bb.facts
          obtain ⟨xc, yc, zc, vc⟩ := Bc.facts
          obtain ⟨xd, yd, zd, vd⟩ := Bd.facts
          go_wp2_with fail
          refine (u1 _).mono ?_
          rintro e w9 ⟨rfl, hb⟩
          clear xa ya za va xb yb zb vb xc yc zc vc xd yd zd vd
          replace Ba := Ba.ext hb rfl
          replace Bb := Bb.ext hb rfl
          replace Bc := Bc.ext hb rfl
          replace Bd := Bd.ext hb rfl
          replace hw := hw.trans (hb.mono hw.size)
          clear hb
          obtain ⟨xa, ya, za, va⟩ := Ba.facts
          obtain ⟨xb, yb, zb, vb⟩ := Bb.facts
          obtain ⟨xc, yc, zc, vc⟩ := Bc.facts
          obtain ⟨xd, yd, zd, vd⟩ := Bd.facts
          go_wp2_with fail
          refine (u2 _).mono ?_
          rintro e w10 ⟨rfl, hb⟩
          clear xa ya za va xb yb zb vb xc yc zc vc xd yd zd vd
          replace Ba := Ba.ext hb rfl
          replace Bb := Bb.ext hb rfl
          replace Bc := Bc.ext hb rfl
          replace Bd := Bd.ext hb rfl
          replace hw := hw.trans (hb.mono hw.size)
          clear hb
          obtain ⟨xa, ya, za, va⟩ := Ba.facts
          obtain ⟨xb, yb, zb, vb⟩ := Bb.facts
          obtain ⟨xc, yc, zc, vc⟩ := Bc.facts
          obtain ⟨xd, yd, zd, vd⟩ := Bd.facts
          go_wp2_with fail
          refine (awake_any _).mono ?_
          rintro e w11 ⟨rfl, hb⟩
          clear xa ya za va xb yb zb vb xc yc zc vc xd yd zd vd
          replace Ba := Ba.ext hb rfl
          replace Bb := Bb.ext hb rfl
          replace Bc := Bc.ext hb rfl
          replace Bd := Bd.ext hb rfl
          replace hw := hw.trans (hb.mono hw.size)
          clear hb
          go_wp2
          go_ret
          exact ⟨rfl, hw⟩
        · obtain ⟨xa, ya, za, va⟩ := Ba.facts
          obtain ⟨xb, yb, zb, vb⟩ := Bb.facts
          obtain ⟨xc, yc, zc, vc⟩ := Bc.facts
          obtain ⟨xd, yd, zd, vd⟩ := Bd.facts
          go_wp2_with fail
          refine (u1 _).mono ?_
          rintro e w9 ⟨rfl, hb⟩
          clear xa ya za va xb yb zb vb xc yc zc vc xd yd zd vd
          replace Ba := Ba.ext hb rfl
          replace Bb := Bb.ext hb rfl
          replace Bc := Bc.ext hb rfl
          replace Bd := Bd.ext hb rfl
          replace hw := hw.trans (hb.mono hw.size)
          clear hb
          obtain ⟨xa, ya, za, va⟩ := Ba.facts
          obtain ⟨xb, yb, zb, vb⟩ := Bb.facts
          obtain ⟨xc, yc, zc, vc⟩ := Bc.facts
          obtain ⟨xd, yd, zd, vd⟩ := Bd.facts
          go_wp2_with fail
          refine (u2 _).mono ?_
          rintro e w10 ⟨rfl, hb⟩
          clear xa ya za va xb yb zb vb xc yc zc vc xd yd zd vd
          replace Ba := Ba.ext hb rfl
          replace Bb := Bb.ext hb rfl
          replace Bc := Bc.ext hb rfl
          replace Bd := Bd.ext hb rfl
          replace hw := hw.trans (hb.mono hw.size)
          clear hb
          obtain ⟨xa, ya, za, va⟩ := Ba.facts
          obtain ⟨xb, yb, zb, vb⟩ := Bb.facts
          obtain ⟨xc, yc, zc, vc⟩ := Bc.facts
          obtain ⟨xd, yd, zd, vd⟩ := Bd.facts
          go_wp2_with fail
          refine (awake_any _).mono ?_
          rintro e w11 ⟨rfl, hb⟩
          clear xa ya za va xb yb zb vb xc yc zc vc xd yd zd vd
          replace Ba := Ba.ext hb rfl
          replace Bb := Bb.ext hb rfl
          replace Bc := Bc.ext hb rfl
          replace Bd := Bd.ext hb rfl
          replace hw := hw.trans (hb.mono hw.size)
          clear hb
          go_wp2
          go_ret
          exact ⟨rfl, hw⟩
    · have t2 : decide (n < 2) = true ∨ decide (n < 2) = false := by cases decide (n < 2) <;> simp
      clear E3
      rcases t2 with t2 | t2
      · obtain ⟨xa, ya, za, va⟩ := Ba.facts
        obtain ⟨xb, yb, zb, vb⟩ := Bb.facts
        obtain ⟨xc, yc, zc, vc⟩ := Bc.facts
        obtain ⟨xd, yd, zd, vd⟩ := Bd.facts
        go_wp2_with fail
        refine (u1 _).mono ?_
        rintro e w9 ⟨rfl, hb⟩
        clear xa ya za va xb yb zb vb xc yc zc vc xd yd zd vd
        replace Ba := Ba.ext hb rfl
        replace Bb := Bb.ext hb rfl
        replace Bc := Bc.ext hb rfl
        replace Bd := Bd.ext hb rfl
        replace hw := hw.trans (hb.mono hw.size)
        clear hb
        obtain ⟨xa, ya, za, va⟩ := Ba.facts
        obtain ⟨xb, yb, zb, vb⟩ := Bb.facts
        obtain ⟨xc, yc, zc, vc⟩ := Bc.facts
        obtain ⟨xd, yd, zd, vd⟩ := Bd.facts
        go_wp2_with fail
        refine (awake_any _).mono ?_
        rintro e w10 ⟨rfl, hb⟩
        clear xa ya za va xb yb zb vb xc yc zc vc xd yd zd vd
        replace Ba := Ba.ext hb rfl
        replace Bb := Bb.ext hb rfl
        replace Bc := Bc.ext hb rfl
        replace Bd := Bd.ext hb rfl
        replace hw := hw.trans (hb.mono hw.size)
        clear hb
        go_wp2
        go_ret
        exact ⟨rfl, hw⟩
      · obtain ⟨xa, ya, za, va⟩ := Ba.facts
        obtain ⟨xb, yb, zb, vb⟩ := Bb.facts
        obtain ⟨xc, yc, zc, vc⟩ := Bc.facts
        obtain ⟨xd, yd, zd, vd⟩ := Bd.facts
        go_wp2_with fail
        refine (u1 _).mono ?_
        rintro e w9 ⟨rfl, hb⟩
        clear xa ya za va xb yb zb vb xc yc zc vc xd yd zd vd
        replace Ba := Ba.ext hb rfl
        replace Bb := Bb.ext hb rfl
        replace Bc := Bc.ext hb rfl
        replace Bd := Bd.ext hb rfl
        replace hw := hw.trans (hb.mono hw.size)
        clear hb
        obtain ⟨xa, ya, za, va⟩ := Ba.facts
        obtain ⟨xb, yb, zb, vb⟩ := Bb.facts
        obtain ⟨xc, yc, zc, vc⟩ := Bc.facts
        obtain ⟨xd, yd, zd, vd⟩ := Bd.facts
        go_wp2_with fail
        refine (awake_any _).mono ?_
        rintro e w10 ⟨rfl, hb⟩
        clear xa ya za va xb yb zb vb xc yc zc vc xd yd zd vd
        replace Ba := Ba.ext hb rfl
        replace Bb := Bb.ext hb rfl
        replace Bc := Bc.ext hb rfl
        replace Bd := Bd.ext hb rfl
        replace hw := hw.trans (hb.mono hw.size)
        clear hb
        go_wp2
        go_ret
        exact ⟨rfl, hw⟩

theorem meets_law (a b c d : Pt) (w : World) :
    Calls Try.prog 6 #[.agg #[.int .i64 a.x, .int .i64 a.y], .agg #[.int .i64 b.x, .int .i64 b.y], .agg #[.int .i64 c.x, .int .i64 c.y], .agg #[.int .i64 d.x, .int .i64 d.y]] w fun e w' => e = .returned (.bool true) ∧ Below w.heap.size w w' := by
  cases ha : vld a with
  | false => exact meets_A a b c d ha w
  | true => cases hb : vld b with
    | false => exact meets_B a b c d ha hb w
    | true => cases he : peqI a.x a.y b.x b.y with
      | true => exact meets_C a b c d ha hb he w
      | false => exact meets_D a b c d ha hb he w
set_option maxRecDepth 100000 in
theorem exactMeets_lifted (os : Os) (started : os.Started) (H : Type) (enc : TypeId × Value → H) :
    ReturnsInHanded {} Try.checked os 6 .any (Rows.exactMeetsSpec.pre6 enc Try.prog Try.f6 Rows.exactMeetsRow.domain false) (Rows.exactMeetsSpec.post enc Try.prog Try.f6 false true false false) := by
  refine returnsInHanded_of_change (C := Try.checked) Try.own started (by kernel_rfl) Try.func6
    (ChangeSpec.witness6 (enc := enc) (C := Try.checked) false ⟨#[], #[.agg #[.int .i64 0, .int .i64 0], .agg #[.int .i64 0, .int .i64 0], .agg #[.int .i64 0, .int .i64 0], .agg #[.int .i64 0, .int .i64 0]], []⟩ 8 (by kernel_rfl) (by kernel_rfl) (by kernel_rfl) (by kernel_rfl)) ?_
  intro W base args ds gs before hval0 hW hcnd _
  have hval : ∀ (j : Nat) t v, Try.f6.params[j]? = some t → args[j]? = some v → Value.okWide Try.prog W .any base t v := hval0
  have hW' := hW
  obtain ⟨p, q, hA0, hV, rfl, hfz, hnd⟩ := hW
  have hA : DataW.TrodAll enc Try.prog W 0 (fun _ => true) true Try.f6.params.toList args.toList ds p := hA0
  rw [Try.params6] at hA hval
  obtain ⟨v0, v1, v2, v3, d0, d1, d2, d3, q0, q1, q2, q3, rfl, rfl, rfl, p0, p1, p2, p3⟩ := trodAll_four hA
  obtain ⟨rfl, rfl⟩ := trodVars_none hV
  obtain ⟨c0, e0, y0, z0, m0, rfl, rfl, rfl, hy0, hz0⟩ := Joins.open_agg2 Try.underlying23 (by kernel_rfl) (by kernel_rfl) (hval 0 23 v0 rfl rfl) p0
  obtain ⟨xa, f0, rfl, wxa⟩ := DataW.trod_int Try.underlying3 hy0
  obtain ⟨ya, g0, rfl, wya⟩ := DataW.trod_int Try.underlying3 hz0
  simp at f0 g0
  subst f0 g0
  obtain ⟨c1, e1, y1, z1, m1, rfl, rfl, rfl, hy1, hz1⟩ := Joins.open_agg2 Try.underlying23 (by kernel_rfl) (by kernel_rfl) (hval 1 23 v1 rfl rfl) p1
  obtain ⟨xb, f1, rfl, wxb⟩ := DataW.trod_int Try.underlying3 hy1
  obtain ⟨yb, g1, rfl, wyb⟩ := DataW.trod_int Try.underlying3 hz1
  simp at f1 g1
  subst f1 g1
  obtain ⟨c2, e2, y2, z2, m2, rfl, rfl, rfl, hy2, hz2⟩ := Joins.open_agg2 Try.underlying23 (by kernel_rfl) (by kernel_rfl) (hval 2 23 v2 rfl rfl) p2
  obtain ⟨xc, f2, rfl, wxc⟩ := DataW.trod_int Try.underlying3 hy2
  obtain ⟨yc, g2, rfl, wyc⟩ := DataW.trod_int Try.underlying3 hz2
  simp at f2 g2
  subst f2 g2
  obtain ⟨c3, e3, y3, z3, m3, rfl, rfl, rfl, hy3, hz3⟩ := Joins.open_agg2 Try.underlying23 (by kernel_rfl) (by kernel_rfl) (hval 3 23 v3 rfl rfl) p3
  obtain ⟨xd, f3, rfl, wxd⟩ := DataW.trod_int Try.underlying3 hy3
  obtain ⟨yd, g3, rfl, wyd⟩ := DataW.trod_int Try.underlying3 hz3
  simp at f3 g3
  subst f3 g3
  clear hA0 hval0
  simp only [List.append_nil] at hW'
  refine (meets_law ⟨xa, ya⟩ ⟨xb, yb⟩ ⟨xc, yc⟩ ⟨xd, yd⟩  W).mono fun e W' ⟨he, hb⟩ => ?_
  subst he
  exact ⟨_, rfl, post_of_below (pa := []) (pv := []) hW' (fun _ _ _ => trodAll_mk1 (shut_bool Try.underlying4 true)) (fun sp _ => trodAll_mk4 (Joins.shut_agg2 (y0 := (.lit (.int .i64 xa), [])) (y1 := (.lit (.int .i64 ya), [])) Try.underlying23 (by kernel_rfl) (by kernel_rfl) ⟨1, by simp [DataW.trod, Try.underlying3, wxa]⟩ ⟨1, by simp [DataW.trod, Try.underlying3, wya]⟩) (Joins.shut_agg2 (y0 := (.lit (.int .i64 xb), [])) (y1 := (.lit (.int .i64 yb), [])) Try.underlying23 (by kernel_rfl) (by kernel_rfl) ⟨1, by simp [DataW.trod, Try.underlying3, wxb]⟩ ⟨1, by simp [DataW.trod, Try.underlying3, wyb]⟩) (Joins.shut_agg2 (y0 := (.lit (.int .i64 xc), [])) (y1 := (.lit (.int .i64 yc), [])) Try.underlying23 (by kernel_rfl) (by kernel_rfl) ⟨1, by simp [DataW.trod, Try.underlying3, wxc]⟩ ⟨1, by simp [DataW.trod, Try.underlying3, wyc]⟩) (Joins.shut_agg2 (y0 := (.lit (.int .i64 xd), [])) (y1 := (.lit (.int .i64 yd), [])) Try.underlying23 (by kernel_rfl) (by kernel_rfl) ⟨1, by simp [DataW.trod, Try.underlying3, wxd]⟩ ⟨1, by simp [DataW.trod, Try.underlying3, wyd]⟩)) (fun _ _ => rfl) rfl hb (ok_one (by kernel_rfl) rfl (okWide_bool_mk Try.underlying4 true))⟩
/-- The law ExactMeets holds of every input. -/
theorem exactMeets_holds : Rows.ExactMeetsSaid :=
  OpenClaim.holds_of_wide 6 Try.f6 rfl rfl rfl rfl rfl rfl rfl ⟨rfl, rfl, rfl, rfl, rfl⟩ rfl rfl rfl rfl rfl (by kernel_rfl) Try.func6 (by kernel_rfl)
    (of_decide_eq_true (by kernel_rfl)) (by unfold Func.isWrapper; rw [if_neg (of_decide_eq_false (by kernel_rfl))]; exact ⟨rfl, rfl⟩)
    (fun os started H enc _ => exactMeets_lifted os started H enc)
end Go.Proofs.Ytmdehannbbpnaaa
