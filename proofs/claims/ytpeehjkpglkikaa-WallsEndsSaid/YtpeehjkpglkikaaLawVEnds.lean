/- A wall is found at both its ends, whichever is named first; on its inside by each point that is there, at no end: the law WallsEnds of package hectarelaw7 answers true at every input; no conditions. -/
import Derived.Test.YtpeehjkpglkikaaRows
import Derived.Test.YtpeehjkpglkikaaPut28
import Derived.Test.YtpeehjkpglkikaaPut29
import Derived.Test.YtpeehjkpglkikaaPut2
import Derived.WalkKit
import Derived.WalkSpells
import Derived.WalkLawsBesides
import Derived.Deep.QuietTactic
import Derived.BigQuiet
import Derived.Lib.Hide
import Derived.Handy
import Derived.Carry
import Derived.ProofKit
import Derived.Lib.SmallJoins
namespace Go.Proofs.Ytpeehjkpglkikaa
open Go.RowKit Go.Sort Go.ChangeShapes Go.WideShapes Go.ChangeAt
attribute [local go_sem] rOper rAt rUpon cell_set sg_i64 sg_u64 alloc_cell alloc_frozen
attribute [local go_sem 10000] pt_eql pt_neq wal_eql wal_neq
attribute [local irreducible] rWalk

set_option maxRecDepth 100000 in
theorem we_v (a : Pt) (x y k kd : Int) (h0 : vld a = false) (w : World) :
    Calls Try.prog 5 #[.agg #[.int .i64 a.x, .int .i64 a.y], .int .i64 x, .int .i64 y, .int .i64 k, .int .i64 kd] w fun e w' => e = .returned (.bool true) ∧ Below w.heap.size w w' := by
  go_enter Try.func5, Try.ntmps5
  have c1 := rvalid_any a
  rw [h0] at c1
  go_wp2_with fail
  refine at_call fun W1 hW => ?_
  have Ba : Box W1 (w.heap.size) [.int .i64 a.x, .int .i64 a.y] 33 := by rw [hW]; exact Box.new rfl
  have hw : Below w.heap.size w W1 := by rw [hW]; go_grown
  clear hW
  refine (c1 _).mono ?_
  rintro e w2 ⟨rfl, hb⟩
  replace Ba := Ba.ext hb rfl
  replace hw := hw.trans (hb.mono hw.size)
  clear hb
  obtain ⟨xa, ya, za, va⟩ := Ba.facts
  go_wp2_with fail
  refine (awake_any _).mono ?_
  rintro e w3 ⟨rfl, hb⟩
  clear xa ya za va
  replace Ba := Ba.ext hb rfl
  replace hw := hw.trans (hb.mono hw.size)
  clear hb
  obtain ⟨xa, ya, za, va⟩ := Ba.facts
  go_wp2
  go_ret
  exact ⟨rfl, hw⟩

set_option maxRecDepth 100000 in
theorem we_p0 (a : Pt) (x y k kd : Int) (h0 : vld a = true)  (h1 : decide (x < -50) = true) (w : World) :
    Calls Try.prog 5 #[.agg #[.int .i64 a.x, .int .i64 a.y], .int .i64 x, .int .i64 y, .int .i64 k, .int .i64 kd] w fun e w' => e = .returned (.bool true) ∧ Below w.heap.size w w' := by
  go_enter Try.func5, Try.ntmps5
  have c1 := rvalid_any a
  rw [h0] at c1
  go_wp2_with fail
  refine at_call fun W1 hW => ?_
  have Ba : Box W1 (w.heap.size) [.int .i64 a.x, .int .i64 a.y] 33 := by rw [hW]; exact Box.new rfl
  have hw : Below w.heap.size w W1 := by rw [hW]; go_grown
  clear hW
  refine (c1 _).mono ?_
  rintro e w2 ⟨rfl, hb⟩
  replace Ba := Ba.ext hb rfl
  replace hw := hw.trans (hb.mono hw.size)
  clear hb
  obtain ⟨xa, ya, za, va⟩ := Ba.facts
  go_wp2_with fail
  refine (awake_any _).mono ?_
  rintro e w3 ⟨rfl, hb⟩
  clear xa ya za va
  replace Ba := Ba.ext hb rfl
  replace hw := hw.trans (hb.mono hw.size)
  clear hb
  obtain ⟨xa, ya, za, va⟩ := Ba.facts
  go_wp2
  go_ret
  exact ⟨rfl, hw⟩

set_option maxRecDepth 100000 in
theorem we_p1 (a : Pt) (x y k kd : Int) (h0 : vld a = true) (h1 : decide (x < -50) = false) (h2 : decide (50 < x) = true) (w : World) :
    Calls Try.prog 5 #[.agg #[.int .i64 a.x, .int .i64 a.y], .int .i64 x, .int .i64 y, .int .i64 k, .int .i64 kd] w fun e w' => e = .returned (.bool true) ∧ Below w.heap.size w w' := by
  go_enter Try.func5, Try.ntmps5
  have c1 := rvalid_any a
  rw [h0] at c1
  go_wp2_with fail
  refine at_call fun W1 hW => ?_
  have Ba : Box W1 (w.heap.size) [.int .i64 a.x, .int .i64 a.y] 33 := by rw [hW]; exact Box.new rfl
  have hw : Below w.heap.size w W1 := by rw [hW]; go_grown
  clear hW
  refine (c1 _).mono ?_
  rintro e w2 ⟨rfl, hb⟩
  replace Ba := Ba.ext hb rfl
  replace hw := hw.trans (hb.mono hw.size)
  clear hb
  obtain ⟨xa, ya, za, va⟩ := Ba.facts
  go_wp2_with fail
  refine (awake_any _).mono ?_
  rintro e w3 ⟨rfl, hb⟩
  clear xa ya za va
  replace Ba := Ba.ext hb rfl
  replace hw := hw.trans (hb.mono hw.size)
  clear hb
  obtain ⟨xa, ya, za, va⟩ := Ba.facts
  go_wp2
  go_ret
  exact ⟨rfl, hw⟩

set_option maxRecDepth 100000 in
theorem we_p2 (a : Pt) (x y k kd : Int) (h0 : vld a = true) (h1 : decide (x < -50) = false) (h2 : decide (50 < x) = false) (h3 : decide (y < -50) = true) (w : World) :
    Calls Try.prog 5 #[.agg #[.int .i64 a.x, .int .i64 a.y], .int .i64 x, .int .i64 y, .int .i64 k, .int .i64 kd] w fun e w' => e = .returned (.bool true) ∧ Below w.heap.size w w' := by
  go_enter Try.func5, Try.ntmps5
  have c1 := rvalid_any a
  rw [h0] at c1
  go_wp2_with fail
  refine at_call fun W1 hW => ?_
  have Ba : Box W1 (w.heap.size) [.int .i64 a.x, .int .i64 a.y] 33 := by rw [hW]; exact Box.new rfl
  have hw : Below w.heap.size w W1 := by rw [hW]; go_grown
  clear hW
  refine (c1 _).mono ?_
  rintro e w2 ⟨rfl, hb⟩
  replace Ba := Ba.ext hb rfl
  replace hw := hw.trans (hb.mono hw.size)
  clear hb
  obtain ⟨xa, ya, za, va⟩ := Ba.facts
  go_wp2_with fail
  refine (awake_any _).mono ?_
  rintro e w3 ⟨rfl, hb⟩
  clear xa ya za va
  replace Ba := Ba.ext hb rfl
  replace hw := hw.trans (hb.mono hw.size)
  clear hb
  obtain ⟨xa, ya, za, va⟩ := Ba.facts
  go_wp2
  go_ret
  exact ⟨rfl, hw⟩

set_option maxRecDepth 100000 in
theorem we_p3 (a : Pt) (x y k kd : Int) (h0 : vld a = true) (h1 : decide (x < -50) = false) (h2 : decide (50 < x) = false) (h3 : decide (y < -50) = false) (h4 : decide (50 < y) = true) (w : World) :
    Calls Try.prog 5 #[.agg #[.int .i64 a.x, .int .i64 a.y], .int .i64 x, .int .i64 y, .int .i64 k, .int .i64 kd] w fun e w' => e = .returned (.bool true) ∧ Below w.heap.size w w' := by
  go_enter Try.func5, Try.ntmps5
  have c1 := rvalid_any a
  rw [h0] at c1
  go_wp2_with fail
  refine at_call fun W1 hW => ?_
  have Ba : Box W1 (w.heap.size) [.int .i64 a.x, .int .i64 a.y] 33 := by rw [hW]; exact Box.new rfl
  have hw : Below w.heap.size w W1 := by rw [hW]; go_grown
  clear hW
  refine (c1 _).mono ?_
  rintro e w2 ⟨rfl, hb⟩
  replace Ba := Ba.ext hb rfl
  replace hw := hw.trans (hb.mono hw.size)
  clear hb
  obtain ⟨xa, ya, za, va⟩ := Ba.facts
  go_wp2_with fail
  refine (awake_any _).mono ?_
  rintro e w3 ⟨rfl, hb⟩
  clear xa ya za va
  replace Ba := Ba.ext hb rfl
  replace hw := hw.trans (hb.mono hw.size)
  clear hb
  obtain ⟨xa, ya, za, va⟩ := Ba.facts
  go_wp2
  go_ret
  exact ⟨rfl, hw⟩

set_option maxRecDepth 100000 in
theorem we_p4 (a : Pt) (x y k kd : Int) (h0 : vld a = true) (h1 : decide (x < -50) = false) (h2 : decide (50 < x) = false) (h3 : decide (y < -50) = false) (h4 : decide (50 < y) = false) (h5 : decide (k < 1) = true) (w : World) :
    Calls Try.prog 5 #[.agg #[.int .i64 a.x, .int .i64 a.y], .int .i64 x, .int .i64 y, .int .i64 k, .int .i64 kd] w fun e w' => e = .returned (.bool true) ∧ Below w.heap.size w w' := by
  go_enter Try.func5, Try.ntmps5
  have c1 := rvalid_any a
  rw [h0] at c1
  go_wp2_with fail
  refine at_call fun W1 hW => ?_
  have Ba : Box W1 (w.heap.size) [.int .i64 a.x, .int .i64 a.y] 33 := by rw [hW]; exact Box.new rfl
  have hw : Below w.heap.size w W1 := by rw [hW]; go_grown
  clear hW
  refine (c1 _).mono ?_
  rintro e w2 ⟨rfl, hb⟩
  replace Ba := Ba.ext hb rfl
  replace hw := hw.trans (hb.mono hw.size)
  clear hb
  obtain ⟨xa, ya, za, va⟩ := Ba.facts
  go_wp2_with fail
  refine (awake_any _).mono ?_
  rintro e w3 ⟨rfl, hb⟩
  clear xa ya za va
  replace Ba := Ba.ext hb rfl
  replace hw := hw.trans (hb.mono hw.size)
  clear hb
  obtain ⟨xa, ya, za, va⟩ := Ba.facts
  go_wp2
  go_ret
  exact ⟨rfl, hw⟩

set_option maxRecDepth 100000 in
theorem we_p5 (a : Pt) (x y k kd : Int) (h0 : vld a = true) (h1 : decide (x < -50) = false) (h2 : decide (50 < x) = false) (h3 : decide (y < -50) = false) (h4 : decide (50 < y) = false) (h5 : decide (k < 1) = false) (h6 : decide (20 < k) = true) (w : World) :
    Calls Try.prog 5 #[.agg #[.int .i64 a.x, .int .i64 a.y], .int .i64 x, .int .i64 y, .int .i64 k, .int .i64 kd] w fun e w' => e = .returned (.bool true) ∧ Below w.heap.size w w' := by
  go_enter Try.func5, Try.ntmps5
  have c1 := rvalid_any a
  rw [h0] at c1
  go_wp2_with fail
  refine at_call fun W1 hW => ?_
  have Ba : Box W1 (w.heap.size) [.int .i64 a.x, .int .i64 a.y] 33 := by rw [hW]; exact Box.new rfl
  have hw : Below w.heap.size w W1 := by rw [hW]; go_grown
  clear hW
  refine (c1 _).mono ?_
  rintro e w2 ⟨rfl, hb⟩
  replace Ba := Ba.ext hb rfl
  replace hw := hw.trans (hb.mono hw.size)
  clear hb
  obtain ⟨xa, ya, za, va⟩ := Ba.facts
  go_wp2_with fail
  refine (awake_any _).mono ?_
  rintro e w3 ⟨rfl, hb⟩
  clear xa ya za va
  replace Ba := Ba.ext hb rfl
  replace hw := hw.trans (hb.mono hw.size)
  clear hb
  obtain ⟨xa, ya, za, va⟩ := Ba.facts
  go_wp2
  go_ret
  exact ⟨rfl, hw⟩

set_option maxRecDepth 100000 in
set_option maxHeartbeats 1000000 in
theorem we_b (a b : Pt) (X : Wl) (x y k kd : Int) (h0 : vld a = true) (h1 : decide (x < -50) = false) (h2 : decide (50 < x) = false) (h3 : decide (y < -50) = false) (h4 : decide (50 < y) = false) (h5 : decide (k < 1) = false) (h6 : decide (20 < k) = false) (mx my : Int) (f1 : wrap64 (k * x) = mx) (f2 : wrap64 (a.x + mx) = b.x) (f3 : wrap64 (k * y) = my) (f4 : wrap64 (a.y + my) = b.y) (c2 : ∀ w, Calls Try.prog 16 #[.agg #[.int .i64 a.x, .int .i64 a.y], .agg #[.int .i64 b.x, .int .i64 b.y], .int .i64 kd] w fun e w' => e = .returned (.tuple #[.agg #[.int .i64 X.A.x, .int .i64 X.A.y, .int .i64 X.B.x, .int .i64 X.B.y, .int .i64 X.K], .bool false]) ∧ Below w.heap.size w w') (hb : vld b = false) (w : World) :
    Calls Try.prog 5 #[.agg #[.int .i64 a.x, .int .i64 a.y], .int .i64 x, .int .i64 y, .int .i64 k, .int .i64 kd] w fun e w' => e = .returned (.bool true) ∧ Below w.heap.size w w' := by
  go_enter Try.func5, Try.ntmps5
  have c1 := rvalid_any a
  rw [h0] at c1
  have c3 := rvalid_any b
  go_wp2_with fail
  refine at_call fun W1 hW => ?_
  have Ba : Box W1 (w.heap.size) [.int .i64 a.x, .int .i64 a.y] 33 := by rw [hW]; exact Box.new rfl
  have hw : Below w.heap.size w W1 := by rw [hW]; go_grown
  clear hW
  refine (c1 _).mono ?_
  rintro e w2 ⟨rfl, hb⟩
  replace Ba := Ba.ext hb rfl
  replace hw := hw.trans (hb.mono hw.size)
  clear hb
  obtain ⟨xa, ya, za, va⟩ := Ba.facts
  go_wp2_with fail
  refine at_call fun W3 hW => ?_
  obtain ⟨bkb, hbb⟩ : ∃ b, w2.heap.size = b := ⟨_, rfl⟩
  rw [hbb]
  have lab := Ba.lt
  rw [hbb] at lab
  have fb := hw.size
  rw [hbb] at fb
  have Bb : Box W3 bkb [.int .i64 b.x, .int .i64 b.y] 33 := by rw [hW]; exact Box.new hbb.symm
  replace Ba : Box W3 (w.heap.size) [.int .i64 a.x, .int .i64 a.y] 33 := by rw [hW]; exact Ba.old _
  replace hw : Below w.heap.size w W3 := by have hl := hw.size; rw [hW]; go_grown
  clear hW hbb
  refine (c2 _).mono ?_
  rintro e w4 ⟨rfl, hb⟩
  clear xa ya za va
  replace Ba := Ba.ext hb rfl
  replace Bb := Bb.ext hb rfl
  replace hw := hw.trans (hb.mono hw.size)
  clear hb
  obtain ⟨xa, ya, za, va⟩ := Ba.facts
  obtain ⟨xb, yb, zb, vb⟩ := Bb.facts
  go_wp2_with fail
  refine at_call fun W5 hW => ?_
  obtain ⟨bkw, hbw⟩ : ∃ b, w4.heap.size = b := ⟨_, rfl⟩
  rw [hbw]
  have law := Ba.lt
  rw [hbw] at law
  have lbw := Bb.lt
  rw [hbw] at lbw
  have fw := hw.size
  rw [hbw] at fw
  have Bw : Box W5 bkw [.int .i64 X.A.x, .int .i64 X.A.y, .int .i64 X.B.x, .int .i64 X.B.y, .int .i64 X.K] 35 := by rw [hW]; exact Box.new hbw.symm
  replace Ba : Box W5 (w.heap.size) [.int .i64 a.x, .int .i64 a.y] 33 := by rw [hW]; exact Ba.old _
  replace Bb : Box W5 (bkb) [.int .i64 b.x, .int .i64 b.y] 33 := by rw [hW]; exact Bb.old _
  replace hw : Below w.heap.size w W5 := by have hl := hw.size; rw [hW]; go_grown
  clear hW hbw
  rw [hb] at c3
  refine (c3 _).mono ?_
  rintro e w6 ⟨rfl, hb⟩
  clear xa ya za va xb yb zb vb
  replace Ba := Ba.ext hb rfl
  replace Bb := Bb.ext hb rfl
  replace Bw := Bw.ext hb rfl
  replace hw := hw.trans (hb.mono hw.size)
  clear hb
  obtain ⟨xa, ya, za, va⟩ := Ba.facts
  obtain ⟨xb, yb, zb, vb⟩ := Bb.facts
  obtain ⟨xw, yw, zw, vw⟩ := Bw.facts
  go_wp2_with fail
  refine (awake_any _).mono ?_
  rintro e w7 ⟨rfl, hb⟩
  clear xa ya za va xb yb zb vb xw yw zw vw
  replace Ba := Ba.ext hb rfl
  replace Bb := Bb.ext hb rfl
  replace Bw := Bw.ext hb rfl
  replace hw := hw.trans (hb.mono hw.size)
  clear hb
  obtain ⟨xa, ya, za, va⟩ := Ba.facts
  obtain ⟨xb, yb, zb, vb⟩ := Bb.facts
  obtain ⟨xw, yw, zw, vw⟩ := Bw.facts
  go_wp2
  go_ret
  exact ⟨rfl, hw⟩

set_option maxRecDepth 100000 in
set_option maxHeartbeats 1000000 in
theorem we_e (a b : Pt) (X : Wl) (x y k kd : Int) (h0 : vld a = true) (h1 : decide (x < -50) = false) (h2 : decide (50 < x) = false) (h3 : decide (y < -50) = false) (h4 : decide (50 < y) = false) (h5 : decide (k < 1) = false) (h6 : decide (20 < k) = false) (mx my : Int) (f1 : wrap64 (k * x) = mx) (f2 : wrap64 (a.x + mx) = b.x) (f3 : wrap64 (k * y) = my) (f4 : wrap64 (a.y + my) = b.y) (c2 : ∀ w, Calls Try.prog 16 #[.agg #[.int .i64 a.x, .int .i64 a.y], .agg #[.int .i64 b.x, .int .i64 b.y], .int .i64 kd] w fun e w' => e = .returned (.tuple #[.agg #[.int .i64 X.A.x, .int .i64 X.A.y, .int .i64 X.B.x, .int .i64 X.B.y, .int .i64 X.K], .bool false]) ∧ Below w.heap.size w w') (hb : vld b = true) (he : peqI a.x a.y b.x b.y = true) (w : World) :
    Calls Try.prog 5 #[.agg #[.int .i64 a.x, .int .i64 a.y], .int .i64 x, .int .i64 y, .int .i64 k, .int .i64 kd] w fun e w' => e = .returned (.bool true) ∧ Below w.heap.size w w' := by
  go_enter Try.func5, Try.ntmps5
  have c1 := rvalid_any a
  rw [h0] at c1
  have c3 := rvalid_any b
  go_wp2_with fail
  refine at_call fun W1 hW => ?_
  have Ba : Box W1 (w.heap.size) [.int .i64 a.x, .int .i64 a.y] 33 := by rw [hW]; exact Box.new rfl
  have hw : Below w.heap.size w W1 := by rw [hW]; go_grown
  clear hW
  refine (c1 _).mono ?_
  rintro e w2 ⟨rfl, hb⟩
  replace Ba := Ba.ext hb rfl
  replace hw := hw.trans (hb.mono hw.size)
  clear hb
  obtain ⟨xa, ya, za, va⟩ := Ba.facts
  go_wp2_with fail
  refine at_call fun W3 hW => ?_
  obtain ⟨bkb, hbb⟩ : ∃ b, w2.heap.size = b := ⟨_, rfl⟩
  rw [hbb]
  have lab := Ba.lt
  rw [hbb] at lab
  have fb := hw.size
  rw [hbb] at fb
  have Bb : Box W3 bkb [.int .i64 b.x, .int .i64 b.y] 33 := by rw [hW]; exact Box.new hbb.symm
  replace Ba : Box W3 (w.heap.size) [.int .i64 a.x, .int .i64 a.y] 33 := by rw [hW]; exact Ba.old _
  replace hw : Below w.heap.size w W3 := by have hl := hw.size; rw [hW]; go_grown
  clear hW hbb
  refine (c2 _).mono ?_
  rintro e w4 ⟨rfl, hb⟩
  clear xa ya za va
  replace Ba := Ba.ext hb rfl
  replace Bb := Bb.ext hb rfl
  replace hw := hw.trans (hb.mono hw.size)
  clear hb
  obtain ⟨xa, ya, za, va⟩ := Ba.facts
  obtain ⟨xb, yb, zb, vb⟩ := Bb.facts
  go_wp2_with fail
  refine at_call fun W5 hW => ?_
  obtain ⟨bkw, hbw⟩ : ∃ b, w4.heap.size = b := ⟨_, rfl⟩
  rw [hbw]
  have law := Ba.lt
  rw [hbw] at law
  have lbw := Bb.lt
  rw [hbw] at lbw
  have fw := hw.size
  rw [hbw] at fw
  have Bw : Box W5 bkw [.int .i64 X.A.x, .int .i64 X.A.y, .int .i64 X.B.x, .int .i64 X.B.y, .int .i64 X.K] 35 := by rw [hW]; exact Box.new hbw.symm
  replace Ba : Box W5 (w.heap.size) [.int .i64 a.x, .int .i64 a.y] 33 := by rw [hW]; exact Ba.old _
  replace Bb : Box W5 (bkb) [.int .i64 b.x, .int .i64 b.y] 33 := by rw [hW]; exact Bb.old _
  replace hw : Below w.heap.size w W5 := by have hl := hw.size; rw [hW]; go_grown
  clear hW hbw
  rw [hb] at c3
  refine (c3 _).mono ?_
  rintro e w6 ⟨rfl, hb⟩
  clear xa ya za va xb yb zb vb
  replace Ba := Ba.ext hb rfl
  replace Bb := Bb.ext hb rfl
  replace Bw := Bw.ext hb rfl
  replace hw := hw.trans (hb.mono hw.size)
  clear hb
  obtain ⟨xa, ya, za, va⟩ := Ba.facts
  obtain ⟨xb, yb, zb, vb⟩ := Bb.facts
  obtain ⟨xw, yw, zw, vw⟩ := Bw.facts
  go_wp2_with fail
  refine (awake_any _).mono ?_
  rintro e w7 ⟨rfl, hb⟩
  clear xa ya za va xb yb zb vb xw yw zw vw
  replace Ba := Ba.ext hb rfl
  replace Bb := Bb.ext hb rfl
  replace Bw := Bw.ext hb rfl
  replace hw := hw.trans (hb.mono hw.size)
  clear hb
  obtain ⟨xa, ya, za, va⟩ := Ba.facts
  obtain ⟨xb, yb, zb, vb⟩ := Bb.facts
  obtain ⟨xw, yw, zw, vw⟩ := Bw.facts
  go_wp2
  go_ret
  exact ⟨rfl, hw⟩

set_option maxRecDepth 100000 in
set_option maxHeartbeats 1000000 in
theorem we_k (a b : Pt) (X : Wl) (x y k kd : Int) (h0 : vld a = true) (h1 : decide (x < -50) = false) (h2 : decide (50 < x) = false) (h3 : decide (y < -50) = false) (h4 : decide (50 < y) = false) (h5 : decide (k < 1) = false) (h6 : decide (20 < k) = false) (mx my : Int) (f1 : wrap64 (k * x) = mx) (f2 : wrap64 (a.x + mx) = b.x) (f3 : wrap64 (k * y) = my) (f4 : wrap64 (a.y + my) = b.y) (c2 : ∀ w, Calls Try.prog 16 #[.agg #[.int .i64 a.x, .int .i64 a.y], .agg #[.int .i64 b.x, .int .i64 b.y], .int .i64 kd] w fun e w' => e = .returned (.tuple #[.agg #[.int .i64 X.A.x, .int .i64 X.A.y, .int .i64 X.B.x, .int .i64 X.B.y, .int .i64 X.K], .bool false]) ∧ Below w.heap.size w w') (hb : vld b = true) (he : peqI a.x a.y b.x b.y = false) (k1 : (kd != 1) = true) (k2 : (kd != 2) = true) (w : World) :
    Calls Try.prog 5 #[.agg #[.int .i64 a.x, .int .i64 a.y], .int .i64 x, .int .i64 y, .int .i64 k, .int .i64 kd] w fun e w' => e = .returned (.bool true) ∧ Below w.heap.size w w' := by
  go_enter Try.func5, Try.ntmps5
  have c1 := rvalid_any a
  rw [h0] at c1
  have c3 := rvalid_any b
  go_wp2_with fail
  refine at_call fun W1 hW => ?_
  have Ba : Box W1 (w.heap.size) [.int .i64 a.x, .int .i64 a.y] 33 := by rw [hW]; exact Box.new rfl
  have hw : Below w.heap.size w W1 := by rw [hW]; go_grown
  clear hW
  refine (c1 _).mono ?_
  rintro e w2 ⟨rfl, hb⟩
  replace Ba := Ba.ext hb rfl
  replace hw := hw.trans (hb.mono hw.size)
  clear hb
  obtain ⟨xa, ya, za, va⟩ := Ba.facts
  go_wp2_with fail
  refine at_call fun W3 hW => ?_
  obtain ⟨bkb, hbb⟩ : ∃ b, w2.heap.size = b := ⟨_, rfl⟩
  rw [hbb]
  have lab := Ba.lt
  rw [hbb] at lab
  have fb := hw.size
  rw [hbb] at fb
  have Bb : Box W3 bkb [.int .i64 b.x, .int .i64 b.y] 33 := by rw [hW]; exact Box.new hbb.symm
  replace Ba : Box W3 (w.heap.size) [.int .i64 a.x, .int .i64 a.y] 33 := by rw [hW]; exact Ba.old _
  replace hw : Below w.heap.size w W3 := by have hl := hw.size; rw [hW]; go_grown
  clear hW hbb
  refine (c2 _).mono ?_
  rintro e w4 ⟨rfl, hb⟩
  clear xa ya za va
  replace Ba := Ba.ext hb rfl
  replace Bb := Bb.ext hb rfl
  replace hw := hw.trans (hb.mono hw.size)
  clear hb
  obtain ⟨xa, ya, za, va⟩ := Ba.facts
  obtain ⟨xb, yb, zb, vb⟩ := Bb.facts
  go_wp2_with fail
  refine at_call fun W5 hW => ?_
  obtain ⟨bkw, hbw⟩ : ∃ b, w4.heap.size = b := ⟨_, rfl⟩
  rw [hbw]
  have law := Ba.lt
  rw [hbw] at law
  have lbw := Bb.lt
  rw [hbw] at lbw
  have fw := hw.size
  rw [hbw] at fw
  have Bw : Box W5 bkw [.int .i64 X.A.x, .int .i64 X.A.y, .int .i64 X.B.x, .int .i64 X.B.y, .int .i64 X.K] 35 := by rw [hW]; exact Box.new hbw.symm
  replace Ba : Box W5 (w.heap.size) [.int .i64 a.x, .int .i64 a.y] 33 := by rw [hW]; exact Ba.old _
  replace Bb : Box W5 (bkb) [.int .i64 b.x, .int .i64 b.y] 33 := by rw [hW]; exact Bb.old _
  replace hw : Below w.heap.size w W5 := by have hl := hw.size; rw [hW]; go_grown
  clear hW hbw
  rw [hb] at c3
  refine (c3 _).mono ?_
  rintro e w6 ⟨rfl, hb⟩
  clear xa ya za va xb yb zb vb
  replace Ba := Ba.ext hb rfl
  replace Bb := Bb.ext hb rfl
  replace Bw := Bw.ext hb rfl
  replace hw := hw.trans (hb.mono hw.size)
  clear hb
  obtain ⟨xa, ya, za, va⟩ := Ba.facts
  obtain ⟨xb, yb, zb, vb⟩ := Bb.facts
  obtain ⟨xw, yw, zw, vw⟩ := Bw.facts
  go_wp2_with fail
  refine (awake_any _).mono ?_
  rintro e w7 ⟨rfl, hb⟩
  clear xa ya za va xb yb zb vb xw yw zw vw
  replace Ba := Ba.ext hb rfl
  replace Bb := Bb.ext hb rfl
  replace Bw := Bw.ext hb rfl
  replace hw := hw.trans (hb.mono hw.size)
  clear hb
  obtain ⟨xa, ya, za, va⟩ := Ba.facts
  obtain ⟨xb, yb, zb, vb⟩ := Bb.facts
  obtain ⟨xw, yw, zw, vw⟩ := Bw.facts
  go_wp2
  go_ret
  exact ⟨rfl, hw⟩

set_option maxRecDepth 100000 in
set_option maxHeartbeats 4000000 in
theorem we_main1 (a b : Pt) (X : Wl) (x y k : Int) (h0 : vld a = true) (h1 : decide (x < -50) = false) (h2 : decide (50 < x) = false) (h3 : decide (y < -50) = false) (h4 : decide (50 < y) = false) (h5 : decide (k < 1) = false) (h6 : decide (20 < k) = false) (mx my : Int) (f1 : wrap64 (k * x) = mx) (f2 : wrap64 (a.x + mx) = b.x) (f3 : wrap64 (k * y) = my) (f4 : wrap64 (a.y + my) = b.y) (c2 : ∀ w, Calls Try.prog 16 #[.agg #[.int .i64 a.x, .int .i64 a.y], .agg #[.int .i64 b.x, .int .i64 b.y], .int .i64 1] w fun e w' => e = .returned (.tuple #[.agg #[.int .i64 X.A.x, .int .i64 X.A.y, .int .i64 X.B.x, .int .i64 X.B.y, .int .i64 X.K], .bool true]) ∧ Below w.heap.size w w') (hb : vld b = true) (he : peqI a.x a.y b.x b.y = false) (n : Nat) (hn20 : n ≤ 20) (hk : k = n) (hg : GoodW X) (ck1 : kindW [X] (lo2 a b) (hi2 a b) = 1) (ck2 : kindW [X] (lo2 b a) (hi2 b a) = 1) (cta : (bgL [X] a).filter (endW a) = [X]) (ctb : (bgL [X] b).filter (endW b) = [X]) (con : ∀ i : Nat, i ≤ n → (bgL [X] (pI a x y i)).find? (onW (pI a x y i)) = if 0 < i ∧ i < n then some X else none) (hgp : ∀ i : Nat, i ≤ n → ∃ nx ny : Int, wrap64 ((i : Int) * x) = nx ∧ wrap64 (a.x + nx) = (pI a x y i).x ∧ wrap64 ((i : Int) * y) = ny ∧ wrap64 (a.y + ny) = (pI a x y i).y) (ccl : clashW [X] a b = 5) (crm : remE [X] (lo2 b a) (hi2 b a) = 0 ∧ remL [X] (lo2 b a) (hi2 b a) = []) (w : World) :
    Calls Try.prog 5 #[.agg #[.int .i64 a.x, .int .i64 a.y], .int .i64 x, .int .i64 y, .int .i64 k, .int .i64 1] w fun e w' => e = .returned (.bool true) ∧ Below w.heap.size w w' := by
  go_enter Try.func5, Try.ntmps5
  have hX := hg
  subst hk
  have c1 := rvalid_any a
  rw [h0] at c1
  have c3 := rvalid_any b
  go_wp2_with fail
  refine at_call fun W1 hW => ?_
  have Ba : Box W1 (w.heap.size) [.int .i64 a.x, .int .i64 a.y] 33 := by rw [hW]; exact Box.new rfl
  have hw : Below w.heap.size w W1 := by rw [hW]; go_grown
  clear hW
  refine (c1 _).mono ?_
  rintro e w2 ⟨rfl, hb⟩
  replace Ba := Ba.ext hb rfl
  replace hw := hw.trans (hb.mono hw.size)
  clear hb
  obtain ⟨xa, ya, za, va⟩ := Ba.facts
  go_wp2_with fail
  refine at_call fun W3 hW => ?_
  obtain ⟨bkb, hbb⟩ : ∃ b, w2.heap.size = b := ⟨_, rfl⟩
  rw [hbb]
  have lab := Ba.lt
  rw [hbb] at lab
  have fb := hw.size
  rw [hbb] at fb
  have Bb : Box W3 bkb [.int .i64 b.x, .int .i64 b.y] 33 := by rw [hW]; exact Box.new hbb.symm
  replace Ba : Box W3 (w.heap.size) [.int .i64 a.x, .int .i64 a.y] 33 := by rw [hW]; exact Ba.old _
  replace hw : Below w.heap.size w W3 := by have hl := hw.size; rw [hW]; go_grown
  clear hW hbb
  refine (c2 _).mono ?_
  rintro e w4 ⟨rfl, hb⟩
  clear xa ya za va
  replace Ba := Ba.ext hb rfl
  replace Bb := Bb.ext hb rfl
  replace hw := hw.trans (hb.mono hw.size)
  clear hb
  obtain ⟨xa, ya, za, va⟩ := Ba.facts
  obtain ⟨xb, yb, zb, vb⟩ := Bb.facts
  go_wp2_with fail
  refine at_call fun W5 hW => ?_
  obtain ⟨bkw, hbw⟩ : ∃ b, w4.heap.size = b := ⟨_, rfl⟩
  rw [hbw]
  have law := Ba.lt
  rw [hbw] at law
  have lbw := Bb.lt
  rw [hbw] at lbw
  have fw := hw.size
  rw [hbw] at fw
  have Bw : Box W5 bkw [.int .i64 X.A.x, .int .i64 X.A.y, .int .i64 X.B.x, .int .i64 X.B.y, .int .i64 X.K] 35 := by rw [hW]; exact Box.new hbw.symm
  replace Ba : Box W5 (w.heap.size) [.int .i64 a.x, .int .i64 a.y] 33 := by rw [hW]; exact Ba.old _
  replace Bb : Box W5 (bkb) [.int .i64 b.x, .int .i64 b.y] 33 := by rw [hW]; exact Bb.old _
  replace hw : Below w.heap.size w W5 := by have hl := hw.size; rw [hW]; go_grown
  clear hW hbw
  rw [hb] at c3
  clear hX
  refine (c3 _).mono ?_
  rintro e w6 ⟨rfl, hb⟩
  clear xa ya za va xb yb zb vb
  replace Ba := Ba.ext hb rfl
  replace Bb := Bb.ext hb rfl
  replace Bw := Bw.ext hb rfl
  replace hw := hw.trans (hb.mono hw.size)
  clear hb
  obtain ⟨xa, ya, za, va⟩ := Ba.facts
  obtain ⟨xb, yb, zb, vb⟩ := Bb.facts
  obtain ⟨xw, yw, zw, vw⟩ := Bw.facts
  go_wp2_with fail
  refine at_call fun W7 hW => ?_
  obtain ⟨bkl1, hbl1⟩ : ∃ b, w6.heap.size = b := ⟨_, rfl⟩
  rw [hbl1]
  have lal1 := Ba.lt
  rw [hbl1] at lal1
  have lbl1 := Bb.lt
  rw [hbl1] at lbl1
  have lwl1 := Bw.lt
  rw [hbl1] at lwl1
  have fl1 := hw.size
  rw [hbl1] at fl1
  have Bl1 : Box W7 bkl1 [.int .i64 X.A.x, .int .i64 X.A.y, .int .i64 X.B.x, .int .i64 X.B.y, .int .i64 X.K] 35 := by rw [hW]; exact Box.new hbl1.symm
  replace Ba : Box W7 (w.heap.size) [.int .i64 a.x, .int .i64 a.y] 33 := by rw [hW]; exact Ba.old _
  replace Bb : Box W7 (bkb) [.int .i64 b.x, .int .i64 b.y] 33 := by rw [hW]; exact Bb.old _
  replace Bw : Box W7 (bkw) [.int .i64 X.A.x, .int .i64 X.A.y, .int .i64 X.B.x, .int .i64 X.B.y, .int .i64 X.K] 35 := by rw [hW]; exact Bw.old _
  replace hw : Below w.heap.size w W7 := by have hl := hw.size; rw [hW]; go_grown
  clear hW hbl1
  refine (new_one X hg _ W7 Bl1).mono ?_
  rintro e w8 ⟨sb, v, rfl, S, hs0, hv0, hbb⟩
  clear xa ya za va xb yb zb vb xw yw zw vw
  have la0 := Ba.lt
  replace Ba := Ba.ext hbb rfl
  have lb0 := Bb.lt
  replace Bb := Bb.ext hbb rfl
  have lw0 := Bw.lt
  replace Bw := Bw.ext hbb rfl
  have ll10 := Bl1.lt
  replace Bl1 := Bl1.ext hbb rfl
  have hsb : w.heap.size ≤ sb := Nat.le_trans hw.size hs0
  have hv : ∀ g, v.ownBlock = some g → w.heap.size ≤ g := fun g e => Nat.le_trans hw.size (hv0 g e)
  have nFa : ¬ Foot sb v _ := foot_old la0 hs0 hv0
  have nFb : ¬ Foot sb v _ := foot_old lb0 hs0 hv0
  have nFw : ¬ Foot sb v _ := foot_old lw0 hs0 hv0
  have nFl1 : ¬ Foot sb v _ := foot_old ll10 hs0 hv0
  replace hw := hw.trans (hbb.mono hw.size)
  clear hbb
  obtain ⟨xa, ya, za, va⟩ := Ba.facts
  obtain ⟨xb, yb, zb, vb⟩ := Bb.facts
  obtain ⟨xw, yw, zw, vw⟩ := Bw.facts
  go_wp2_with fail
  obtain ⟨a_k1, c_k1c, hvf, R⟩ := S.rd
  have c_qk1 := kind_any sb a_k1 c_k1c 1 [X] a b w8 R
  clear R hvf
  rw [ck1] at c_qk1
  refine (c_qk1).mono ?_
  rintro e w9 ⟨rfl, hb⟩
  clear xa ya za va xb yb zb vb xw yw zw vw
  replace Ba := Ba.ext hb rfl
  replace Bb := Bb.ext hb rfl
  replace Bw := Bw.ext hb rfl
  replace S := S.ext hb rfl
  replace hw := hw.trans (hb.mono hw.size)
  clear hb
  clear a_k1 c_k1c
  obtain ⟨xa, ya, za, va⟩ := Ba.facts
  obtain ⟨xb, yb, zb, vb⟩ := Bb.facts
  obtain ⟨xw, yw, zw, vw⟩ := Bw.facts
  go_wp2_with fail
  obtain ⟨a_k2, c_k2c, hvf, R⟩ := S.rd
  have c_qk2 := kind_any sb a_k2 c_k2c 1 [X] b a w9 R
  clear R hvf
  rw [ck2] at c_qk2
  refine (c_qk2).mono ?_
  rintro e w10 ⟨rfl, hb⟩
  clear xa ya za va xb yb zb vb xw yw zw vw
  replace Ba := Ba.ext hb rfl
  replace Bb := Bb.ext hb rfl
  replace Bw := Bw.ext hb rfl
  replace S := S.ext hb rfl
  replace hw := hw.trans (hb.mono hw.size)
  clear hb
  clear a_k2 c_k2c
  obtain ⟨xa, ya, za, va⟩ := Ba.facts
  obtain ⟨xb, yb, zb, vb⟩ := Bb.facts
  obtain ⟨xw, yw, zw, vw⟩ := Bw.facts
  go_wp2_with fail
  obtain ⟨a_ta, c_tac, hvf, R⟩ := S.rd
  have c_qta := at_any sb a_ta c_tac 1 [X] a w10 R
  clear R hvf
  rw [cta] at c_qta
  refine (c_qta).mono ?_
  rintro e w11 ⟨vta, rfl, hrow, hb⟩
  clear xa ya za va xb yb zb vb xw yw zw vw
  replace Ba := Ba.ext hb rfl
  replace Bb := Bb.ext hb rfl
  replace Bw := Bw.ext hb rfl
  replace S := S.ext hb rfl
  replace hw := hw.trans (hb.mono hw.size)
  clear hb
  obtain ⟨ata, ctac, rfl, _⟩ := hrow.row
  clear hrow a_ta c_tac
  obtain ⟨xa, ya, za, va⟩ := Ba.facts
  obtain ⟨xb, yb, zb, vb⟩ := Bb.facts
  obtain ⟨xw, yw, zw, vw⟩ := Bw.facts
  go_wp2_with fail
  obtain ⟨a_tb, c_tbc, hvf, R⟩ := S.rd
  have c_qtb := at_any sb a_tb c_tbc 1 [X] b w11 R
  clear R hvf
  rw [ctb] at c_qtb
  refine (c_qtb).mono ?_
  rintro e w12 ⟨vtb, rfl, hrow, hb⟩
  clear xa ya za va xb yb zb vb xw yw zw vw
  replace Ba := Ba.ext hb rfl
  replace Bb := Bb.ext hb rfl
  replace Bw := Bw.ext hb rfl
  replace S := S.ext hb rfl
  replace hw := hw.trans (hb.mono hw.size)
  clear hb
  obtain ⟨atb, ctbc, rfl, _⟩ := hrow.row
  clear hrow a_tb c_tbc
  obtain ⟨xa, ya, za, va⟩ := Ba.facts
  obtain ⟨xb, yb, zb, vb⟩ := Bb.facts
  obtain ⟨xw, yw, zw, vw⟩ := Bw.facts
  go_wp2_with fail
  clear xa ya za va xb yb zb vb xw yw zw vw
  have HBa := Lib.hid Ba
  have HBb := Lib.hid Bb
  have HBw := Lib.hid Bw
  have HS := Lib.hid S
  have HW := Lib.hid hw
  have hn0 : 0 ≤ n := Nat.zero_le _
  go_loopw [16, 17, 18, 19] (fun vi _ _ _ wr => ∃ i : Nat, vi = .int .i64 i ∧ i ≤ n + 1 ∧ Below w.heap.size w wr ∧ SetAt wr sb v [X] ∧ Box wr (w.heap.size) [.int .i64 a.x, .int .i64 a.y] 33 ∧ Box wr (bkb) [.int .i64 b.x, .int .i64 b.y] 33 ∧ Box wr (bkw) [.int .i64 X.A.x, .int .i64 X.A.y, .int .i64 X.B.x, .int .i64 X.B.y, .int .i64 X.K] 35) (fun vi _ _ _ _ => n + 1 - (intOf vi).toNat)
  case atStart => exact ⟨0, rfl, Nat.zero_le _, HW.out, HS.out, HBa.out, HBb.out, HBw.out⟩
  case round =>
    clear HW HS HBa HBb HBw
    obtain ⟨i, rfl, hi, hw, S, Ba, Bb, Bw⟩ := hrel
    have hwe : weqI X.A.x X.A.y X.B.x X.B.y X.K X.A.x X.A.y X.B.x X.B.y X.K = true := weqI_iff.2 rfl
    by_cases hin : i ≤ n
    · obtain ⟨nx, ny, g1, g2, g3, g4⟩ := hgp i hin
      have hcon := con i hin
      generalize pI a x y i = P at *
      have q0 : (i : Int) ≤ (n : Int) := by omega
      obtain ⟨xa, ya, za, va⟩ := Ba.facts
      obtain ⟨xb, yb, zb, vb⟩ := Bb.facts
      obtain ⟨xw, yw, zw, vw⟩ := Bw.facts
      have HBa := Lib.hid Ba
      have HBb := Lib.hid Bb
      have HBw := Lib.hid Bw
      have HS := Lib.hid S
      have HW := Lib.hid hw
      have hs0 := S.rd
      clear Ba Bb Bw S
      go_wp2_with fail
      refine at_call fun W2 hW => ?_
      have BP : Box W2 wr.heap.size [.int .i64 P.x, .int .i64 P.y] 33 := by rw [hW]; exact Box.new rfl
      have Ba : Box W2 (w.heap.size) [.int .i64 a.x, .int .i64 a.y] 33 := by rw [hW]; exact HBa.out.old _
      have Bb : Box W2 (bkb) [.int .i64 b.x, .int .i64 b.y] 33 := by rw [hW]; exact HBb.out.old _
      have Bw : Box W2 (bkw) [.int .i64 X.A.x, .int .i64 X.A.y, .int .i64 X.B.x, .int .i64 X.B.y, .int .i64 X.K] 35 := by rw [hW]; exact HBw.out.old _
      have S : SetAt W2 sb v [X] := by rw [hW]; exact HS.out.alloc _
      have hw2 : Below w.heap.size w W2 := by have hl := hw.size; rw [hW]; go_grown
      clear hW xa ya za va xb yb zb vb xw yw zw vw HBa HBb HBw HS HW hs0 hw
      obtain ⟨a9, c9, hvf, R⟩ := S.rd
      have co := on_set_any sb a9 c9 1 [X] P W2 R
      rw [hcon] at co
      clear R hvf
      by_cases hio : 0 < i ∧ i < n
      · rw [if_pos hio] at co
        simp only [onV] at co
        have z1 : decide ((0 : Int) < (i : Int)) = true := by have := hio.1; simp; omega
        have z2 : decide ((i : Int) < (n : Int)) = true := by have := hio.2; simp; omega
        have z3 : (0 : Int) < (i : Int) := by have := hio.1; omega
        have z4 : (i : Int) < (n : Int) := by have := hio.2; omega
        refine co.mono ?_
        rintro e w3 ⟨rfl, hb⟩
        replace Ba := Ba.ext hb rfl
        replace Bb := Bb.ext hb rfl
        replace Bw := Bw.ext hb rfl
        replace S := S.ext hb rfl
        replace hw2 := hw2.trans (hb.mono hw2.size)
        clear hb hcon hio
        obtain ⟨xw, yw, zw, vw⟩ := Bw.facts
        go_wp2
        go_roundw
        case rel => exact ⟨i + 1, by go_num, by omega, by have hl := hw2.size; go_grown, S.alloc _, Ba.old _, Bb.old _, Bw.old _⟩
        case measure => simp [intOf]; omega
      · rw [if_neg hio] at co
        simp only [onV] at co
        by_cases hi0 : i = 0
        · have z1 : decide ((0 : Int) < (i : Int)) = false := by simp; omega
          have z3 : ¬ (0 : Int) < (i : Int) := by omega
          refine co.mono ?_
          rintro e w3 ⟨rfl, hb⟩
          replace Ba := Ba.ext hb rfl
          replace Bb := Bb.ext hb rfl
          replace Bw := Bw.ext hb rfl
          replace S := S.ext hb rfl
          replace hw2 := hw2.trans (hb.mono hw2.size)
          clear hb hcon hio
          obtain ⟨xw, yw, zw, vw⟩ := Bw.facts
          go_wp2
          go_roundw
          case rel => exact ⟨i + 1, by go_num, by omega, by have hl := hw2.size; go_grown, S.alloc _, Ba.old _, Bb.old _, Bw.old _⟩
          case measure => simp [intOf]; omega
        · have z1 : decide ((0 : Int) < (i : Int)) = true := by simp; omega
          have z3 : (0 : Int) < (i : Int) := by omega
          have z2 : decide ((i : Int) < (n : Int)) = false := by simp; omega
          have z4 : ¬ (i : Int) < (n : Int) := by omega
          refine co.mono ?_
          rintro e w3 ⟨rfl, hb⟩
          replace Ba := Ba.ext hb rfl
          replace Bb := Bb.ext hb rfl
          replace Bw := Bw.ext hb rfl
          replace S := S.ext hb rfl
          replace hw2 := hw2.trans (hb.mono hw2.size)
          clear hb hcon hio
          obtain ⟨xw, yw, zw, vw⟩ := Bw.facts
          go_wp2
          go_roundw
          case rel => exact ⟨i + 1, by go_num, by omega, by have hl := hw2.size; go_grown, S.alloc _, Ba.old _, Bb.old _, Bw.old _⟩
          case measure => simp [intOf]; omega
    · have q0 : ¬ (i : Int) ≤ (n : Int) := by omega
      obtain ⟨a_cl, c_clc, hvf, R⟩ := S.rd
      have c_qcl := clash_any sb a_cl c_clc 1 [X] a b wr R
      clear R hvf
      rw [ccl] at c_qcl
      obtain ⟨xa, ya, za, va⟩ := Ba.facts
      obtain ⟨xb, yb, zb, vb⟩ := Bb.facts
      obtain ⟨xw, yw, zw, vw⟩ := Bw.facts
      go_wp2_with fail
      refine (c_qcl).mono ?_
      rintro e w13 ⟨rfl, hb⟩
      clear xa ya za va xb yb zb vb xw yw zw vw
      replace Ba := Ba.ext hb rfl
      replace Bb := Bb.ext hb rfl
      replace Bw := Bw.ext hb rfl
      replace S := S.ext hb rfl
      replace hw := hw.trans (hb.mono hw.size)
      clear hb
      obtain ⟨xa, ya, za, va⟩ := Ba.facts
      obtain ⟨xb, yb, zb, vb⟩ := Bb.facts
      obtain ⟨xw, yw, zw, vw⟩ := Bw.facts
      go_wp2_with fail
      refine (rem_any sb v [X] b a _ S).mono ?_
      rintro e w14 ⟨v2, rfl, S2, hfr, hfs⟩
      clear xa ya za va xb yb zb vb xw yw zw vw
      have Bal := Ba.lt
      have Bbl := Bb.lt
      have Bwl := Bw.lt
      replace Ba := hfr.box Ba nFa
      replace Bb := hfr.box Bb nFb
      replace Bw := hfr.box Bw nFw
      replace nFa := foot_fresh hfs nFa (by first | exact Bal | exact Nat.lt_succ_of_lt Bal)
      replace nFb := foot_fresh hfs nFb (by first | exact Bbl | exact Nat.lt_succ_of_lt Bbl)
      replace nFw := foot_fresh hfs nFw (by first | exact Bwl | exact Nat.lt_succ_of_lt Bwl)
      have hv2 := fresh_lo hfs hv (by first | exact hw.size | exact Nat.le_succ_of_le hw.size)
      replace hw := hw.trans (hfr.below (foot_lo hsb hv) hw.size)
      have S := S2
      clear S2 hfr hfs
      rw [crm.1]
      rw [crm.2] at S
      replace hv := hv2
      clear hv2
      obtain ⟨xa, ya, za, va⟩ := Ba.facts
      obtain ⟨xb, yb, zb, vb⟩ := Bb.facts
      obtain ⟨xw, yw, zw, vw⟩ := Bw.facts
      go_wp2_with fail
      obtain ⟨a_ln, c_lnc, hvf, R⟩ := S.rd
      have c_qln := len_any sb a_ln c_lnc 0 [] w14 R
      clear R hvf
      refine (c_qln).mono ?_
      rintro e w15 ⟨rfl, hb⟩
      clear xa ya za va xb yb zb vb xw yw zw vw
      replace Ba := Ba.ext hb rfl
      replace Bb := Bb.ext hb rfl
      replace Bw := Bw.ext hb rfl
      replace S := S.ext hb rfl
      replace hw := hw.trans (hb.mono hw.size)
      clear hb
      obtain ⟨xa, ya, za, va⟩ := Ba.facts
      obtain ⟨xb, yb, zb, vb⟩ := Bb.facts
      obtain ⟨xw, yw, zw, vw⟩ := Bw.facts
      go_wp2_with fail
      refine (awake_any _).mono ?_
      rintro e w16 ⟨rfl, hb⟩
      clear xa ya za va xb yb zb vb xw yw zw vw
      replace Ba := Ba.ext hb rfl
      replace Bb := Bb.ext hb rfl
      replace Bw := Bw.ext hb rfl
      replace S := S.ext hb rfl
      replace hw := hw.trans (hb.mono hw.size)
      clear hb
      obtain ⟨xa, ya, za, va⟩ := Ba.facts
      obtain ⟨xb, yb, zb, vb⟩ := Bb.facts
      obtain ⟨xw, yw, zw, vw⟩ := Bw.facts
      go_wp2
      go_ret
      exact ⟨rfl, hw⟩

set_option maxRecDepth 100000 in
set_option maxHeartbeats 4000000 in
theorem we_main2 (a b : Pt) (X : Wl) (x y k : Int) (h0 : vld a = true) (h1 : decide (x < -50) = false) (h2 : decide (50 < x) = false) (h3 : decide (y < -50) = false) (h4 : decide (50 < y) = false) (h5 : decide (k < 1) = false) (h6 : decide (20 < k) = false) (mx my : Int) (f1 : wrap64 (k * x) = mx) (f2 : wrap64 (a.x + mx) = b.x) (f3 : wrap64 (k * y) = my) (f4 : wrap64 (a.y + my) = b.y) (c2 : ∀ w, Calls Try.prog 16 #[.agg #[.int .i64 a.x, .int .i64 a.y], .agg #[.int .i64 b.x, .int .i64 b.y], .int .i64 2] w fun e w' => e = .returned (.tuple #[.agg #[.int .i64 X.A.x, .int .i64 X.A.y, .int .i64 X.B.x, .int .i64 X.B.y, .int .i64 X.K], .bool true]) ∧ Below w.heap.size w w') (hb : vld b = true) (he : peqI a.x a.y b.x b.y = false) (n : Nat) (hn20 : n ≤ 20) (hk : k = n) (hg : GoodW X) (ck1 : kindW [X] (lo2 a b) (hi2 a b) = 2) (ck2 : kindW [X] (lo2 b a) (hi2 b a) = 2) (cta : (bgL [X] a).filter (endW a) = [X]) (ctb : (bgL [X] b).filter (endW b) = [X]) (con : ∀ i : Nat, i ≤ n → (bgL [X] (pI a x y i)).find? (onW (pI a x y i)) = if 0 < i ∧ i < n then some X else none) (hgp : ∀ i : Nat, i ≤ n → ∃ nx ny : Int, wrap64 ((i : Int) * x) = nx ∧ wrap64 (a.x + nx) = (pI a x y i).x ∧ wrap64 ((i : Int) * y) = ny ∧ wrap64 (a.y + ny) = (pI a x y i).y) (ccl : clashW [X] a b = 5) (crm : remE [X] (lo2 b a) (hi2 b a) = 0 ∧ remL [X] (lo2 b a) (hi2 b a) = []) (w : World) :
    Calls Try.prog 5 #[.agg #[.int .i64 a.x, .int .i64 a.y], .int .i64 x, .int .i64 y, .int .i64 k, .int .i64 2] w fun e w' => e = .returned (.bool true) ∧ Below w.heap.size w w' := by
  go_enter Try.func5, Try.ntmps5
  have hX := hg
  subst hk
  have c1 := rvalid_any a
  rw [h0] at c1
  have c3 := rvalid_any b
  go_wp2_with fail
  refine at_call fun W1 hW => ?_
  have Ba : Box W1 (w.heap.size) [.int .i64 a.x, .int .i64 a.y] 33 := by rw [hW]; exact Box.new rfl
  have hw : Below w.heap.size w W1 := by rw [hW]; go_grown
  clear hW
  refine (c1 _).mono ?_
  rintro e w2 ⟨rfl, hb⟩
  replace Ba := Ba.ext hb rfl
  replace hw := hw.trans (hb.mono hw.size)
  clear hb
  obtain ⟨xa, ya, za, va⟩ := Ba.facts
  go_wp2_with fail
  refine at_call fun W3 hW => ?_
  obtain ⟨bkb, hbb⟩ : ∃ b, w2.heap.size = b := ⟨_, rfl⟩
  rw [hbb]
  have lab := Ba.lt
  rw [hbb] at lab
  have fb := hw.size
  rw [hbb] at fb
  have Bb : Box W3 bkb [.int .i64 b.x, .int .i64 b.y] 33 := by rw [hW]; exact Box.new hbb.symm
  replace Ba : Box W3 (w.heap.size) [.int .i64 a.x, .int .i64 a.y] 33 := by rw [hW]; exact Ba.old _
  replace hw : Below w.heap.size w W3 := by have hl := hw.size; rw [hW]; go_grown
  clear hW hbb
  refine (c2 _).mono ?_
  rintro e w4 ⟨rfl, hb⟩
  clear xa ya za va
  replace Ba := Ba.ext hb rfl
  replace Bb := Bb.ext hb rfl
  replace hw := hw.trans (hb.mono hw.size)
  clear hb
  obtain ⟨xa, ya, za, va⟩ := Ba.facts
  obtain ⟨xb, yb, zb, vb⟩ := Bb.facts
  go_wp2_with fail
  refine at_call fun W5 hW => ?_
  obtain ⟨bkw, hbw⟩ : ∃ b, w4.heap.size = b := ⟨_, rfl⟩
  rw [hbw]
  have law := Ba.lt
  rw [hbw] at law
  have lbw := Bb.lt
  rw [hbw] at lbw
  have fw := hw.size
  rw [hbw] at fw
  have Bw : Box W5 bkw [.int .i64 X.A.x, .int .i64 X.A.y, .int .i64 X.B.x, .int .i64 X.B.y, .int .i64 X.K] 35 := by rw [hW]; exact Box.new hbw.symm
  replace Ba : Box W5 (w.heap.size) [.int .i64 a.x, .int .i64 a.y] 33 := by rw [hW]; exact Ba.old _
  replace Bb : Box W5 (bkb) [.int .i64 b.x, .int .i64 b.y] 33 := by rw [hW]; exact Bb.old _
  replace hw : Below w.heap.size w W5 := by have hl := hw.size; rw [hW]; go_grown
  clear hW hbw
  rw [hb] at c3
  clear hX
  refine (c3 _).mono ?_
  rintro e w6 ⟨rfl, hb⟩
  clear xa ya za va xb yb zb vb
  replace Ba := Ba.ext hb rfl
  replace Bb := Bb.ext hb rfl
  replace Bw := Bw.ext hb rfl
  replace hw := hw.trans (hb.mono hw.size)
  clear hb
  obtain ⟨xa, ya, za, va⟩ := Ba.facts
  obtain ⟨xb, yb, zb, vb⟩ := Bb.facts
  obtain ⟨xw, yw, zw, vw⟩ := Bw.facts
  go_wp2_with fail
  refine at_call fun W7 hW => ?_
  obtain ⟨bkl1, hbl1⟩ : ∃ b, w6.heap.size = b := ⟨_, rfl⟩
  rw [hbl1]
  have lal1 := Ba.lt
  rw [hbl1] at lal1
  have lbl1 := Bb.lt
  rw [hbl1] at lbl1
  have lwl1 := Bw.lt
  rw [hbl1] at lwl1
  have fl1 := hw.size
  rw [hbl1] at fl1
  have Bl1 : Box W7 bkl1 [.int .i64 X.A.x, .int .i64 X.A.y, .int .i64 X.B.x, .int .i64 X.B.y, .int .i64 X.K] 35 := by rw [hW]; exact Box.new hbl1.symm
  replace Ba : Box W7 (w.heap.size) [.int .i64 a.x, .int .i64 a.y] 33 := by rw [hW]; exact Ba.old _
  replace Bb : Box W7 (bkb) [.int .i64 b.x, .int .i64 b.y] 33 := by rw [hW]; exact Bb.old _
  replace Bw : Box W7 (bkw) [.int .i64 X.A.x, .int .i64 X.A.y, .int .i64 X.B.x, .int .i64 X.B.y, .int .i64 X.K] 35 := by rw [hW]; exact Bw.old _
  replace hw : Below w.heap.size w W7 := by have hl := hw.size; rw [hW]; go_grown
  clear hW hbl1
  refine (new_one X hg _ W7 Bl1).mono ?_
  rintro e w8 ⟨sb, v, rfl, S, hs0, hv0, hbb⟩
  clear xa ya za va xb yb zb vb xw yw zw vw
  have la0 := Ba.lt
  replace Ba := Ba.ext hbb rfl
  have lb0 := Bb.lt
  replace Bb := Bb.ext hbb rfl
  have lw0 := Bw.lt
  replace Bw := Bw.ext hbb rfl
  have ll10 := Bl1.lt
  replace Bl1 := Bl1.ext hbb rfl
  have hsb : w.heap.size ≤ sb := Nat.le_trans hw.size hs0
  have hv : ∀ g, v.ownBlock = some g → w.heap.size ≤ g := fun g e => Nat.le_trans hw.size (hv0 g e)
  have nFa : ¬ Foot sb v _ := foot_old la0 hs0 hv0
  have nFb : ¬ Foot sb v _ := foot_old lb0 hs0 hv0
  have nFw : ¬ Foot sb v _ := foot_old lw0 hs0 hv0
  have nFl1 : ¬ Foot sb v _ := foot_old ll10 hs0 hv0
  replace hw := hw.trans (hbb.mono hw.size)
  clear hbb
  obtain ⟨xa, ya, za, va⟩ := Ba.facts
  obtain ⟨xb, yb, zb, vb⟩ := Bb.facts
  obtain ⟨xw, yw, zw, vw⟩ := Bw.facts
  go_wp2_with fail
  obtain ⟨a_k1, c_k1c, hvf, R⟩ := S.rd
  have c_qk1 := kind_any sb a_k1 c_k1c 1 [X] a b w8 R
  clear R hvf
  rw [ck1] at c_qk1
  refine (c_qk1).mono ?_
  rintro e w9 ⟨rfl, hb⟩
  clear xa ya za va xb yb zb vb xw yw zw vw
  replace Ba := Ba.ext hb rfl
  replace Bb := Bb.ext hb rfl
  replace Bw := Bw.ext hb rfl
  replace S := S.ext hb rfl
  replace hw := hw.trans (hb.mono hw.size)
  clear hb
  clear a_k1 c_k1c
  obtain ⟨xa, ya, za, va⟩ := Ba.facts
  obtain ⟨xb, yb, zb, vb⟩ := Bb.facts
  obtain ⟨xw, yw, zw, vw⟩ := Bw.facts
  go_wp2_with fail
  obtain ⟨a_k2, c_k2c, hvf, R⟩ := S.rd
  have c_qk2 := kind_any sb a_k2 c_k2c 1 [X] b a w9 R
  clear R hvf
  rw [ck2] at c_qk2
  refine (c_qk2).mono ?_
  rintro e w10 ⟨rfl, hb⟩
  clear xa ya za va xb yb zb vb xw yw zw vw
  replace Ba := Ba.ext hb rfl
  replace Bb := Bb.ext hb rfl
  replace Bw := Bw.ext hb rfl
  replace S := S.ext hb rfl
  replace hw := hw.trans (hb.mono hw.size)
  clear hb
  clear a_k2 c_k2c
  obtain ⟨xa, ya, za, va⟩ := Ba.facts
  obtain ⟨xb, yb, zb, vb⟩ := Bb.facts
  obtain ⟨xw, yw, zw, vw⟩ := Bw.facts
  go_wp2_with fail
  obtain ⟨a_ta, c_tac, hvf, R⟩ := S.rd
  have c_qta := at_any sb a_ta c_tac 1 [X] a w10 R
  clear R hvf
  rw [cta] at c_qta
  refine (c_qta).mono ?_
  rintro e w11 ⟨vta, rfl, hrow, hb⟩
  clear xa ya za va xb yb zb vb xw yw zw vw
  replace Ba := Ba.ext hb rfl
  replace Bb := Bb.ext hb rfl
  replace Bw := Bw.ext hb rfl
  replace S := S.ext hb rfl
  replace hw := hw.trans (hb.mono hw.size)
  clear hb
  obtain ⟨ata, ctac, rfl, _⟩ := hrow.row
  clear hrow a_ta c_tac
  obtain ⟨xa, ya, za, va⟩ := Ba.facts
  obtain ⟨xb, yb, zb, vb⟩ := Bb.facts
  obtain ⟨xw, yw, zw, vw⟩ := Bw.facts
  go_wp2_with fail
  obtain ⟨a_tb, c_tbc, hvf, R⟩ := S.rd
  have c_qtb := at_any sb a_tb c_tbc 1 [X] b w11 R
  clear R hvf
  rw [ctb] at c_qtb
  refine (c_qtb).mono ?_
  rintro e w12 ⟨vtb, rfl, hrow, hb⟩
  clear xa ya za va xb yb zb vb xw yw zw vw
  replace Ba := Ba.ext hb rfl
  replace Bb := Bb.ext hb rfl
  replace Bw := Bw.ext hb rfl
  replace S := S.ext hb rfl
  replace hw := hw.trans (hb.mono hw.size)
  clear hb
  obtain ⟨atb, ctbc, rfl, _⟩ := hrow.row
  clear hrow a_tb c_tbc
  obtain ⟨xa, ya, za, va⟩ := Ba.facts
  obtain ⟨xb, yb, zb, vb⟩ := Bb.facts
  obtain ⟨xw, yw, zw, vw⟩ := Bw.facts
  go_wp2_with fail
  clear xa ya za va xb yb zb vb xw yw zw vw
  have HBa := Lib.hid Ba
  have HBb := Lib.hid Bb
  have HBw := Lib.hid Bw
  have HS := Lib.hid S
  have HW := Lib.hid hw
  have hn0 : 0 ≤ n := Nat.zero_le _
  go_loopw [16, 17, 18, 19] (fun vi _ _ _ wr => ∃ i : Nat, vi = .int .i64 i ∧ i ≤ n + 1 ∧ Below w.heap.size w wr ∧ SetAt wr sb v [X] ∧ Box wr (w.heap.size) [.int .i64 a.x, .int .i64 a.y] 33 ∧ Box wr (bkb) [.int .i64 b.x, .int .i64 b.y] 33 ∧ Box wr (bkw) [.int .i64 X.A.x, .int .i64 X.A.y, .int .i64 X.B.x, .int .i64 X.B.y, .int .i64 X.K] 35) (fun vi _ _ _ _ => n + 1 - (intOf vi).toNat)
  case atStart => exact ⟨0, rfl, Nat.zero_le _, HW.out, HS.out, HBa.out, HBb.out, HBw.out⟩
  case round =>
    clear HW HS HBa HBb HBw
    obtain ⟨i, rfl, hi, hw, S, Ba, Bb, Bw⟩ := hrel
    have hwe : weqI X.A.x X.A.y X.B.x X.B.y X.K X.A.x X.A.y X.B.x X.B.y X.K = true := weqI_iff.2 rfl
    by_cases hin : i ≤ n
    · obtain ⟨nx, ny, g1, g2, g3, g4⟩ := hgp i hin
      have hcon := con i hin
      generalize pI a x y i = P at *
      have q0 : (i : Int) ≤ (n : Int) := by omega
      obtain ⟨xa, ya, za, va⟩ := Ba.facts
      obtain ⟨xb, yb, zb, vb⟩ := Bb.facts
      obtain ⟨xw, yw, zw, vw⟩ := Bw.facts
      have HBa := Lib.hid Ba
      have HBb := Lib.hid Bb
      have HBw := Lib.hid Bw
      have HS := Lib.hid S
      have HW := Lib.hid hw
      have hs0 := S.rd
      clear Ba Bb Bw S
      go_wp2_with fail
      refine at_call fun W2 hW => ?_
      have BP : Box W2 wr.heap.size [.int .i64 P.x, .int .i64 P.y] 33 := by rw [hW]; exact Box.new rfl
      have Ba : Box W2 (w.heap.size) [.int .i64 a.x, .int .i64 a.y] 33 := by rw [hW]; exact HBa.out.old _
      have Bb : Box W2 (bkb) [.int .i64 b.x, .int .i64 b.y] 33 := by rw [hW]; exact HBb.out.old _
      have Bw : Box W2 (bkw) [.int .i64 X.A.x, .int .i64 X.A.y, .int .i64 X.B.x, .int .i64 X.B.y, .int .i64 X.K] 35 := by rw [hW]; exact HBw.out.old _
      have S : SetAt W2 sb v [X] := by rw [hW]; exact HS.out.alloc _
      have hw2 : Below w.heap.size w W2 := by have hl := hw.size; rw [hW]; go_grown
      clear hW xa ya za va xb yb zb vb xw yw zw vw HBa HBb HBw HS HW hs0 hw
      obtain ⟨a9, c9, hvf, R⟩ := S.rd
      have co := on_set_any sb a9 c9 1 [X] P W2 R
      rw [hcon] at co
      clear R hvf
      by_cases hio : 0 < i ∧ i < n
      · rw [if_pos hio] at co
        simp only [onV] at co
        have z1 : decide ((0 : Int) < (i : Int)) = true := by have := hio.1; simp; omega
        have z2 : decide ((i : Int) < (n : Int)) = true := by have := hio.2; simp; omega
        have z3 : (0 : Int) < (i : Int) := by have := hio.1; omega
        have z4 : (i : Int) < (n : Int) := by have := hio.2; omega
        refine co.mono ?_
        rintro e w3 ⟨rfl, hb⟩
        replace Ba := Ba.ext hb rfl
        replace Bb := Bb.ext hb rfl
        replace Bw := Bw.ext hb rfl
        replace S := S.ext hb rfl
        replace hw2 := hw2.trans (hb.mono hw2.size)
        clear hb hcon hio
        obtain ⟨xw, yw, zw, vw⟩ := Bw.facts
        go_wp2
        go_roundw
        case rel => exact ⟨i + 1, by go_num, by omega, by have hl := hw2.size; go_grown, S.alloc _, Ba.old _, Bb.old _, Bw.old _⟩
        case measure => simp [intOf]; omega
      · rw [if_neg hio] at co
        simp only [onV] at co
        by_cases hi0 : i = 0
        · have z1 : decide ((0 : Int) < (i : Int)) = false := by simp; omega
          have z3 : ¬ (0 : Int) < (i : Int) := by omega
          refine co.mono ?_
          rintro e w3 ⟨rfl, hb⟩
          replace Ba := Ba.ext hb rfl
          replace Bb := Bb.ext hb rfl
          replace Bw := Bw.ext hb rfl
          replace S := S.ext hb rfl
          replace hw2 := hw2.trans (hb.mono hw2.size)
          clear hb hcon hio
          obtain ⟨xw, yw, zw, vw⟩ := Bw.facts
          go_wp2
          go_roundw
          case rel => exact ⟨i + 1, by go_num, by omega, by have hl := hw2.size; go_grown, S.alloc _, Ba.old _, Bb.old _, Bw.old _⟩
          case measure => simp [intOf]; omega
        · have z1 : decide ((0 : Int) < (i : Int)) = true := by simp; omega
          have z3 : (0 : Int) < (i : Int) := by omega
          have z2 : decide ((i : Int) < (n : Int)) = false := by simp; omega
          have z4 : ¬ (i : Int) < (n : Int) := by omega
          refine co.mono ?_
          rintro e w3 ⟨rfl, hb⟩
          replace Ba := Ba.ext hb rfl
          replace Bb := Bb.ext hb rfl
          replace Bw := Bw.ext hb rfl
          replace S := S.ext hb rfl
          replace hw2 := hw2.trans (hb.mono hw2.size)
          clear hb hcon hio
          obtain ⟨xw, yw, zw, vw⟩ := Bw.facts
          go_wp2
          go_roundw
          case rel => exact ⟨i + 1, by go_num, by omega, by have hl := hw2.size; go_grown, S.alloc _, Ba.old _, Bb.old _, Bw.old _⟩
          case measure => simp [intOf]; omega
    · have q0 : ¬ (i : Int) ≤ (n : Int) := by omega
      obtain ⟨a_cl, c_clc, hvf, R⟩ := S.rd
      have c_qcl := clash_any sb a_cl c_clc 1 [X] a b wr R
      clear R hvf
      rw [ccl] at c_qcl
      obtain ⟨xa, ya, za, va⟩ := Ba.facts
      obtain ⟨xb, yb, zb, vb⟩ := Bb.facts
      obtain ⟨xw, yw, zw, vw⟩ := Bw.facts
      go_wp2_with fail
      refine (c_qcl).mono ?_
      rintro e w13 ⟨rfl, hb⟩
      clear xa ya za va xb yb zb vb xw yw zw vw
      replace Ba := Ba.ext hb rfl
      replace Bb := Bb.ext hb rfl
      replace Bw := Bw.ext hb rfl
      replace S := S.ext hb rfl
      replace hw := hw.trans (hb.mono hw.size)
      clear hb
      obtain ⟨xa, ya, za, va⟩ := Ba.facts
      obtain ⟨xb, yb, zb, vb⟩ := Bb.facts
      obtain ⟨xw, yw, zw, vw⟩ := Bw.facts
      go_wp2_with fail
      refine (rem_any sb v [X] b a _ S).mono ?_
      rintro e w14 ⟨v2, rfl, S2, hfr, hfs⟩
      clear xa ya za va xb yb zb vb xw yw zw vw
      have Bal := Ba.lt
      have Bbl := Bb.lt
      have Bwl := Bw.lt
      replace Ba := hfr.box Ba nFa
      replace Bb := hfr.box Bb nFb
      replace Bw := hfr.box Bw nFw
      replace nFa := foot_fresh hfs nFa (by first | exact Bal | exact Nat.lt_succ_of_lt Bal)
      replace nFb := foot_fresh hfs nFb (by first | exact Bbl | exact Nat.lt_succ_of_lt Bbl)
      replace nFw := foot_fresh hfs nFw (by first | exact Bwl | exact Nat.lt_succ_of_lt Bwl)
      have hv2 := fresh_lo hfs hv (by first | exact hw.size | exact Nat.le_succ_of_le hw.size)
      replace hw := hw.trans (hfr.below (foot_lo hsb hv) hw.size)
      have S := S2
      clear S2 hfr hfs
      rw [crm.1]
      rw [crm.2] at S
      replace hv := hv2
      clear hv2
      obtain ⟨xa, ya, za, va⟩ := Ba.facts
      obtain ⟨xb, yb, zb, vb⟩ := Bb.facts
      obtain ⟨xw, yw, zw, vw⟩ := Bw.facts
      go_wp2_with fail
      obtain ⟨a_ln, c_lnc, hvf, R⟩ := S.rd
      have c_qln := len_any sb a_ln c_lnc 0 [] w14 R
      clear R hvf
      refine (c_qln).mono ?_
      rintro e w15 ⟨rfl, hb⟩
      clear xa ya za va xb yb zb vb xw yw zw vw
      replace Ba := Ba.ext hb rfl
      replace Bb := Bb.ext hb rfl
      replace Bw := Bw.ext hb rfl
      replace S := S.ext hb rfl
      replace hw := hw.trans (hb.mono hw.size)
      clear hb
      obtain ⟨xa, ya, za, va⟩ := Ba.facts
      obtain ⟨xb, yb, zb, vb⟩ := Bb.facts
      obtain ⟨xw, yw, zw, vw⟩ := Bw.facts
      go_wp2_with fail
      refine (awake_any _).mono ?_
      rintro e w16 ⟨rfl, hb⟩
      clear xa ya za va xb yb zb vb xw yw zw vw
      replace Ba := Ba.ext hb rfl
      replace Bb := Bb.ext hb rfl
      replace Bw := Bw.ext hb rfl
      replace S := S.ext hb rfl
      replace hw := hw.trans (hb.mono hw.size)
      clear hb
      obtain ⟨xa, ya, za, va⟩ := Ba.facts
      obtain ⟨xb, yb, zb, vb⟩ := Bb.facts
      obtain ⟨xw, yw, zw, vw⟩ := Bw.facts
      go_wp2
      go_ret
      exact ⟨rfl, hw⟩

set_option maxRecDepth 100000 in
theorem we_num {a : Pt} {x y : Int} {n : Nat} (hn : n ≤ 20) (ha : vld a = true) (hx : -50 ≤ x ∧ x ≤ 50) (hy : -50 ≤ y ∧ y ≤ 50) (i : Nat) (hi : i ≤ n) : ∃ nx ny : Int, wrap64 ((i : Int) * x) = nx ∧ wrap64 (a.x + nx) = (pI a x y i).x ∧ wrap64 ((i : Int) * y) = ny ∧ wrap64 (a.y + ny) = (pI a x y i).y := by
  have b1 := mul_bd (i := (i : Int)) (x := x) (by omega) (by omega) hx
  have b2 := mul_bd (i := (i : Int)) (x := y) (by omega) (by omega) hy
  rw [vld_iff] at ha
  unfold pI
  simp only
  generalize (i : Int) * x = m1 at *
  generalize (i : Int) * y = m2 at *
  exact ⟨m1, m2, by rw [w64]; omega, by rw [w64]; omega, by rw [w64]; omega, by rw [w64]; omega⟩
set_option maxRecDepth 100000 in
set_option maxRecDepth 100000 in
theorem we_any (a : Pt) (x y k kd : Int) (w : World) :
    Calls Try.prog 5 #[.agg #[.int .i64 a.x, .int .i64 a.y], .int .i64 x, .int .i64 y, .int .i64 k, .int .i64 kd] w fun e w' => e = .returned (.bool true) ∧ Below w.heap.size w w' := by
  cases h0 : vld a with
  | false => exact we_v a x y k kd h0 w
  | true =>
  cases h1 : decide (x < -50) with
  | true => exact we_p0 a x y k kd h0 h1 w
  | false =>
  cases h2 : decide (50 < x) with
  | true => exact we_p1 a x y k kd h0 h1 h2 w
  | false =>
  cases h3 : decide (y < -50) with
  | true => exact we_p2 a x y k kd h0 h1 h2 h3 w
  | false =>
  cases h4 : decide (50 < y) with
  | true => exact we_p3 a x y k kd h0 h1 h2 h3 h4 w
  | false =>
  cases h5 : decide (k < 1) with
  | true => exact we_p4 a x y k kd h0 h1 h2 h3 h4 h5 w
  | false =>
  cases h6 : decide (20 < k) with
  | true => exact we_p5 a x y k kd h0 h1 h2 h3 h4 h5 h6 w
  | false =>
    have e1 := of_decide_eq_false h1
    have e2 := of_decide_eq_false h2
    have e3 := of_decide_eq_false h3
    have e4 := of_decide_eq_false h4
    have e5 := of_decide_eq_false h5
    have e6 := of_decide_eq_false h6
    obtain ⟨n, rfl⟩ : ∃ n : Nat, k = n := ⟨k.toNat, by omega⟩
    have hn : n ≤ 20 := by omega
    have hgp := we_num (a := a) (x := x) (y := y) hn h0 (by omega) (by omega)
    obtain ⟨mx, my, f1, f2, f3, f4⟩ := hgp n (Nat.le_refl _)
    have hcm := make_any a (pI a x y n) kd
    cases hb : vld (pI a x y n) with
    | false =>
      have ho : mkOk a (pI a x y n) kd = false := by unfold mkOk; rw [hb]; simp
      rw [ho] at hcm
      exact we_b a (pI a x y n) (mkW a (pI a x y n) kd) x y n kd h0 h1 h2 h3 h4 h5 h6 mx my f1 f2 f3 f4 hcm hb w
    | true =>
    cases he : peqI a.x a.y (pI a x y n).x (pI a x y n).y with
    | true =>
      have ho : mkOk a (pI a x y n) kd = false := by rw [peqI_dec] at he; unfold mkOk; rw [he]; simp
      rw [ho] at hcm
      exact we_e a (pI a x y n) (mkW a (pI a x y n) kd) x y n kd h0 h1 h2 h3 h4 h5 h6 mx my f1 f2 f3 f4 hcm hb he w
    | false =>
      have hab : a ≠ pI a x y n := fun e => by rw [peqI_dec] at he; exact absurd e (of_decide_eq_false he)
      by_cases hk : mkK kd = true
      · have ho : mkOk a (pI a x y n) kd = true := by unfold mkOk; rw [hk, h0, hb]; simp [hab]
        have hX : mkW a (pI a x y n) kd = ⟨lo2 a (pI a x y n), hi2 a (pI a x y n), kd⟩ := by unfold mkW; rw [ho]; rfl
        rw [ho, hX] at hcm
        have hsw := lo_sw hab
        have con : ∀ i : Nat, i ≤ n → (bgL [⟨lo2 a (pI a x y n), hi2 a (pI a x y n), kd⟩] (pI a x y i)).find? (onW (pI a x y i)) = if 0 < i ∧ i < n then some ⟨lo2 a (pI a x y n), hi2 a (pI a x y n), kd⟩ else none := fun i hi => by
          by_cases h : 0 < i ∧ i < n
          · rw [if_pos h]; exact ends_on (by omega) (by omega) h0 hb hab
          · rw [if_neg h]
            refine ends_off ?_
            by_cases hi0 : i = 0
            · left; subst hi0; rw [Pt.eq_iff]; unfold pI; simp
            · right; have : i = n := by omega
              rw [this]
        have crm := one_rem ho
        rw [← hsw.1, ← hsw.2] at crm
        have hk2 : kd = 1 ∨ kd = 2 := by unfold mkK at hk; simpa using hk
        have l1 : remE [⟨lo2 a (pI a x y n), hi2 a (pI a x y n), kd⟩] (lo2 (pI a x y n) a) (hi2 (pI a x y n) a) = 0 ∧ remL [⟨lo2 a (pI a x y n), hi2 a (pI a x y n), kd⟩] (lo2 (pI a x y n) a) (hi2 (pI a x y n) a) = [] := by rw [hsw.1, hsw.2]; exact one_rem ho
        have l2 : kindW [⟨lo2 a (pI a x y n), hi2 a (pI a x y n), kd⟩] (lo2 (pI a x y n) a) (hi2 (pI a x y n) a) = kd := by rw [hsw.1, hsw.2]; exact one_kind _ _ _
        rcases hk2 with rfl | rfl
        · exact we_main1 a (pI a x y n) _ x y n h0 h1 h2 h3 h4 h5 h6 mx my f1 f2 f3 f4 hcm hb he n hn rfl (one_good ho) (one_kind _ _ _) l2 (one_at hab).1 (one_at hab).2 con hgp (one_clash ho) l1 w
        · exact we_main2 a (pI a x y n) _ x y n h0 h1 h2 h3 h4 h5 h6 mx my f1 f2 f3 f4 hcm hb he n hn rfl (one_good ho) (one_kind _ _ _) l2 (one_at hab).1 (one_at hab).2 con hgp (one_clash ho) l1 w
      · have ho : mkOk a (pI a x y n) kd = false := by unfold mkOk; simp [hk]
        rw [ho] at hcm
        have k1 : (kd != 1) = true := by unfold mkK at hk; simp at hk; simpa using hk.1
        have k2 : (kd != 2) = true := by unfold mkK at hk; simp at hk; simpa using hk.2
        exact we_k a (pI a x y n) (mkW a (pI a x y n) kd) x y n kd h0 h1 h2 h3 h4 h5 h6 mx my f1 f2 f3 f4 hcm hb he k1 k2 w
set_option maxRecDepth 100000 in
theorem wallsEnds_lifted (os : Os) (started : os.Started) (H : Type) (enc : TypeId × Value → H) :
    ReturnsInHanded {} Try.checked os 5 .any (Rows.wallsEndsSpec.pre6 enc Try.prog Try.f5 Rows.wallsEndsRow.domain false) (Rows.wallsEndsSpec.post enc Try.prog Try.f5 false true false false) := by
  refine returnsInHanded_of_change (C := Try.checked) Try.own started (by kernel_rfl) Try.func5
    (ChangeSpec.witness6 (enc := enc) (C := Try.checked) false ⟨#[], #[.agg #[.int .i64 0, .int .i64 0], .int .i64 0, .int .i64 0, .int .i64 0, .int .i64 0], []⟩ 8 (by kernel_rfl) (by kernel_rfl) (by kernel_rfl) (by kernel_rfl)) ?_
  intro W base args ds gs before hval0 hW hcnd _
  have hval : ∀ (j : Nat) t v, Try.f5.params[j]? = some t → args[j]? = some v → Value.okWide Try.prog W .any base t v := hval0
  have hW' := hW
  obtain ⟨p, q, hA0, hV, rfl, hfz, hnd⟩ := hW
  have hA : DataW.TrodAll enc Try.prog W 0 (fun _ => true) true Try.f5.params.toList args.toList ds p := hA0
  rw [Try.params5] at hA hval
  obtain ⟨v0, v1, v2, v3, v4, d0, d1, d2, d3, d4, q0, q1, q2, q3, q4, rfl, rfl, rfl, p0, p1, p2, p3, p4⟩ := trodAll_five hA
  obtain ⟨rfl, rfl⟩ := trodVars_none hV
  obtain ⟨c0, e0, y0, z0, m0, rfl, rfl, rfl, hy0, hz0⟩ := Joins.open_agg2 Try.underlying33 (by kernel_rfl) (by kernel_rfl) (hval 0 33 v0 rfl rfl) p0
  obtain ⟨xa, f0, rfl, wxa⟩ := DataW.trod_int Try.underlying3 hy0
  obtain ⟨ya, g0, rfl, wya⟩ := DataW.trod_int Try.underlying3 hz0
  simp at f0 g0
  subst f0 g0
  obtain ⟨x, rfl, rfl, rfl, wx⟩ := open_int Try.underlying3 (hval 1 3 v1 rfl rfl) p1
  obtain ⟨y, rfl, rfl, rfl, wy⟩ := open_int Try.underlying3 (hval 2 3 v2 rfl rfl) p2
  obtain ⟨k, rfl, rfl, rfl, wk⟩ := open_int Try.underlying3 (hval 3 3 v3 rfl rfl) p3
  obtain ⟨kd, rfl, rfl, rfl, wkd⟩ := open_int Try.underlying3 (hval 4 3 v4 rfl rfl) p4
  clear hA0 hval0
  simp only [List.append_nil] at hW'
  refine (we_any ⟨xa, ya⟩ x y k kd W).mono fun e W' ⟨he, hb⟩ => ?_
  subst he
  exact ⟨_, rfl, post_of_below (pa := []) (pv := []) hW' (fun _ _ _ => trodAll_mk1 (shut_bool Try.underlying4 true)) (fun sp _ => trodAll_mk5 (Joins.shut_agg2 (y0 := (.lit (.int .i64 xa), [])) (y1 := (.lit (.int .i64 ya), [])) Try.underlying33 (by kernel_rfl) (by kernel_rfl) ⟨1, by simp [DataW.trod, Try.underlying3, wxa]⟩ ⟨1, by simp [DataW.trod, Try.underlying3, wya]⟩) (shut_int Try.underlying3 wx) (shut_int Try.underlying3 wy) (shut_int Try.underlying3 wk) (shut_int Try.underlying3 wkd)) (fun _ _ => rfl) rfl hb (ok_one (by kernel_rfl) rfl (okWide_bool_mk Try.underlying4 true))⟩
/-- The law WallsEnds holds of every input. -/
theorem wallsEnds_holds : Rows.WallsEndsSaid :=
  OpenClaim.holds_of_wide 5 Try.f5 rfl rfl rfl rfl rfl rfl rfl ⟨rfl, rfl, rfl, rfl, rfl⟩ rfl rfl rfl rfl rfl (by kernel_rfl) Try.func5 (by kernel_rfl)
    (of_decide_eq_true (by kernel_rfl)) (by unfold Func.isWrapper; rw [if_neg (of_decide_eq_false (by kernel_rfl))]; exact ⟨rfl, rfl⟩)
    (fun os started H enc _ => wallsEnds_lifted os started H enc)
end Go.Proofs.Ytpeehjkpglkikaa
