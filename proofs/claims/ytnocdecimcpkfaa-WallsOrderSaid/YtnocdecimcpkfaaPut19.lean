/- Put together: WalA, WalB, Shelf. -/
import Derived.Test.YtnocdecimcpkfaaRows
import Derived.Test.YtnocdecimcpkfaaPut18
import Derived.Test.YtnocdecimcpkfaaPut17
import Derived.Test.YtnocdecimcpkfaaPut5
import Derived.Test.YtnocdecimcpkfaaPut2
import Derived.WalkKit
import Derived.WalkSpells
import Derived.WalkLawsBesides
import Derived.Laws.Externs
import Derived.Deep.QuietTactic
import Derived.BigQuiet
import Derived.Lib.Hide
import Derived.Handy
import Derived.LoopN
import Derived.RegionTactic
import Derived.Shelf.SlSortCmp.NoneTotal
import Derived.Shelf.SlicesQ.IndexFunc
import Derived.Shelf.SlicesE.Clone
import Derived.Ground.SlsfProg
import Derived.Ground.SlgfProg
import Derived.Ground.SlgnProg
import Derived.Test.YtnocdecimcpkfaaProg
namespace Go.Proofs.Ytnocdecimcpkfaa
open Go.RowKit Go.Sort
attribute [local go_sem] rOper rAt rUpon cell_set sg_i64 sg_u64 alloc_cell alloc_frozen
attribute [local go_sem 10000] pt_eql pt_neq wal_eql wal_neq
attribute [local irreducible] rWalk

theorem lsf_0 (a b : Pt) (h : decide (cmpP b a < 0) = false) (w : World) :
    Calls Try.prog 49 #[.agg #[.int .i64 a.x, .int .i64 a.y], .agg #[.int .i64 b.x, .int .i64 b.y]] w fun e w' => e = .returned (.tuple #[.agg #[.int .i64 a.x, .int .i64 a.y], .agg #[.int .i64 b.x, .int .i64 b.y]]) ∧ Below w.heap.size w w' := by
  have c1 := cmp_pt b a
  generalize cmpP b a = n at *
  go_enter Try.func49, Try.ntmps49
  go_wp2_with fail
  refine at_call fun W1 hW => ?_
  have Ba : Box W1 (w.heap.size) [.int .i64 a.x, .int .i64 a.y] 33 := by rw [hW]; exact (((Box.new rfl).old _).old _).old _
  have Bb : Box W1 (w.heap.size + 1) [.int .i64 b.x, .int .i64 b.y] 33 := by rw [hW]; exact ((Box.new (by simp)).old _).old _
  have Br : Box W1 (w.heap.size + 1 + 1) [.int .i64 0, .int .i64 0] 33 := by rw [hW]; exact (Box.new (by simp)).old _
  have Bs : Box W1 (w.heap.size + 1 + 1 + 1) [.int .i64 0, .int .i64 0] 33 := by rw [hW]; exact Box.new (by simp)
  have hw : Below w.heap.size w W1 := by rw [hW]; go_grown
  clear hW
  refine (c1 _).mono ?_
  rintro e w2 ⟨rfl, hb⟩
  replace Ba := Ba.ext hb rfl
  replace Bb := Bb.ext hb rfl
  replace Br := Br.ext hb rfl
  replace Bs := Bs.ext hb rfl
  replace hw := hw.trans (hb.mono hw.size)
  clear hb
  obtain ⟨xa, ya, za, va⟩ := Ba.facts
  obtain ⟨xb, yb, zb, vb⟩ := Bb.facts
  obtain ⟨xr, yr, zr, vr⟩ := Br.facts
  obtain ⟨xs, ys, zs, vs⟩ := Bs.facts
  go_wp2_with fail
  go_region
  go_wp2_with fail
  refine bodyPost_ret (v := .tuple #[.agg #[.int .i64 a.x, .int .i64 a.y], .agg #[.int .i64 b.x, .int .i64 b.y]]) (by simp [results, Try.results49, go_sem, xr, xs]) rfl ⟨rfl, by have hl := hw.size; go_grown⟩

theorem lsf_1 (a b : Pt) (h : decide (cmpP b a < 0) = true) (w : World) :
    Calls Try.prog 49 #[.agg #[.int .i64 a.x, .int .i64 a.y], .agg #[.int .i64 b.x, .int .i64 b.y]] w fun e w' => e = .returned (.tuple #[.agg #[.int .i64 b.x, .int .i64 b.y], .agg #[.int .i64 a.x, .int .i64 a.y]]) ∧ Below w.heap.size w w' := by
  have c1 := cmp_pt b a
  generalize cmpP b a = n at *
  go_enter Try.func49, Try.ntmps49
  go_wp2_with fail
  refine at_call fun W1 hW => ?_
  have Ba : Box W1 (w.heap.size) [.int .i64 a.x, .int .i64 a.y] 33 := by rw [hW]; exact (((Box.new rfl).old _).old _).old _
  have Bb : Box W1 (w.heap.size + 1) [.int .i64 b.x, .int .i64 b.y] 33 := by rw [hW]; exact ((Box.new (by simp)).old _).old _
  have Br : Box W1 (w.heap.size + 1 + 1) [.int .i64 0, .int .i64 0] 33 := by rw [hW]; exact (Box.new (by simp)).old _
  have Bs : Box W1 (w.heap.size + 1 + 1 + 1) [.int .i64 0, .int .i64 0] 33 := by rw [hW]; exact Box.new (by simp)
  have hw : Below w.heap.size w W1 := by rw [hW]; go_grown
  clear hW
  refine (c1 _).mono ?_
  rintro e w2 ⟨rfl, hb⟩
  replace Ba := Ba.ext hb rfl
  replace Bb := Bb.ext hb rfl
  replace Br := Br.ext hb rfl
  replace Bs := Bs.ext hb rfl
  replace hw := hw.trans (hb.mono hw.size)
  clear hb
  obtain ⟨xa, ya, za, va⟩ := Ba.facts
  obtain ⟨xb, yb, zb, vb⟩ := Bb.facts
  obtain ⟨xr, yr, zr, vr⟩ := Br.facts
  obtain ⟨xs, ys, zs, vs⟩ := Bs.facts
  go_wp2_with fail
  go_region
  go_wp2_with fail
  refine bodyPost_ret (v := .tuple #[.agg #[.int .i64 b.x, .int .i64 b.y], .agg #[.int .i64 a.x, .int .i64 a.y]]) (by simp [results, Try.results49, go_sem, xr, xs]) rfl ⟨rfl, by have hl := hw.size; go_grown⟩

theorem lsf_any (a b : Pt) (w : World) :
    Calls Try.prog 49 #[.agg #[.int .i64 a.x, .int .i64 a.y], .agg #[.int .i64 b.x, .int .i64 b.y]] w fun e w' => e = .returned (.tuple #[.agg #[.int .i64 (lo2 a b).x, .int .i64 (lo2 a b).y], .agg #[.int .i64 (hi2 a b).x, .int .i64 (hi2 a b).y]]) ∧ Below w.heap.size w w' := by
  cases h : decide (cmpP b a < 0) with
  | true => rw [show lo2 a b = b by unfold lo2; rw [if_pos (by simpa using h)], show hi2 a b = a by unfold hi2; rw [if_pos (by simpa using h)]]; exact lsf_1 a b h w
  | false => rw [show lo2 a b = a by unfold lo2; rw [if_neg (by simpa using h)], show hi2 a b = b by unfold hi2; rw [if_neg (by simpa using h)]]; exact lsf_0 a b h w
theorem make_u (a b : Pt) (k : Int) (e1 : (k == 1) = false) (e2 : (k == 2) = false) (w : World) :
    Calls Try.prog 16 #[.agg #[.int .i64 a.x, .int .i64 a.y], .agg #[.int .i64 b.x, .int .i64 b.y], .int .i64 k] w fun e w' => e = .returned (.tuple #[.agg #[.int .i64 0, .int .i64 0, .int .i64 0, .int .i64 0, .int .i64 0], .bool false]) ∧ Below w.heap.size w w' := by
  go_enter Try.func16, Try.ntmps16
  go_wp2_with fail
  refine bodyPost_ret (v := .tuple #[.agg #[.int .i64 0, .int .i64 0, .int .i64 0, .int .i64 0, .int .i64 0], .bool false]) (by simp [results, Try.results16, go_sem]) rfl ⟨rfl, by go_grown⟩

theorem make_e1 (a b : Pt) (k : Int) (e1 : (k == 1) = true) (e : peqI a.x a.y b.x b.y = true) (w : World) :
    Calls Try.prog 16 #[.agg #[.int .i64 a.x, .int .i64 a.y], .agg #[.int .i64 b.x, .int .i64 b.y], .int .i64 k] w fun e w' => e = .returned (.tuple #[.agg #[.int .i64 0, .int .i64 0, .int .i64 0, .int .i64 0, .int .i64 0], .bool false]) ∧ Below w.heap.size w w' := by
  go_enter Try.func16, Try.ntmps16
  go_wp2_with fail
  refine bodyPost_ret (v := .tuple #[.agg #[.int .i64 0, .int .i64 0, .int .i64 0, .int .i64 0, .int .i64 0], .bool false]) (by simp [results, Try.results16, go_sem]) rfl ⟨rfl, by go_grown⟩

theorem make_a1 (a b : Pt) (k : Int) (e1 : (k == 1) = true) (e : peqI a.x a.y b.x b.y = false) (ha : vld a = false) (w : World) :
    Calls Try.prog 16 #[.agg #[.int .i64 a.x, .int .i64 a.y], .agg #[.int .i64 b.x, .int .i64 b.y], .int .i64 k] w fun e w' => e = .returned (.tuple #[.agg #[.int .i64 0, .int .i64 0, .int .i64 0, .int .i64 0, .int .i64 0], .bool false]) ∧ Below w.heap.size w w' := by
  have c1 := valid_any a
  rw [ha] at c1
  clear ha
  go_enter Try.func16, Try.ntmps16
  go_wp2_with fail
  refine at_call fun W1 hW => ?_
  have Ba : Box W1 (w.heap.size) [.int .i64 a.x, .int .i64 a.y] 33 := by rw [hW]; exact ((Box.new rfl).old _).old _
  have Bb : Box W1 (w.heap.size + 1) [.int .i64 b.x, .int .i64 b.y] 33 := by rw [hW]; exact (Box.new (by simp)).old _
  have Br : Box W1 (w.heap.size + 1 + 1) [.int .i64 0, .int .i64 0, .int .i64 0, .int .i64 0, .int .i64 0] 35 := by rw [hW]; exact Box.new (by simp)
  have hw : Below w.heap.size w W1 := by rw [hW]; go_grown
  clear hW
  refine (c1 _).mono ?_
  rintro e w2 ⟨rfl, hb⟩
  replace Ba := Ba.ext hb rfl
  replace Bb := Bb.ext hb rfl
  replace Br := Br.ext hb rfl
  replace hw := hw.trans (hb.mono hw.size)
  clear hb
  obtain ⟨xa, ya, za, va⟩ := Ba.facts
  obtain ⟨xb, yb, zb, vb⟩ := Bb.facts
  obtain ⟨xr, yr, zr, vr⟩ := Br.facts
  go_wp2_with fail
  refine bodyPost_ret (v := .tuple #[.agg #[.int .i64 0, .int .i64 0, .int .i64 0, .int .i64 0, .int .i64 0], .bool false]) (by simp [results, Try.results16, go_sem, xr]) rfl ⟨rfl, by have hl := hw.size; go_grown⟩

theorem make_b1 (a b : Pt) (k : Int) (e1 : (k == 1) = true) (e : peqI a.x a.y b.x b.y = false) (ha : vld a = true) (hb : vld b = false) (w : World) :
    Calls Try.prog 16 #[.agg #[.int .i64 a.x, .int .i64 a.y], .agg #[.int .i64 b.x, .int .i64 b.y], .int .i64 k] w fun e w' => e = .returned (.tuple #[.agg #[.int .i64 0, .int .i64 0, .int .i64 0, .int .i64 0, .int .i64 0], .bool false]) ∧ Below w.heap.size w w' := by
  have c1 := valid_any a
  rw [ha] at c1
  have c2 := valid_any b
  rw [hb] at c2
  clear ha hb
  go_enter Try.func16, Try.ntmps16
  go_wp2_with fail
  refine at_call fun W1 hW => ?_
  have Ba : Box W1 (w.heap.size) [.int .i64 a.x, .int .i64 a.y] 33 := by rw [hW]; exact ((Box.new rfl).old _).old _
  have Bb : Box W1 (w.heap.size + 1) [.int .i64 b.x, .int .i64 b.y] 33 := by rw [hW]; exact (Box.new (by simp)).old _
  have Br : Box W1 (w.heap.size + 1 + 1) [.int .i64 0, .int .i64 0, .int .i64 0, .int .i64 0, .int .i64 0] 35 := by rw [hW]; exact Box.new (by simp)
  have hw : Below w.heap.size w W1 := by rw [hW]; go_grown
  clear hW
  refine (c1 _).mono ?_
  rintro e w2 ⟨rfl, hb⟩
  replace Ba := Ba.ext hb rfl
  replace Bb := Bb.ext hb rfl
  replace Br := Br.ext hb rfl
  replace hw := hw.trans (hb.mono hw.size)
  clear hb
  obtain ⟨xa, ya, za, va⟩ := Ba.facts
  obtain ⟨xb, yb, zb, vb⟩ := Bb.facts
  obtain ⟨xr, yr, zr, vr⟩ := Br.facts
  go_wp2_with fail
  refine (c2 _).mono ?_
  rintro e w3 ⟨rfl, hb⟩
  clear xa ya za va xb yb zb vb xr yr zr vr
  replace Ba := Ba.ext hb rfl
  replace Bb := Bb.ext hb rfl
  replace Br := Br.ext hb rfl
  replace hw := hw.trans (hb.mono hw.size)
  clear hb
  obtain ⟨xa, ya, za, va⟩ := Ba.facts
  obtain ⟨xb, yb, zb, vb⟩ := Bb.facts
  obtain ⟨xr, yr, zr, vr⟩ := Br.facts
  go_wp2_with fail
  refine bodyPost_ret (v := .tuple #[.agg #[.int .i64 0, .int .i64 0, .int .i64 0, .int .i64 0, .int .i64 0], .bool false]) (by simp [results, Try.results16, go_sem, xr]) rfl ⟨rfl, by have hl := hw.size; go_grown⟩

theorem make_o1 (a b : Pt) (k : Int) (e1 : (k == 1) = true) (e : peqI a.x a.y b.x b.y = false) (ha : vld a = true) (hb : vld b = true) (w : World) :
    Calls Try.prog 16 #[.agg #[.int .i64 a.x, .int .i64 a.y], .agg #[.int .i64 b.x, .int .i64 b.y], .int .i64 k] w fun e w' => e = .returned (.tuple #[.agg #[.int .i64 (lo2 a b).x, .int .i64 (lo2 a b).y, .int .i64 (hi2 a b).x, .int .i64 (hi2 a b).y, .int .i64 k], .bool true]) ∧ Below w.heap.size w w' := by
  have c1 := valid_any a
  rw [ha] at c1
  have c2 := valid_any b
  rw [hb] at c2
  have c3 := lsf_any a b
  clear ha hb
  generalize lo2 a b = p at *
  generalize hi2 a b = q at *
  go_enter Try.func16, Try.ntmps16
  go_wp2_with fail
  refine at_call fun W1 hW => ?_
  have Ba : Box W1 (w.heap.size) [.int .i64 a.x, .int .i64 a.y] 33 := by rw [hW]; exact ((Box.new rfl).old _).old _
  have Bb : Box W1 (w.heap.size + 1) [.int .i64 b.x, .int .i64 b.y] 33 := by rw [hW]; exact (Box.new (by simp)).old _
  have Br : Box W1 (w.heap.size + 1 + 1) [.int .i64 0, .int .i64 0, .int .i64 0, .int .i64 0, .int .i64 0] 35 := by rw [hW]; exact Box.new (by simp)
  have hw : Below w.heap.size w W1 := by rw [hW]; go_grown
  clear hW
  refine (c1 _).mono ?_
  rintro e w2 ⟨rfl, hb⟩
  replace Ba := Ba.ext hb rfl
  replace Bb := Bb.ext hb rfl
  replace Br := Br.ext hb rfl
  replace hw := hw.trans (hb.mono hw.size)
  clear hb
  obtain ⟨xa, ya, za, va⟩ := Ba.facts
  obtain ⟨xb, yb, zb, vb⟩ := Bb.facts
  obtain ⟨xr, yr, zr, vr⟩ := Br.facts
  go_wp2_with fail
  refine (c2 _).mono ?_
  rintro e w3 ⟨rfl, hb⟩
  clear xa ya za va xb yb zb vb xr yr zr vr
  replace Ba := Ba.ext hb rfl
  replace Bb := Bb.ext hb rfl
  replace Br := Br.ext hb rfl
  replace hw := hw.trans (hb.mono hw.size)
  clear hb
  obtain ⟨xa, ya, za, va⟩ := Ba.facts
  obtain ⟨xb, yb, zb, vb⟩ := Bb.facts
  obtain ⟨xr, yr, zr, vr⟩ := Br.facts
  go_wp2_with fail
  refine (c3 _).mono ?_
  rintro e w4 ⟨rfl, hb⟩
  clear xa ya za va xb yb zb vb xr yr zr vr
  replace Ba := Ba.ext hb rfl
  replace Bb := Bb.ext hb rfl
  replace Br := Br.ext hb rfl
  replace hw := hw.trans (hb.mono hw.size)
  clear hb
  obtain ⟨xa, ya, za, va⟩ := Ba.facts
  obtain ⟨xb, yb, zb, vb⟩ := Bb.facts
  obtain ⟨xr, yr, zr, vr⟩ := Br.facts
  go_wp2_with fail
  refine bodyPost_ret (v := .tuple #[.agg #[.int .i64 p.x, .int .i64 p.y, .int .i64 q.x, .int .i64 q.y, .int .i64 k], .bool true]) (by simp [results, Try.results16, go_sem, xr]) rfl ⟨rfl, by have hl := hw.size; go_grown⟩

theorem make_e2 (a b : Pt) (k : Int) (e1 : (k == 1) = false) (e2 : (k == 2) = true) (e : peqI a.x a.y b.x b.y = true) (w : World) :
    Calls Try.prog 16 #[.agg #[.int .i64 a.x, .int .i64 a.y], .agg #[.int .i64 b.x, .int .i64 b.y], .int .i64 k] w fun e w' => e = .returned (.tuple #[.agg #[.int .i64 0, .int .i64 0, .int .i64 0, .int .i64 0, .int .i64 0], .bool false]) ∧ Below w.heap.size w w' := by
  go_enter Try.func16, Try.ntmps16
  go_wp2_with fail
  refine bodyPost_ret (v := .tuple #[.agg #[.int .i64 0, .int .i64 0, .int .i64 0, .int .i64 0, .int .i64 0], .bool false]) (by simp [results, Try.results16, go_sem]) rfl ⟨rfl, by go_grown⟩

theorem make_a2 (a b : Pt) (k : Int) (e1 : (k == 1) = false) (e2 : (k == 2) = true) (e : peqI a.x a.y b.x b.y = false) (ha : vld a = false) (w : World) :
    Calls Try.prog 16 #[.agg #[.int .i64 a.x, .int .i64 a.y], .agg #[.int .i64 b.x, .int .i64 b.y], .int .i64 k] w fun e w' => e = .returned (.tuple #[.agg #[.int .i64 0, .int .i64 0, .int .i64 0, .int .i64 0, .int .i64 0], .bool false]) ∧ Below w.heap.size w w' := by
  have c1 := valid_any a
  rw [ha] at c1
  clear ha
  go_enter Try.func16, Try.ntmps16
  go_wp2_with fail
  refine at_call fun W1 hW => ?_
  have Ba : Box W1 (w.heap.size) [.int .i64 a.x, .int .i64 a.y] 33 := by rw [hW]; exact ((Box.new rfl).old _).old _
  have Bb : Box W1 (w.heap.size + 1) [.int .i64 b.x, .int .i64 b.y] 33 := by rw [hW]; exact (Box.new (by simp)).old _
  have Br : Box W1 (w.heap.size + 1 + 1) [.int .i64 0, .int .i64 0, .int .i64 0, .int .i64 0, .int .i64 0] 35 := by rw [hW]; exact Box.new (by simp)
  have hw : Below w.heap.size w W1 := by rw [hW]; go_grown
  clear hW
  refine (c1 _).mono ?_
  rintro e w2 ⟨rfl, hb⟩
  replace Ba := Ba.ext hb rfl
  replace Bb := Bb.ext hb rfl
  replace Br := Br.ext hb rfl
  replace hw := hw.trans (hb.mono hw.size)
  clear hb
  obtain ⟨xa, ya, za, va⟩ := Ba.facts
  obtain ⟨xb, yb, zb, vb⟩ := Bb.facts
  obtain ⟨xr, yr, zr, vr⟩ := Br.facts
  go_wp2_with fail
  refine bodyPost_ret (v := .tuple #[.agg #[.int .i64 0, .int .i64 0, .int .i64 0, .int .i64 0, .int .i64 0], .bool false]) (by simp [results, Try.results16, go_sem, xr]) rfl ⟨rfl, by have hl := hw.size; go_grown⟩

theorem make_b2 (a b : Pt) (k : Int) (e1 : (k == 1) = false) (e2 : (k == 2) = true) (e : peqI a.x a.y b.x b.y = false) (ha : vld a = true) (hb : vld b = false) (w : World) :
    Calls Try.prog 16 #[.agg #[.int .i64 a.x, .int .i64 a.y], .agg #[.int .i64 b.x, .int .i64 b.y], .int .i64 k] w fun e w' => e = .returned (.tuple #[.agg #[.int .i64 0, .int .i64 0, .int .i64 0, .int .i64 0, .int .i64 0], .bool false]) ∧ Below w.heap.size w w' := by
  have c1 := valid_any a
  rw [ha] at c1
  have c2 := valid_any b
  rw [hb] at c2
  clear ha hb
  go_enter Try.func16, Try.ntmps16
  go_wp2_with fail
  refine at_call fun W1 hW => ?_
  have Ba : Box W1 (w.heap.size) [.int .i64 a.x, .int .i64 a.y] 33 := by rw [hW]; exact ((Box.new rfl).old _).old _
  have Bb : Box W1 (w.heap.size + 1) [.int .i64 b.x, .int .i64 b.y] 33 := by rw [hW]; exact (Box.new (by simp)).old _
  have Br : Box W1 (w.heap.size + 1 + 1) [.int .i64 0, .int .i64 0, .int .i64 0, .int .i64 0, .int .i64 0] 35 := by rw [hW]; exact Box.new (by simp)
  have hw : Below w.heap.size w W1 := by rw [hW]; go_grown
  clear hW
  refine (c1 _).mono ?_
  rintro e w2 ⟨rfl, hb⟩
  replace Ba := Ba.ext hb rfl
  replace Bb := Bb.ext hb rfl
  replace Br := Br.ext hb rfl
  replace hw := hw.trans (hb.mono hw.size)
  clear hb
  obtain ⟨xa, ya, za, va⟩ := Ba.facts
  obtain ⟨xb, yb, zb, vb⟩ := Bb.facts
  obtain ⟨xr, yr, zr, vr⟩ := Br.facts
  go_wp2_with fail
  refine (c2 _).mono ?_
  rintro e w3 ⟨rfl, hb⟩
  clear xa ya za va xb yb zb vb xr yr zr vr
  replace Ba := Ba.ext hb rfl
  replace Bb := Bb.ext hb rfl
  replace Br := Br.ext hb rfl
  replace hw := hw.trans (hb.mono hw.size)
  clear hb
  obtain ⟨xa, ya, za, va⟩ := Ba.facts
  obtain ⟨xb, yb, zb, vb⟩ := Bb.facts
  obtain ⟨xr, yr, zr, vr⟩ := Br.facts
  go_wp2_with fail
  refine bodyPost_ret (v := .tuple #[.agg #[.int .i64 0, .int .i64 0, .int .i64 0, .int .i64 0, .int .i64 0], .bool false]) (by simp [results, Try.results16, go_sem, xr]) rfl ⟨rfl, by have hl := hw.size; go_grown⟩

theorem make_o2 (a b : Pt) (k : Int) (e1 : (k == 1) = false) (e2 : (k == 2) = true) (e : peqI a.x a.y b.x b.y = false) (ha : vld a = true) (hb : vld b = true) (w : World) :
    Calls Try.prog 16 #[.agg #[.int .i64 a.x, .int .i64 a.y], .agg #[.int .i64 b.x, .int .i64 b.y], .int .i64 k] w fun e w' => e = .returned (.tuple #[.agg #[.int .i64 (lo2 a b).x, .int .i64 (lo2 a b).y, .int .i64 (hi2 a b).x, .int .i64 (hi2 a b).y, .int .i64 k], .bool true]) ∧ Below w.heap.size w w' := by
  have c1 := valid_any a
  rw [ha] at c1
  have c2 := valid_any b
  rw [hb] at c2
  have c3 := lsf_any a b
  clear ha hb
  generalize lo2 a b = p at *
  generalize hi2 a b = q at *
  go_enter Try.func16, Try.ntmps16
  go_wp2_with fail
  refine at_call fun W1 hW => ?_
  have Ba : Box W1 (w.heap.size) [.int .i64 a.x, .int .i64 a.y] 33 := by rw [hW]; exact ((Box.new rfl).old _).old _
  have Bb : Box W1 (w.heap.size + 1) [.int .i64 b.x, .int .i64 b.y] 33 := by rw [hW]; exact (Box.new (by simp)).old _
  have Br : Box W1 (w.heap.size + 1 + 1) [.int .i64 0, .int .i64 0, .int .i64 0, .int .i64 0, .int .i64 0] 35 := by rw [hW]; exact Box.new (by simp)
  have hw : Below w.heap.size w W1 := by rw [hW]; go_grown
  clear hW
  refine (c1 _).mono ?_
  rintro e w2 ⟨rfl, hb⟩
  replace Ba := Ba.ext hb rfl
  replace Bb := Bb.ext hb rfl
  replace Br := Br.ext hb rfl
  replace hw := hw.trans (hb.mono hw.size)
  clear hb
  obtain ⟨xa, ya, za, va⟩ := Ba.facts
  obtain ⟨xb, yb, zb, vb⟩ := Bb.facts
  obtain ⟨xr, yr, zr, vr⟩ := Br.facts
  go_wp2_with fail
  refine (c2 _).mono ?_
  rintro e w3 ⟨rfl, hb⟩
  clear xa ya za va xb yb zb vb xr yr zr vr
  replace Ba := Ba.ext hb rfl
  replace Bb := Bb.ext hb rfl
  replace Br := Br.ext hb rfl
  replace hw := hw.trans (hb.mono hw.size)
  clear hb
  obtain ⟨xa, ya, za, va⟩ := Ba.facts
  obtain ⟨xb, yb, zb, vb⟩ := Bb.facts
  obtain ⟨xr, yr, zr, vr⟩ := Br.facts
  go_wp2_with fail
  refine (c3 _).mono ?_
  rintro e w4 ⟨rfl, hb⟩
  clear xa ya za va xb yb zb vb xr yr zr vr
  replace Ba := Ba.ext hb rfl
  replace Bb := Bb.ext hb rfl
  replace Br := Br.ext hb rfl
  replace hw := hw.trans (hb.mono hw.size)
  clear hb
  obtain ⟨xa, ya, za, va⟩ := Ba.facts
  obtain ⟨xb, yb, zb, vb⟩ := Bb.facts
  obtain ⟨xr, yr, zr, vr⟩ := Br.facts
  go_wp2_with fail
  refine bodyPost_ret (v := .tuple #[.agg #[.int .i64 p.x, .int .i64 p.y, .int .i64 q.x, .int .i64 q.y, .int .i64 k], .bool true]) (by simp [results, Try.results16, go_sem, xr]) rfl ⟨rfl, by have hl := hw.size; go_grown⟩

theorem make_any (a b : Pt) (k : Int) (w : World) :
    Calls Try.prog 16 #[.agg #[.int .i64 a.x, .int .i64 a.y], .agg #[.int .i64 b.x, .int .i64 b.y], .int .i64 k] w fun e w' => e = .returned (.tuple #[.agg #[.int .i64 (mkW a b k).A.x, .int .i64 (mkW a b k).A.y, .int .i64 (mkW a b k).B.x, .int .i64 (mkW a b k).B.y, .int .i64 (mkW a b k).K], .bool (mkOk a b k)]) ∧ Below w.heap.size w w' := by
  have hz : ∀ e, mkOk a b k = e → e = false → mkW a b k = ⟨⟨0, 0⟩, ⟨0, 0⟩, 0⟩ := fun e h1 h2 => by unfold mkW; rw [h1, h2]; rfl
  cases e1 : (k == 1) with
  | true =>
    have hk : mkK k = true := by simp at e1; simp [mkK, e1]
    cases e : peqI a.x a.y b.x b.y with
    | true =>
      have h : mkOk a b k = false := by rw [peqI_dec] at e; unfold mkOk; rw [e]; simp
      rw [hz _ h rfl, h]; exact make_e1 a b k e1 e w
    | false =>
      have h0 : mkOk a b k = (vld a && vld b) := by rw [peqI_dec] at e; unfold mkOk; rw [e, hk]; simp
      cases ha : vld a with
      | false => have h : mkOk a b k = false := by rw [h0, ha]; rfl
                 rw [hz _ h rfl, h]; exact make_a1 a b k e1 e ha w
      | true =>
        cases hb : vld b with
        | false => have h : mkOk a b k = false := by rw [h0, ha, hb]; rfl
                   rw [hz _ h rfl, h]; exact make_b1 a b k e1 e ha hb w
        | true => have h : mkOk a b k = true := by rw [h0, ha, hb]; rfl
                  rw [show mkW a b k = ⟨lo2 a b, hi2 a b, k⟩ by unfold mkW; rw [h]; rfl, h]; exact make_o1 a b k e1 e ha hb w
  | false =>
    cases e2 : (k == 2) with
    | false =>
      have h : mkOk a b k = false := by simp at e1 e2; unfold mkOk mkK; simp [e1, e2]
      rw [hz _ h rfl, h]; exact make_u a b k e1 e2 w
    | true =>
      have hk : mkK k = true := by simp at e2; simp [mkK, e2]
      cases e : peqI a.x a.y b.x b.y with
      | true =>
        have h : mkOk a b k = false := by rw [peqI_dec] at e; unfold mkOk; rw [e]; simp
        rw [hz _ h rfl, h]; exact make_e2 a b k e1 e2 e w
      | false =>
        have h0 : mkOk a b k = (vld a && vld b) := by rw [peqI_dec] at e; unfold mkOk; rw [e, hk]; simp
        cases ha : vld a with
        | false => have h : mkOk a b k = false := by rw [h0, ha]; rfl
                   rw [hz _ h rfl, h]; exact make_a2 a b k e1 e2 e ha w
        | true =>
          cases hb : vld b with
          | false => have h : mkOk a b k = false := by rw [h0, ha, hb]; rfl
                     rw [hz _ h rfl, h]; exact make_b2 a b k e1 e2 e ha hb w
          | true => have h : mkOk a b k = true := by rw [h0, ha, hb]; rfl
                    rw [show mkW a b k = ⟨lo2 a b, hi2 a b, k⟩ by unfold mkW; rw [h]; rfl, h]; exact make_o2 a b k e1 e2 e ha hb w
theorem unm_0 (W : Wl) (h : mkOk W.A W.B W.K = false) (w : World) :
    Calls Try.prog 33 #[.agg #[.int .i64 W.A.x, .int .i64 W.A.y, .int .i64 W.B.x, .int .i64 W.B.y, .int .i64 W.K]] w fun e w' => e = .returned (.bool (unm W)) ∧ Below w.heap.size w w' := by
  have c1 := make_any W.A W.B W.K
  have HE : Hid (unm W = true) := Lib.hid (by unfold unm; rw [h]; rfl)
  rw [h] at c1
  clear h
  generalize mkW W.A W.B W.K = m at *
  go_enter Try.func33, Try.ntmps33
  go_wp2_with fail
  refine at_call fun W1 hW => ?_
  have Bw : Box W1 (w.heap.size) [.int .i64 W.A.x, .int .i64 W.A.y, .int .i64 W.B.x, .int .i64 W.B.y, .int .i64 W.K] 35 := by rw [hW]; exact Box.new rfl
  have hw : Below w.heap.size w W1 := by rw [hW]; go_grown
  clear hW
  refine (c1 _).mono ?_
  rintro e w2 ⟨rfl, hb⟩
  replace Bw := Bw.ext hb rfl
  replace hw := hw.trans (hb.mono hw.size)
  clear hb
  obtain ⟨xw, yw, zw, vw⟩ := Bw.facts
  go_wp2
  go_ret
  exact ⟨ret_bool (by rw [HE.out]), by have hl := hw.size; go_grown⟩

theorem unm_1 (W : Wl) (h : mkOk W.A W.B W.K = true) (w : World) :
    Calls Try.prog 33 #[.agg #[.int .i64 W.A.x, .int .i64 W.A.y, .int .i64 W.B.x, .int .i64 W.B.y, .int .i64 W.K]] w fun e w' => e = .returned (.bool (unm W)) ∧ Below w.heap.size w w' := by
  have c1 := make_any W.A W.B W.K
  have HE : Hid (unm W = !weqI (mkW W.A W.B W.K).A.x (mkW W.A W.B W.K).A.y (mkW W.A W.B W.K).B.x (mkW W.A W.B W.K).B.y (mkW W.A W.B W.K).K W.A.x W.A.y W.B.x W.B.y W.K) := Lib.hid (by unfold unm; rw [h]; rw [weqI_dec]; rfl)
  rw [h] at c1
  clear h
  generalize mkW W.A W.B W.K = m at *
  go_enter Try.func33, Try.ntmps33
  go_wp2_with fail
  refine at_call fun W1 hW => ?_
  have Bw : Box W1 (w.heap.size) [.int .i64 W.A.x, .int .i64 W.A.y, .int .i64 W.B.x, .int .i64 W.B.y, .int .i64 W.K] 35 := by rw [hW]; exact Box.new rfl
  have hw : Below w.heap.size w W1 := by rw [hW]; go_grown
  clear hW
  refine (c1 _).mono ?_
  rintro e w2 ⟨rfl, hb⟩
  replace Bw := Bw.ext hb rfl
  replace hw := hw.trans (hb.mono hw.size)
  clear hb
  obtain ⟨xw, yw, zw, vw⟩ := Bw.facts
  go_wp2
  go_ret
  exact ⟨ret_bool (by rw [HE.out]), by have hl := hw.size; go_grown⟩

theorem unm_any (W : Wl) (w : World) :
    Calls Try.prog 33 #[.agg #[.int .i64 W.A.x, .int .i64 W.A.y, .int .i64 W.B.x, .int .i64 W.B.y, .int .i64 W.K]] w fun e w' => e = .returned (.bool (unm W)) ∧ Below w.heap.size w w' := by
  cases h : mkOk W.A W.B W.K with
  | false => exact unm_0 W h w
  | true => exact unm_1 W h w
def mnI (x y : Int) : Int := if y < x then y else x
def mxI (x y : Int) : Int := if y > x then y else x
theorem run_mnI {P : Program} (w : World) (ts : Array TypeId) (t : TypeId) (k k' : IntKind) (x y : Int) : (Builtin.min_ ts t #[.int k x, .int k' y]).run P w = .ok (.int k (mnI x y)) w := run_min_int2 w ts t k k' x y
theorem run_mxI {P : Program} (w : World) (ts : Array TypeId) (t : TypeId) (k k' : IntKind) (x y : Int) : (Builtin.max_ ts t #[.int k x, .int k' y]).run P w = .ok (.int k (mxI x y)) w := run_max_int2 w ts t k k' x y
attribute [local go_sem ↓ 10000] run_mnI run_mxI
def bsd (W : Wl) (a b : Pt) : Bool := decide (W.B.x < a.x) || (decide (b.x < W.A.x) || (decide (mxI W.A.y W.B.y < mnI a.y b.y) || decide (mxI a.y b.y < mnI W.A.y W.B.y)))
set_option maxHeartbeats 2000000 in
theorem bsd_0 (W : Wl) (a b : Pt)  (h0 : decide (W.B.x < a.x) = true) (w : World) :
    Calls Try.prog 45 #[.agg #[.int .i64 W.A.x, .int .i64 W.A.y, .int .i64 W.B.x, .int .i64 W.B.y, .int .i64 W.K], .agg #[.int .i64 a.x, .int .i64 a.y], .agg #[.int .i64 b.x, .int .i64 b.y]] w fun e w' => e = .returned (.bool (bsd W a b)) ∧ Below w.heap.size w w' := by
  have HE : Hid (bsd W a b = true) := Lib.hid (by unfold bsd; rw [h0]; rfl)
  go_enter Try.func45, Try.ntmps45
  go_wp2
  go_ret
  exact ⟨ret_bool (by rw [HE.out]), by go_grown⟩

set_option maxHeartbeats 2000000 in
theorem bsd_1 (W : Wl) (a b : Pt) (h0 : decide (W.B.x < a.x) = false) (h1 : decide (b.x < W.A.x) = true) (w : World) :
    Calls Try.prog 45 #[.agg #[.int .i64 W.A.x, .int .i64 W.A.y, .int .i64 W.B.x, .int .i64 W.B.y, .int .i64 W.K], .agg #[.int .i64 a.x, .int .i64 a.y], .agg #[.int .i64 b.x, .int .i64 b.y]] w fun e w' => e = .returned (.bool (bsd W a b)) ∧ Below w.heap.size w w' := by
  have HE : Hid (bsd W a b = true) := Lib.hid (by unfold bsd; rw [h0, h1]; rfl)
  go_enter Try.func45, Try.ntmps45
  go_wp2
  go_ret
  exact ⟨ret_bool (by rw [HE.out]), by go_grown⟩

set_option maxHeartbeats 2000000 in
theorem bsd_2 (W : Wl) (a b : Pt) (h0 : decide (W.B.x < a.x) = false) (h1 : decide (b.x < W.A.x) = false) (h2 : decide (mxI W.A.y W.B.y < mnI a.y b.y) = true) (w : World) :
    Calls Try.prog 45 #[.agg #[.int .i64 W.A.x, .int .i64 W.A.y, .int .i64 W.B.x, .int .i64 W.B.y, .int .i64 W.K], .agg #[.int .i64 a.x, .int .i64 a.y], .agg #[.int .i64 b.x, .int .i64 b.y]] w fun e w' => e = .returned (.bool (bsd W a b)) ∧ Below w.heap.size w w' := by
  have HE : Hid (bsd W a b = true) := Lib.hid (by unfold bsd; rw [h0, h1, h2]; rfl)
  go_enter Try.func45, Try.ntmps45
  go_wp2
  go_ret
  exact ⟨ret_bool (by rw [HE.out]), by go_grown⟩

set_option maxHeartbeats 2000000 in
theorem bsd_3 (W : Wl) (a b : Pt) (h0 : decide (W.B.x < a.x) = false) (h1 : decide (b.x < W.A.x) = false) (h2 : decide (mxI W.A.y W.B.y < mnI a.y b.y) = false) (w : World) :
    Calls Try.prog 45 #[.agg #[.int .i64 W.A.x, .int .i64 W.A.y, .int .i64 W.B.x, .int .i64 W.B.y, .int .i64 W.K], .agg #[.int .i64 a.x, .int .i64 a.y], .agg #[.int .i64 b.x, .int .i64 b.y]] w fun e w' => e = .returned (.bool (bsd W a b)) ∧ Below w.heap.size w w' := by
  have HE : Hid (bsd W a b = decide (mxI a.y b.y < mnI W.A.y W.B.y)) := Lib.hid (by unfold bsd; rw [h0, h1, h2]; rfl)
  go_enter Try.func45, Try.ntmps45
  go_wp2
  go_ret
  exact ⟨ret_bool (by rw [HE.out]), by go_grown⟩

theorem bsd_any (W : Wl) (a b : Pt) (w : World) :
    Calls Try.prog 45 #[.agg #[.int .i64 W.A.x, .int .i64 W.A.y, .int .i64 W.B.x, .int .i64 W.B.y, .int .i64 W.K], .agg #[.int .i64 a.x, .int .i64 a.y], .agg #[.int .i64 b.x, .int .i64 b.y]] w fun e w' => e = .returned (.bool (bsd W a b)) ∧ Below w.heap.size w w' := by
  cases h0 : decide (W.B.x < a.x) with
  | true => exact bsd_0 W a b h0 w
  | false => cases h1 : decide (b.x < W.A.x) with
    | true => exact bsd_1 W a b h0 h1 w
    | false => cases h2 : decide (mxI W.A.y W.B.y < mnI a.y b.y) with
      | true => exact bsd_2 W a b h0 h1 h2 w
      | false => exact bsd_3 W a b h0 h1 h2 w
end Go.Proofs.Ytnocdecimcpkfaa

namespace Go.Proofs.Ytnocdecimcpkfaa
open Go.RowKit Go.Sort
attribute [local go_sem] Dr.rOper Dr.rAt Dr.rUpon cell_set sg_i64 sg_u64 alloc_cell alloc_frozen
attribute [local go_sem 10000] pt_eql pt_neq wal_eql wal_neq
attribute [local irreducible] Dr.rWalk

def cmpW (S T : Wl) : Int := if cmpP S.A T.A ≠ 0 then cmpP S.A T.A else if cmpP S.B T.B ≠ 0 then cmpP S.B T.B else cmpN S.K T.K
theorem dcmp_int (a b : Int) (w : World) : Calls Try.prog 57 #[.int .i64 a, .int .i64 b] w fun e w' => e = .returned (.int .i64 (cmpN a b)) ∧ Dr.Ext w w' :=
  (cmp_int a b w).mono fun _ _ ⟨h1, h2⟩ => ⟨h1, by rw [h2]; exact ⟨Below.refl _ _, Nat.le_refl _⟩⟩
set_option maxHeartbeats 1000000 in
theorem dcmpW_any (S T : Wl) (w : World) :
    Calls Try.prog 30 #[.agg #[.int .i64 S.A.x, .int .i64 S.A.y, .int .i64 S.B.x, .int .i64 S.B.y, .int .i64 S.K], .agg #[.int .i64 T.A.x, .int .i64 T.A.y, .int .i64 T.B.x, .int .i64 T.B.y, .int .i64 T.K]] w fun e w' => e = .returned (.int .i64 (cmpW S T)) ∧ Dr.Ext w w' := by
  have d1 := dcmp_pt S.A T.A
  have d2 := dcmp_pt S.B T.B
  have d3 := dcmp_int S.K T.K
  rw [show cmpW S T = or3 (cmpP S.A T.A) (cmpP S.B T.B) (cmpN S.K T.K) by rfl]
  generalize cmpP S.A T.A = m at *
  generalize cmpP S.B T.B = n at *
  generalize cmpN S.K T.K = o at *
  go_enter Try.func30, Try.ntmps30
  go_wp2_with fail
  refine at_world fun W1 hW => ?_
  have Bs : Box W1 (w.heap.size) [.int .i64 S.A.x, .int .i64 S.A.y, .int .i64 S.B.x, .int .i64 S.B.y, .int .i64 S.K] 35 := by rw [hW]; exact (Box.new rfl).old _
  have Bt : Box W1 (w.heap.size + 1) [.int .i64 T.A.x, .int .i64 T.A.y, .int .i64 T.B.x, .int .i64 T.B.y, .int .i64 T.K] 35 := by rw [hW]; exact Box.new (by simp)
  have hw : Below w.heap.size w W1 := by rw [hW]; go_grown
  have hdr : w.drawn ≤ W1.drawn := by rw [hW]; exact Nat.le_refl _
  clear hW
  have gs := Bs.cells
  have gt := Bt.cells
  refine Dr.wp_region_tail 15 (by kernel_rfl) (by kernel_rfl) (C := fun w' => ∃ p : Regrown, w' = grow (redrawn W1 p.d) p.os) (fun w' h => regrown_of_below h) ?_
  simp only [List.take_succ_cons, List.take_zero, List.drop_succ_cons, List.drop_zero]
  repeat (first | (refine Dr_skip (Eq.refl false) ?_; simp only [Act.put, List.setIfInBounds_toArray, List.set_cons_succ, List.set_cons_zero]) | (refine Dr.rWalk_step (fun K hK => ?_); go_simp; first | (refine hK _ ?_; clear hK K) | (apply Exists.intro; refine ⟨fun _ => ?_, hK _ ?_⟩; (first | with_reducible exact Dr.toExt d1 _ | with_reducible exact Dr.toExt d2 _ | with_reducible exact Dr.toExt d3 _); clear hK K)))
  refine Dr.rWalk_nil ?_
  intro w2 hb0
  have hb := hb0.1
  replace hdr := Nat.le_trans hdr hb0.2
  clear hb0
  clear gs gt
  replace Bs := Bs.ext hb rfl
  replace Bt := Bt.ext hb rfl
  replace hw := hw.trans (hb.mono hw.size)
  obtain ⟨xs, ys, zs, vs⟩ := Bs.facts
  obtain ⟨xt, yt, zt, vt⟩ := Bt.facts
  go_wp2_with fail
  refine at_call fun W3 hW => ?_
  obtain ⟨bkv, hbv⟩ : ∃ b, w2.heap.size = b := ⟨_, rfl⟩
  rw [hbv]
  have lsv := Bs.lt
  rw [hbv] at lsv
  have ltv := Bt.lt
  rw [hbv] at ltv
  have fv := hw.size
  rw [hbv] at fv
  have Bv : Box W3 bkv [.int .i64 m, .int .i64 n, .int .i64 o] 3 := by rw [hW]; exact Box.new hbv.symm
  replace Bs : Box W3 (w.heap.size) [.int .i64 S.A.x, .int .i64 S.A.y, .int .i64 S.B.x, .int .i64 S.B.y, .int .i64 S.K] 35 := by rw [hW]; exact Bs.old _
  replace Bt : Box W3 (w.heap.size + 1) [.int .i64 T.A.x, .int .i64 T.A.y, .int .i64 T.B.x, .int .i64 T.B.y, .int .i64 T.K] 35 := by rw [hW]; exact Bt.old _
  replace hw : Below w.heap.size w W3 := by have hl := hw.size; rw [hW]; go_grown
  replace hdr : w.drawn ≤ W3.drawn := by rw [hW]; exact hdr
  clear hW hbv
  refine (dor_any m n o _ bkv Bv).mono ?_
  rintro e w4 ⟨rfl, hb0⟩
  have hb := hb0.1
  replace hdr := Nat.le_trans hdr hb0.2
  clear hb0
  clear xs ys zs vs xt yt zt vt
  replace Bs := Bs.ext hb rfl
  replace Bt := Bt.ext hb rfl
  replace Bv := Bv.ext hb rfl
  replace hw := hw.trans (hb.mono hw.size)
  clear hb
  obtain ⟨xs, ys, zs, vs⟩ := Bs.facts
  obtain ⟨xt, yt, zt, vt⟩ := Bt.facts
  obtain ⟨xv, yv, zv, vv⟩ := Bv.facts
  go_wp2
  go_ret
  exact ⟨rfl, by have hl := hw.size; go_grown, hdr⟩

theorem cmpW_any (S T : Wl) (w : World) : Calls Try.prog 30 #[.agg #[.int .i64 S.A.x, .int .i64 S.A.y, .int .i64 S.B.x, .int .i64 S.B.y, .int .i64 S.K], .agg #[.int .i64 T.A.x, .int .i64 T.A.y, .int .i64 T.B.x, .int .i64 T.B.y, .int .i64 T.K]] w fun e w' => e = .returned (.int .i64 (cmpW S T)) ∧ Below w.heap.size w w' :=
  (dcmpW_any S T w).mono fun _ _ ⟨h1, h2⟩ => ⟨h1, h2.1⟩
theorem cmpN_neg (a b : Int) : cmpN b a = -cmpN a b := by unfold cmpN sgn; (repeat' split) <;> omega
theorem cmpN_eq0 {a b : Int} : cmpN a b = 0 ↔ a = b := by unfold cmpN sgn; (repeat' split) <;> omega
theorem cmpN_lt {a b : Int} : cmpN a b < 0 ↔ a < b := by unfold cmpN sgn; (repeat' split) <;> omega
theorem cmpW_neg (S T : Wl) : cmpW T S = -cmpW S T := by
  unfold cmpW; rw [cmpP_neg S.A T.A, cmpP_neg S.B T.B, cmpN_neg S.K T.K]; (repeat' split) <;> omega
theorem cmpW_eq0 {S T : Wl} : cmpW S T = 0 ↔ S = T := by
  rw [Wl.eq_iff, ← cmpP_eq0 (p := S.A), ← cmpP_eq0 (p := S.B), ← cmpN_eq0 (a := S.K)]
  unfold cmpW; (repeat' split) <;> omega
theorem cmpW_lt {S T : Wl} : cmpW S T < 0 ↔ cmpP S.A T.A < 0 ∨ (S.A = T.A ∧ (cmpP S.B T.B < 0 ∨ (S.B = T.B ∧ S.K < T.K))) := by
  rw [← cmpP_eq0 (p := S.A), ← cmpP_eq0 (p := S.B), ← cmpN_lt (a := S.K)]
  unfold cmpW; (repeat' split) <;> omega
theorem cmpW_trans {S T U : Wl} (h1 : cmpW S T < 0) (h2 : cmpW T U < 0) : cmpW S U < 0 := by
  rw [cmpW_lt] at *
  rcases h1 with h1 | ⟨e1, h1⟩
  · rcases h2 with h2 | ⟨e2, h2⟩
    · exact .inl (cmpP_trans h1 h2)
    · exact .inl (e2 ▸ h1)
  · rcases h2 with h2 | ⟨e2, h2⟩
    · exact .inl (by rw [e1]; exact h2)
    · refine .inr ⟨e1.trans e2, ?_⟩
      rcases h1 with h1 | ⟨e3, h1⟩
      · rcases h2 with h2 | ⟨e4, h2⟩
        · exact .inl (cmpP_trans h1 h2)
        · exact .inl (e4 ▸ h1)
      · rcases h2 with h2 | ⟨e4, h2⟩
        · exact .inl (by rw [e3]; exact h2)
        · exact .inr ⟨e3.trans e4, by omega⟩
theorem wholeW : Whole cmpW := ⟨cmpW_neg, cmpW_eq0, cmpW_trans⟩
theorem cmpW_bd (S T : Wl) : -1 ≤ cmpW S T ∧ cmpW S T ≤ 1 := by
  have h1 := cmpP_bd S.A T.A
  have h2 := cmpP_bd S.B T.B
  have h3 := cmpN_bd S.K T.K
  unfold cmpW; (repeat' split) <;> omega
end Go.Proofs.Ytnocdecimcpkfaa

namespace Go.Proofs.Ytnocdecimcpkfaa
open Go.Shelf Go.Proofs
def sortWl_ren : Go.Shelf.Ren := ⟨fun | 6 => 35 | 15 => 60 | 14 => 59 | 28 => 83 | 29 => 84 | 20 => 75 | 21 => 76 | 22 => 77 | 23 => 78 | 24 => 79 | 25 => 80 | 26 => 81 | 27 => 82 | 46 => 89 | 47 => 90 | 48 => 91 | 49 => 92 | 50 => 93 | 57 => 95 | n => n, fun | 22 => 22 | 24 => 35 | 25 => 53 | 3 => 3 | 39 => 82 | 0 => 0 | 53 => 99 | 55 => 101 | 4 => 4 | 46 => 93 | 45 => 92 | 50 => 65 | 5 => 5 | 9 => 9 | 66 => 102 | 70 => 106 | 76 => 109 | 77 => 110 | n => n, fun | n => n⟩
theorem sortWl : Go.Proofs.SlLaysF0.n6 Try.prog sortWl_ren := {
  mixed := by kernel_rfl
  f6 := ⟨Try.f35.name, by decide, Try.func35.trans (congrArg some (by kernel_rfl))⟩
  f14 := ⟨Try.f59.name, by decide, Try.func59.trans (congrArg some (by kernel_rfl))⟩
  f15 := Try.func60.trans (congrArg some (by kernel_rfl))
  f20 := ⟨Try.f75.name, by decide, Try.func75.trans (congrArg some (by kernel_rfl))⟩
  f21 := ⟨Try.f76.name, by decide, Try.func76.trans (congrArg some (by kernel_rfl))⟩
  f22 := ⟨Try.f77.name, by decide, Try.func77.trans (congrArg some (by kernel_rfl))⟩
  f23 := ⟨Try.f78.name, by decide, Try.func78.trans (congrArg some (by kernel_rfl))⟩
  f24 := ⟨Try.f79.name, by decide, Try.func79.trans (congrArg some (by kernel_rfl))⟩
  f25 := ⟨Try.f80.name, by decide, Try.func80.trans (congrArg some (by kernel_rfl))⟩
  f26 := ⟨Try.f81.name, by decide, Try.func81.trans (congrArg some (by kernel_rfl))⟩
  f27 := ⟨Try.f82.name, by decide, Try.func82.trans (congrArg some (by kernel_rfl))⟩
  f28 := Try.func83.trans (congrArg some (by kernel_rfl))
  f29 := Try.func84.trans (congrArg some (by kernel_rfl))
  f46 := ⟨Try.f89.name, by decide, Try.func89.trans (congrArg some (by kernel_rfl))⟩
  f47 := Try.func90.trans (congrArg some (by kernel_rfl))
  f48 := Try.func91.trans (congrArg some (by kernel_rfl))
  f49 := ⟨Try.f92.name, by decide, Try.func92.trans (congrArg some (by kernel_rfl))⟩
  f50 := ⟨Try.f93.name, by decide, Try.func93.trans (congrArg some (by kernel_rfl))⟩
  f57 := ⟨Try.f95.name, by decide, Try.func95.trans (congrArg some (by kernel_rfl))⟩
  t0 := Try.underlying0
  a0 := Try.isAgg0
  z0 := Try.sizeOf0
  v0 := Try.zeroValue0
  t3 := Try.underlying3
  a3 := Try.isAgg3
  z3 := Try.sizeOf3
  v3 := Try.zeroValue3
  t4 := Try.underlying4
  a4 := Try.isAgg4
  z4 := Try.sizeOf4
  v4 := Try.zeroValue4
  t5 := Try.underlying5
  a5 := Try.isAgg5
  z5 := Try.sizeOf5
  v5 := Try.zeroValue5
  t9 := Try.underlying9
  a9 := Try.isAgg9
  z9 := Try.sizeOf9
  v9 := Try.zeroValue9
  t22 := Try.underlying22
  a22 := Try.isAgg22
  z22 := Try.sizeOf22
  v22 := Try.zeroValue22
  t25 := Try.underlying53
  a25 := Try.isAgg53
  z25 := Try.sizeOf53
  v25 := Try.zeroValue53
  t39 := Try.underlying82
  a39 := Try.isAgg82
  z39 := Try.sizeOf82
  v39 := Try.zeroValue82
  t45 := Try.underlying92
  a45 := Try.isAgg92
  z45 := Try.sizeOf92
  v45 := Try.zeroValue92
  t46 := Try.underlying93
  a46 := Try.isAgg93
  z46 := Try.sizeOf93
  v46 := Try.zeroValue93
  t50 := Try.underlying65
  a50 := Try.isAgg65
  z50 := Try.sizeOf65
  v50 := Try.zeroValue65
  t53 := Try.underlying99
  a53 := Try.isAgg99
  z53 := Try.sizeOf99
  v53 := Try.zeroValue99
  t55 := Try.underlying101
  a55 := Try.isAgg101
  z55 := Try.sizeOf101
  v55 := Try.zeroValue101
  t66 := Try.underlying102
  a66 := Try.isAgg102
  z66 := Try.sizeOf102
  v66 := Try.zeroValue102
  t70 := Try.underlying106
  a70 := Try.isAgg106
  z70 := Try.sizeOf106
  v70 := Try.zeroValue106
  t76 := Try.underlying109
  a76 := Try.isAgg109
  z76 := Try.sizeOf109
  v76 := Try.zeroValue109
  t77 := Try.underlying110
  a77 := Try.isAgg110
  z77 := Try.sizeOf110
  v77 := Try.zeroValue110 }
def idxWl_ren : Go.Shelf.Ren := ⟨fun | 6 => 58 | n => n, fun | 22 => 22 | 23 => 35 | 25 => 60 | 3 => 3 | 0 => 0 | 4 => 4 | n => n, fun | n => n⟩
theorem idxWl : Go.Proofs.SlLaysH0.n6 Try.prog idxWl_ren := {
  mixed := by kernel_rfl
  f6 := ⟨Try.f58.name, by decide, Try.func58.trans (congrArg some (by kernel_rfl))⟩
  t0 := Try.underlying0
  a0 := Try.isAgg0
  z0 := Try.sizeOf0
  v0 := Try.zeroValue0
  t3 := Try.underlying3
  a3 := Try.isAgg3
  z3 := Try.sizeOf3
  v3 := Try.zeroValue3
  t4 := Try.underlying4
  a4 := Try.isAgg4
  z4 := Try.sizeOf4
  v4 := Try.zeroValue4
  t22 := Try.underlying22
  a22 := Try.isAgg22
  z22 := Try.sizeOf22
  v22 := Try.zeroValue22
  t25 := Try.underlying60
  a25 := Try.isAgg60
  z25 := Try.sizeOf60
  v25 := Try.zeroValue60 }
def conWl_ren : Go.Shelf.Ren := ⟨fun | 8 => 32 | 6 => 58 | n => n, fun | 22 => 22 | 23 => 35 | 25 => 60 | 4 => 4 | 3 => 3 | 0 => 0 | n => n, fun | n => n⟩
theorem conWl : Go.Proofs.SlLaysH0.n8 Try.prog conWl_ren := {
  mixed := by kernel_rfl
  f6 := ⟨Try.f58.name, by decide, Try.func58.trans (congrArg some (by kernel_rfl))⟩
  f8 := ⟨Try.f32.name, by decide, Try.func32.trans (congrArg some (by kernel_rfl))⟩
  t0 := Try.underlying0
  a0 := Try.isAgg0
  z0 := Try.sizeOf0
  v0 := Try.zeroValue0
  t3 := Try.underlying3
  a3 := Try.isAgg3
  z3 := Try.sizeOf3
  v3 := Try.zeroValue3
  t4 := Try.underlying4
  a4 := Try.isAgg4
  z4 := Try.sizeOf4
  v4 := Try.zeroValue4
  t22 := Try.underlying22
  a22 := Try.isAgg22
  z22 := Try.sizeOf22
  v22 := Try.zeroValue22
  t25 := Try.underlying60
  a25 := Try.isAgg60
  z25 := Try.sizeOf60
  v25 := Try.zeroValue60 }
def cloneWl_ren : Go.Shelf.Ren := ⟨fun | 41 => 34 | n => n, fun | 22 => 22 | 23 => 35 | 4 => 4 | n => n, fun | n => n⟩
theorem cloneWl : Go.Proofs.SlLaysE0.n41 Try.prog cloneWl_ren := {
  mixed := by kernel_rfl
  f41 := ⟨Try.f34.name, by decide, Try.func34.trans (congrArg some (by kernel_rfl))⟩
  t4 := Try.underlying4
  a4 := Try.isAgg4
  z4 := Try.sizeOf4
  v4 := Try.zeroValue4
  t22 := Try.underlying22
  a22 := Try.isAgg22
  z22 := Try.sizeOf22
  v22 := Try.zeroValue22 }
end Go.Proofs.Ytnocdecimcpkfaa
