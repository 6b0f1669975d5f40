/- Put together: WalA, WalB, Shelf, WalC. -/
import Derived.Test.YtnocdecimcpkfaaRows
import Derived.Test.YtnocdecimcpkfaaPut15
import Derived.Test.YtnocdecimcpkfaaPut14
import Derived.Test.YtnocdecimcpkfaaPut4
import Derived.Test.YtnocdecimcpkfaaPut1
import Derived.WalkKit
import Derived.WalkSpells
import Derived.WalkLawsBesides
import Derived.Laws.Externs
import Derived.Deep.QuietTactic
import Derived.BigQuiet
import Derived.Lib.Hide
import Derived.Handy
import Derived.LoopN
import Derived.RegionTactic
import Derived.Shelf.SlSortCmp.NoneTotal
import Derived.Shelf.SlicesQ.IndexFunc
import Derived.Shelf.SlicesE.Clone
import Derived.Ground.SlsfProg
import Derived.Ground.SlgfProg
import Derived.Ground.SlgnProg
import Derived.Test.YtnocdecimcpkfaaProg
import Derived.Laws.AppendOwn
import Derived.OwnWalk
import Derived.BigCall
namespace Go.Proofs.Ytnocdecimcpkfaa
open Go.RowKit Go.Sort
attribute [local go_sem] rOper rAt rUpon cell_set sg_i64 sg_u64 alloc_cell alloc_frozen
attribute [local go_sem 10000] pt_eql pt_neq wal_eql wal_neq
attribute [local irreducible] rWalk

theorem lsf_0 (a b : Pt) (h : decide (cmpP b a < 0) = false) (w : World) :
    Calls Try.prog 49 #[.agg #[.int .i64 a.x, .int .i64 a.y], .agg #[.int .i64 b.x, .int .i64 b.y]] w fun e w' => e = .returned (.tuple #[.agg #[.int .i64 a.x, .int .i64 a.y], .agg #[.int .i64 b.x, .int .i64 b.y]]) ∧ Below w.heap.size w w' := by
  have c1 := cmp_pt b a
  generalize cmpP b a = n at *
  go_enter Try.func49, Try.ntmps49
  go_wp2_with fail
  refine at_call fun W1 hW => ?_
  have Ba : Box W1 (w.heap.size) [.int .i64 a.x, .int .i64 a.y] 33 := by rw [hW]; exact (((Box.new rfl).old _).old _).old _
  have Bb : Box W1 (w.heap.size + 1) [.int .i64 b.x, .int .i64 b.y] 33 := by rw [hW]; exact ((Box.new (by simp)).old _).old _
  have Br : Box W1 (w.heap.size + 1 + 1) [.int .i64 0, .int .i64 0] 33 := by rw [hW]; exact (Box.new (by simp)).old _
  have Bs : Box W1 (w.heap.size + 1 + 1 + 1) [.int .i64 0, .int .i64 0] 33 := by rw [hW]; exact Box.new (by simp)
  have hw : Below w.heap.size w W1 := by rw [hW]; go_grown
  clear hW
  refine (c1 _).mono ?_
  rintro e w2 ⟨rfl, hb⟩
  replace Ba := Ba.ext hb rfl
  replace Bb := Bb.ext hb rfl
  replace Br := Br.ext hb rfl
  replace Bs := Bs.ext hb rfl
  replace hw := hw.trans (hb.mono hw.size)
  clear hb
  obtain ⟨xa, ya, za, va⟩ := Ba.facts
  obtain ⟨xb, yb, zb, vb⟩ := Bb.facts
  obtain ⟨xr, yr, zr, vr⟩ := Br.facts
  obtain ⟨xs, ys, zs, vs⟩ := Bs.facts
  go_wp2_with fail
  go_region
  go_wp2_with fail
  refine bodyPost_ret (v := .tuple #[.agg #[.int .i64 a.x, .int .i64 a.y], .agg #[.int .i64 b.x, .int .i64 b.y]]) (by simp [results, Try.results49, go_sem, xr, xs]) rfl ⟨rfl, by have hl := hw.size; go_grown⟩

theorem lsf_1 (a b : Pt) (h : decide (cmpP b a < 0) = true) (w : World) :
    Calls Try.prog 49 #[.agg #[.int .i64 a.x, .int .i64 a.y], .agg #[.int .i64 b.x, .int .i64 b.y]] w fun e w' => e = .returned (.tuple #[.agg #[.int .i64 b.x, .int .i64 b.y], .agg #[.int .i64 a.x, .int .i64 a.y]]) ∧ Below w.heap.size w w' := by
  have c1 := cmp_pt b a
  generalize cmpP b a = n at *
  go_enter Try.func49, Try.ntmps49
  go_wp2_with fail
  refine at_call fun W1 hW => ?_
  have Ba : Box W1 (w.heap.size) [.int .i64 a.x, .int .i64 a.y] 33 := by rw [hW]; exact (((Box.new rfl).old _).old _).old _
  have Bb : Box W1 (w.heap.size + 1) [.int .i64 b.x, .int .i64 b.y] 33 := by rw [hW]; exact ((Box.new (by simp)).old _).old _
  have Br : Box W1 (w.heap.size + 1 + 1) [.int .i64 0, .int .i64 0] 33 := by rw [hW]; exact (Box.new (by simp)).old _
  have Bs : Box W1 (w.heap.size + 1 + 1 + 1) [.int .i64 0, .int .i64 0] 33 := by rw [hW]; exact Box.new (by simp)
  have hw : Below w.heap.size w W1 := by rw [hW]; go_grown
  clear hW
  refine (c1 _).mono ?_
  rintro e w2 ⟨rfl, hb⟩
  replace Ba := Ba.ext hb rfl
  replace Bb := Bb.ext hb rfl
  replace Br := Br.ext hb rfl
  replace Bs := Bs.ext hb rfl
  replace hw := hw.trans (hb.mono hw.size)
  clear hb
  obtain ⟨xa, ya, za, va⟩ := Ba.facts
  obtain ⟨xb, yb, zb, vb⟩ := Bb.facts
  obtain ⟨xr, yr, zr, vr⟩ := Br.facts
  obtain ⟨xs, ys, zs, vs⟩ := Bs.facts
  go_wp2_with fail
  go_region
  go_wp2_with fail
  refine bodyPost_ret (v := .tuple #[.agg #[.int .i64 b.x, .int .i64 b.y], .agg #[.int .i64 a.x, .int .i64 a.y]]) (by simp [results, Try.results49, go_sem, xr, xs]) rfl ⟨rfl, by have hl := hw.size; go_grown⟩

theorem lsf_any (a b : Pt) (w : World) :
    Calls Try.prog 49 #[.agg #[.int .i64 a.x, .int .i64 a.y], .agg #[.int .i64 b.x, .int .i64 b.y]] w fun e w' => e = .returned (.tuple #[.agg #[.int .i64 (lo2 a b).x, .int .i64 (lo2 a b).y], .agg #[.int .i64 (hi2 a b).x, .int .i64 (hi2 a b).y]]) ∧ Below w.heap.size w w' := by
  cases h : decide (cmpP b a < 0) with
  | true => rw [show lo2 a b = b by unfold lo2; rw [if_pos (by simpa using h)], show hi2 a b = a by unfold hi2; rw [if_pos (by simpa using h)]]; exact lsf_1 a b h w
  | false => rw [show lo2 a b = a by unfold lo2; rw [if_neg (by simpa using h)], show hi2 a b = b by unfold hi2; rw [if_neg (by simpa using h)]]; exact lsf_0 a b h w
theorem make_u (a b : Pt) (k : Int) (e1 : (k == 1) = false) (e2 : (k == 2) = false) (w : World) :
    Calls Try.prog 16 #[.agg #[.int .i64 a.x, .int .i64 a.y], .agg #[.int .i64 b.x, .int .i64 b.y], .int .i64 k] w fun e w' => e = .returned (.tuple #[.agg #[.int .i64 0, .int .i64 0, .int .i64 0, .int .i64 0, .int .i64 0], .bool false]) ∧ Below w.heap.size w w' := by
  go_enter Try.func16, Try.ntmps16
  go_wp2_with fail
  refine bodyPost_ret (v := .tuple #[.agg #[.int .i64 0, .int .i64 0, .int .i64 0, .int .i64 0, .int .i64 0], .bool false]) (by simp [results, Try.results16, go_sem]) rfl ⟨rfl, by go_grown⟩

theorem make_e1 (a b : Pt) (k : Int) (e1 : (k == 1) = true) (e : peqI a.x a.y b.x b.y = true) (w : World) :
    Calls Try.prog 16 #[.agg #[.int .i64 a.x, .int .i64 a.y], .agg #[.int .i64 b.x, .int .i64 b.y], .int .i64 k] w fun e w' => e = .returned (.tuple #[.agg #[.int .i64 0, .int .i64 0, .int .i64 0, .int .i64 0, .int .i64 0], .bool false]) ∧ Below w.heap.size w w' := by
  go_enter Try.func16, Try.ntmps16
  go_wp2_with fail
  refine bodyPost_ret (v := .tuple #[.agg #[.int .i64 0, .int .i64 0, .int .i64 0, .int .i64 0, .int .i64 0], .bool false]) (by simp [results, Try.results16, go_sem]) rfl ⟨rfl, by go_grown⟩

theorem make_a1 (a b : Pt) (k : Int) (e1 : (k == 1) = true) (e : peqI a.x a.y b.x b.y = false) (ha : vld a = false) (w : World) :
    Calls Try.prog 16 #[.agg #[.int .i64 a.x, .int .i64 a.y], .agg #[.int .i64 b.x, .int .i64 b.y], .int .i64 k] w fun e w' => e = .returned (.tuple #[.agg #[.int .i64 0, .int .i64 0, .int .i64 0, .int .i64 0, .int .i64 0], .bool false]) ∧ Below w.heap.size w w' := by
  have c1 := valid_any a
  rw [ha] at c1
  clear ha
  go_enter Try.func16, Try.ntmps16
  go_wp2_with fail
  refine at_call fun W1 hW => ?_
  have Ba : Box W1 (w.heap.size) [.int .i64 a.x, .int .i64 a.y] 33 := by rw [hW]; exact ((Box.new rfl).old _).old _
  have Bb : Box W1 (w.heap.size + 1) [.int .i64 b.x, .int .i64 b.y] 33 := by rw [hW]; exact (Box.new (by simp)).old _
  have Br : Box W1 (w.heap.size + 1 + 1) [.int .i64 0, .int .i64 0, .int .i64 0, .int .i64 0, .int .i64 0] 35 := by rw [hW]; exact Box.new (by simp)
  have hw : Below w.heap.size w W1 := by rw [hW]; go_grown
  clear hW
  refine (c1 _).mono ?_
  rintro e w2 ⟨rfl, hb⟩
  replace Ba := Ba.ext hb rfl
  replace Bb := Bb.ext hb rfl
  replace Br := Br.ext hb rfl
  replace hw := hw.trans (hb.mono hw.size)
  clear hb
  obtain ⟨xa, ya, za, va⟩ := Ba.facts
  obtain ⟨xb, yb, zb, vb⟩ := Bb.facts
  obtain ⟨xr, yr, zr, vr⟩ := Br.facts
  go_wp2_with fail
  refine bodyPost_ret (v := .tuple #[.agg #[.int .i64 0, .int .i64 0, .int .i64 0, .int .i64 0, .int .i64 0], .bool false]) (by simp [results, Try.results16, go_sem, xr]) rfl ⟨rfl, by have hl := hw.size; go_grown⟩

theorem make_b1 (a b : Pt) (k : Int) (e1 : (k == 1) = true) (e : peqI a.x a.y b.x b.y = false) (ha : vld a = true) (hb : vld b = false) (w : World) :
    Calls Try.prog 16 #[.agg #[.int .i64 a.x, .int .i64 a.y], .agg #[.int .i64 b.x, .int .i64 b.y], .int .i64 k] w fun e w' => e = .returned (.tuple #[.agg #[.int .i64 0, .int .i64 0, .int .i64 0, .int .i64 0, .int .i64 0], .bool false]) ∧ Below w.heap.size w w' := by
  have c1 := valid_any a
  rw [ha] at c1
  have c2 := valid_any b
  rw [hb] at c2
  clear ha hb
  go_enter Try.func16, Try.ntmps16
  go_wp2_with fail
  refine at_call fun W1 hW => ?_
  have Ba : Box W1 (w.heap.size) [.int .i64 a.x, .int .i64 a.y] 33 := by rw [hW]; exact ((Box.new rfl).old _).old _
  have Bb : Box W1 (w.heap.size + 1) [.int .i64 b.x, .int .i64 b.y] 33 := by rw [hW]; exact (Box.new (by simp)).old _
  have Br : Box W1 (w.heap.size + 1 + 1) [.int .i64 0, .int .i64 0, .int .i64 0, .int .i64 0, .int .i64 0] 35 := by rw [hW]; exact Box.new (by simp)
  have hw : Below w.heap.size w W1 := by rw [hW]; go_grown
  clear hW
  refine (c1 _).mono ?_
  rintro e w2 ⟨rfl, hb⟩
  replace Ba := Ba.ext hb rfl
  replace Bb := Bb.ext hb rfl
  replace Br := Br.ext hb rfl
  replace hw := hw.trans (hb.mono hw.size)
  clear hb
  obtain ⟨xa, ya, za, va⟩ := Ba.facts
  obtain ⟨xb, yb, zb, vb⟩ := Bb.facts
  obtain ⟨xr, yr, zr, vr⟩ := Br.facts
  go_wp2_with fail
  refine (c2 _).mono ?_
  rintro e w3 ⟨rfl, hb⟩
  clear xa ya za va xb yb zb vb xr yr zr vr
  replace Ba := Ba.ext hb rfl
  replace Bb := Bb.ext hb rfl
  replace Br := Br.ext hb rfl
  replace hw := hw.trans (hb.mono hw.size)
  clear hb
  obtain ⟨xa, ya, za, va⟩ := Ba.facts
  obtain ⟨xb, yb, zb, vb⟩ := Bb.facts
  obtain ⟨xr, yr, zr, vr⟩ := Br.facts
  go_wp2_with fail
  refine bodyPost_ret (v := .tuple #[.agg #[.int .i64 0, .int .i64 0, .int .i64 0, .int .i64 0, .int .i64 0], .bool false]) (by simp [results, Try.results16, go_sem, xr]) rfl ⟨rfl, by have hl := hw.size; go_grown⟩

theorem make_o1 (a b : Pt) (k : Int) (e1 : (k == 1) = true) (e : peqI a.x a.y b.x b.y = false) (ha : vld a = true) (hb : vld b = true) (w : World) :
    Calls Try.prog 16 #[.agg #[.int .i64 a.x, .int .i64 a.y], .agg #[.int .i64 b.x, .int .i64 b.y], .int .i64 k] w fun e w' => e = .returned (.tuple #[.agg #[.int .i64 (lo2 a b).x, .int .i64 (lo2 a b).y, .int .i64 (hi2 a b).x, .int .i64 (hi2 a b).y, .int .i64 k], .bool true]) ∧ Below w.heap.size w w' := by
  have c1 := valid_any a
  rw [ha] at c1
  have c2 := valid_any b
  rw [hb] at c2
  have c3 := lsf_any a b
  clear ha hb
  generalize lo2 a b = p at *
  generalize hi2 a b = q at *
  go_enter Try.func16, Try.ntmps16
  go_wp2_with fail
  refine at_call fun W1 hW => ?_
  have Ba : Box W1 (w.heap.size) [.int .i64 a.x, .int .i64 a.y] 33 := by rw [hW]; exact ((Box.new rfl).old _).old _
  have Bb : Box W1 (w.heap.size + 1) [.int .i64 b.x, .int .i64 b.y] 33 := by rw [hW]; exact (Box.new (by simp)).old _
  have Br : Box W1 (w.heap.size + 1 + 1) [.int .i64 0, .int .i64 0, .int .i64 0, .int .i64 0, .int .i64 0] 35 := by rw [hW]; exact Box.new (by simp)
  have hw : Below w.heap.size w W1 := by rw [hW]; go_grown
  clear hW
  refine (c1 _).mono ?_
  rintro e w2 ⟨rfl, hb⟩
  replace Ba := Ba.ext hb rfl
  replace Bb := Bb.ext hb rfl
  replace Br := Br.ext hb rfl
  replace hw := hw.trans (hb.mono hw.size)
  clear hb
  obtain ⟨xa, ya, za, va⟩ := Ba.facts
  obtain ⟨xb, yb, zb, vb⟩ := Bb.facts
  obtain ⟨xr, yr, zr, vr⟩ := Br.facts
  go_wp2_with fail
  refine (c2 _).mono ?_
  rintro e w3 ⟨rfl, hb⟩
  clear xa ya za va xb yb zb vb xr yr zr vr
  replace Ba := Ba.ext hb rfl
  replace Bb := Bb.ext hb rfl
  replace Br := Br.ext hb rfl
  replace hw := hw.trans (hb.mono hw.size)
  clear hb
  obtain ⟨xa, ya, za, va⟩ := Ba.facts
  obtain ⟨xb, yb, zb, vb⟩ := Bb.facts
  obtain ⟨xr, yr, zr, vr⟩ := Br.facts
  go_wp2_with fail
  refine (c3 _).mono ?_
  rintro e w4 ⟨rfl, hb⟩
  clear xa ya za va xb yb zb vb xr yr zr vr
  replace Ba := Ba.ext hb rfl
  replace Bb := Bb.ext hb rfl
  replace Br := Br.ext hb rfl
  replace hw := hw.trans (hb.mono hw.size)
  clear hb
  obtain ⟨xa, ya, za, va⟩ := Ba.facts
  obtain ⟨xb, yb, zb, vb⟩ := Bb.facts
  obtain ⟨xr, yr, zr, vr⟩ := Br.facts
  go_wp2_with fail
  refine bodyPost_ret (v := .tuple #[.agg #[.int .i64 p.x, .int .i64 p.y, .int .i64 q.x, .int .i64 q.y, .int .i64 k], .bool true]) (by simp [results, Try.results16, go_sem, xr]) rfl ⟨rfl, by have hl := hw.size; go_grown⟩

theorem make_e2 (a b : Pt) (k : Int) (e1 : (k == 1) = false) (e2 : (k == 2) = true) (e : peqI a.x a.y b.x b.y = true) (w : World) :
    Calls Try.prog 16 #[.agg #[.int .i64 a.x, .int .i64 a.y], .agg #[.int .i64 b.x, .int .i64 b.y], .int .i64 k] w fun e w' => e = .returned (.tuple #[.agg #[.int .i64 0, .int .i64 0, .int .i64 0, .int .i64 0, .int .i64 0], .bool false]) ∧ Below w.heap.size w w' := by
  go_enter Try.func16, Try.ntmps16
  go_wp2_with fail
  refine bodyPost_ret (v := .tuple #[.agg #[.int .i64 0, .int .i64 0, .int .i64 0, .int .i64 0, .int .i64 0], .bool false]) (by simp [results, Try.results16, go_sem]) rfl ⟨rfl, by go_grown⟩

theorem make_a2 (a b : Pt) (k : Int) (e1 : (k == 1) = false) (e2 : (k == 2) = true) (e : peqI a.x a.y b.x b.y = false) (ha : vld a = false) (w : World) :
    Calls Try.prog 16 #[.agg #[.int .i64 a.x, .int .i64 a.y], .agg #[.int .i64 b.x, .int .i64 b.y], .int .i64 k] w fun e w' => e = .returned (.tuple #[.agg #[.int .i64 0, .int .i64 0, .int .i64 0, .int .i64 0, .int .i64 0], .bool false]) ∧ Below w.heap.size w w' := by
  have c1 := valid_any a
  rw [ha] at c1
  clear ha
  go_enter Try.func16, Try.ntmps16
  go_wp2_with fail
  refine at_call fun W1 hW => ?_
  have Ba : Box W1 (w.heap.size) [.int .i64 a.x, .int .i64 a.y] 33 := by rw [hW]; exact ((Box.new rfl).old _).old _
  have Bb : Box W1 (w.heap.size + 1) [.int .i64 b.x, .int .i64 b.y] 33 := by rw [hW]; exact (Box.new (by simp)).old _
  have Br : Box W1 (w.heap.size + 1 + 1) [.int .i64 0, .int .i64 0, .int .i64 0, .int .i64 0, .int .i64 0] 35 := by rw [hW]; exact Box.new (by simp)
  have hw : Below w.heap.size w W1 := by rw [hW]; go_grown
  clear hW
  refine (c1 _).mono ?_
  rintro e w2 ⟨rfl, hb⟩
  replace Ba := Ba.ext hb rfl
  replace Bb := Bb.ext hb rfl
  replace Br := Br.ext hb rfl
  replace hw := hw.trans (hb.mono hw.size)
  clear hb
  obtain ⟨xa, ya, za, va⟩ := Ba.facts
  obtain ⟨xb, yb, zb, vb⟩ := Bb.facts
  obtain ⟨xr, yr, zr, vr⟩ := Br.facts
  go_wp2_with fail
  refine bodyPost_ret (v := .tuple #[.agg #[.int .i64 0, .int .i64 0, .int .i64 0, .int .i64 0, .int .i64 0], .bool false]) (by simp [results, Try.results16, go_sem, xr]) rfl ⟨rfl, by have hl := hw.size; go_grown⟩

theorem make_b2 (a b : Pt) (k : Int) (e1 : (k == 1) = false) (e2 : (k == 2) = true) (e : peqI a.x a.y b.x b.y = false) (ha : vld a = true) (hb : vld b = false) (w : World) :
    Calls Try.prog 16 #[.agg #[.int .i64 a.x, .int .i64 a.y], .agg #[.int .i64 b.x, .int .i64 b.y], .int .i64 k] w fun e w' => e = .returned (.tuple #[.agg #[.int .i64 0, .int .i64 0, .int .i64 0, .int .i64 0, .int .i64 0], .bool false]) ∧ Below w.heap.size w w' := by
  have c1 := valid_any a
  rw [ha] at c1
  have c2 := valid_any b
  rw [hb] at c2
  clear ha hb
  go_enter Try.func16, Try.ntmps16
  go_wp2_with fail
  refine at_call fun W1 hW => ?_
  have Ba : Box W1 (w.heap.size) [.int .i64 a.x, .int .i64 a.y] 33 := by rw [hW]; exact ((Box.new rfl).old _).old _
  have Bb : Box W1 (w.heap.size + 1) [.int .i64 b.x, .int .i64 b.y] 33 := by rw [hW]; exact (Box.new (by simp)).old _
  have Br : Box W1 (w.heap.size + 1 + 1) [.int .i64 0, .int .i64 0, .int .i64 0, .int .i64 0, .int .i64 0] 35 := by rw [hW]; exact Box.new (by simp)
  have hw : Below w.heap.size w W1 := by rw [hW]; go_grown
  clear hW
  refine (c1 _).mono ?_
  rintro e w2 ⟨rfl, hb⟩
  replace Ba := Ba.ext hb rfl
  replace Bb := Bb.ext hb rfl
  replace Br := Br.ext hb rfl
  replace hw := hw.trans (hb.mono hw.size)
  clear hb
  obtain ⟨xa, ya, za, va⟩ := Ba.facts
  obtain ⟨xb, yb, zb, vb⟩ := Bb.facts
  obtain ⟨xr, yr, zr, vr⟩ := Br.facts
  go_wp2_with fail
  refine (c2 _).mono ?_
  rintro e w3 ⟨rfl, hb⟩
  clear xa ya za va xb yb zb vb xr yr zr vr
  replace Ba := Ba.ext hb rfl
  replace Bb := Bb.ext hb rfl
  replace Br := Br.ext hb rfl
  replace hw := hw.trans (hb.mono hw.size)
  clear hb
  obtain ⟨xa, ya, za, va⟩ := Ba.facts
  obtain ⟨xb, yb, zb, vb⟩ := Bb.facts
  obtain ⟨xr, yr, zr, vr⟩ := Br.facts
  go_wp2_with fail
  refine bodyPost_ret (v := .tuple #[.agg #[.int .i64 0, .int .i64 0, .int .i64 0, .int .i64 0, .int .i64 0], .bool false]) (by simp [results, Try.results16, go_sem, xr]) rfl ⟨rfl, by have hl := hw.size; go_grown⟩

theorem make_o2 (a b : Pt) (k : Int) (e1 : (k == 1) = false) (e2 : (k == 2) = true) (e : peqI a.x a.y b.x b.y = false) (ha : vld a = true) (hb : vld b = true) (w : World) :
    Calls Try.prog 16 #[.agg #[.int .i64 a.x, .int .i64 a.y], .agg #[.int .i64 b.x, .int .i64 b.y], .int .i64 k] w fun e w' => e = .returned (.tuple #[.agg #[.int .i64 (lo2 a b).x, .int .i64 (lo2 a b).y, .int .i64 (hi2 a b).x, .int .i64 (hi2 a b).y, .int .i64 k], .bool true]) ∧ Below w.heap.size w w' := by
  have c1 := valid_any a
  rw [ha] at c1
  have c2 := valid_any b
  rw [hb] at c2
  have c3 := lsf_any a b
  clear ha hb
  generalize lo2 a b = p at *
  generalize hi2 a b = q at *
  go_enter Try.func16, Try.ntmps16
  go_wp2_with fail
  refine at_call fun W1 hW => ?_
  have Ba : Box W1 (w.heap.size) [.int .i64 a.x, .int .i64 a.y] 33 := by rw [hW]; exact ((Box.new rfl).old _).old _
  have Bb : Box W1 (w.heap.size + 1) [.int .i64 b.x, .int .i64 b.y] 33 := by rw [hW]; exact (Box.new (by simp)).old _
  have Br : Box W1 (w.heap.size + 1 + 1) [.int .i64 0, .int .i64 0, .int .i64 0, .int .i64 0, .int .i64 0] 35 := by rw [hW]; exact Box.new (by simp)
  have hw : Below w.heap.size w W1 := by rw [hW]; go_grown
  clear hW
  refine (c1 _).mono ?_
  rintro e w2 ⟨rfl, hb⟩
  replace Ba := Ba.ext hb rfl
  replace Bb := Bb.ext hb rfl
  replace Br := Br.ext hb rfl
  replace hw := hw.trans (hb.mono hw.size)
  clear hb
  obtain ⟨xa, ya, za, va⟩ := Ba.facts
  obtain ⟨xb, yb, zb, vb⟩ := Bb.facts
  obtain ⟨xr, yr, zr, vr⟩ := Br.facts
  go_wp2_with fail
  refine (c2 _).mono ?_
  rintro e w3 ⟨rfl, hb⟩
  clear xa ya za va xb yb zb vb xr yr zr vr
  replace Ba := Ba.ext hb rfl
  replace Bb := Bb.ext hb rfl
  replace Br := Br.ext hb rfl
  replace hw := hw.trans (hb.mono hw.size)
  clear hb
  obtain ⟨xa, ya, za, va⟩ := Ba.facts
  obtain ⟨xb, yb, zb, vb⟩ := Bb.facts
  obtain ⟨xr, yr, zr, vr⟩ := Br.facts
  go_wp2_with fail
  refine (c3 _).mono ?_
  rintro e w4 ⟨rfl, hb⟩
  clear xa ya za va xb yb zb vb xr yr zr vr
  replace Ba := Ba.ext hb rfl
  replace Bb := Bb.ext hb rfl
  replace Br := Br.ext hb rfl
  replace hw := hw.trans (hb.mono hw.size)
  clear hb
  obtain ⟨xa, ya, za, va⟩ := Ba.facts
  obtain ⟨xb, yb, zb, vb⟩ := Bb.facts
  obtain ⟨xr, yr, zr, vr⟩ := Br.facts
  go_wp2_with fail
  refine bodyPost_ret (v := .tuple #[.agg #[.int .i64 p.x, .int .i64 p.y, .int .i64 q.x, .int .i64 q.y, .int .i64 k], .bool true]) (by simp [results, Try.results16, go_sem, xr]) rfl ⟨rfl, by have hl := hw.size; go_grown⟩

theorem make_any (a b : Pt) (k : Int) (w : World) :
    Calls Try.prog 16 #[.agg #[.int .i64 a.x, .int .i64 a.y], .agg #[.int .i64 b.x, .int .i64 b.y], .int .i64 k] w fun e w' => e = .returned (.tuple #[.agg #[.int .i64 (mkW a b k).A.x, .int .i64 (mkW a b k).A.y, .int .i64 (mkW a b k).B.x, .int .i64 (mkW a b k).B.y, .int .i64 (mkW a b k).K], .bool (mkOk a b k)]) ∧ Below w.heap.size w w' := by
  have hz : ∀ e, mkOk a b k = e → e = false → mkW a b k = ⟨⟨0, 0⟩, ⟨0, 0⟩, 0⟩ := fun e h1 h2 => by unfold mkW; rw [h1, h2]; rfl
  cases e1 : (k == 1) with
  | true =>
    have hk : mkK k = true := by simp at e1; simp [mkK, e1]
    cases e : peqI a.x a.y b.x b.y with
    | true =>
      have h : mkOk a b k = false := by rw [peqI_dec] at e; unfold mkOk; rw [e]; simp
      rw [hz _ h rfl, h]; exact make_e1 a b k e1 e w
    | false =>
      have h0 : mkOk a b k = (vld a && vld b) := by rw [peqI_dec] at e; unfold mkOk; rw [e, hk]; simp
      cases ha : vld a with
      | false => have h : mkOk a b k = false := by rw [h0, ha]; rfl
                 rw [hz _ h rfl, h]; exact make_a1 a b k e1 e ha w
      | true =>
        cases hb : vld b with
        | false => have h : mkOk a b k = false := by rw [h0, ha, hb]; rfl
                   rw [hz _ h rfl, h]; exact make_b1 a b k e1 e ha hb w
        | true => have h : mkOk a b k = true := by rw [h0, ha, hb]; rfl
                  rw [show mkW a b k = ⟨lo2 a b, hi2 a b, k⟩ by unfold mkW; rw [h]; rfl, h]; exact make_o1 a b k e1 e ha hb w
  | false =>
    cases e2 : (k == 2) with
    | false =>
      have h : mkOk a b k = false := by simp at e1 e2; unfold mkOk mkK; simp [e1, e2]
      rw [hz _ h rfl, h]; exact make_u a b k e1 e2 w
    | true =>
      have hk : mkK k = true := by simp at e2; simp [mkK, e2]
      cases e : peqI a.x a.y b.x b.y with
      | true =>
        have h : mkOk a b k = false := by rw [peqI_dec] at e; unfold mkOk; rw [e]; simp
        rw [hz _ h rfl, h]; exact make_e2 a b k e1 e2 e w
      | false =>
        have h0 : mkOk a b k = (vld a && vld b) := by rw [peqI_dec] at e; unfold mkOk; rw [e, hk]; simp
        cases ha : vld a with
        | false => have h : mkOk a b k = false := by rw [h0, ha]; rfl
                   rw [hz _ h rfl, h]; exact make_a2 a b k e1 e2 e ha w
        | true =>
          cases hb : vld b with
          | false => have h : mkOk a b k = false := by rw [h0, ha, hb]; rfl
                     rw [hz _ h rfl, h]; exact make_b2 a b k e1 e2 e ha hb w
          | true => have h : mkOk a b k = true := by rw [h0, ha, hb]; rfl
                    rw [show mkW a b k = ⟨lo2 a b, hi2 a b, k⟩ by unfold mkW; rw [h]; rfl, h]; exact make_o2 a b k e1 e2 e ha hb w
theorem unm_0 (W : Wl) (h : mkOk W.A W.B W.K = false) (w : World) :
    Calls Try.prog 33 #[.agg #[.int .i64 W.A.x, .int .i64 W.A.y, .int .i64 W.B.x, .int .i64 W.B.y, .int .i64 W.K]] w fun e w' => e = .returned (.bool (unm W)) ∧ Below w.heap.size w w' := by
  have c1 := make_any W.A W.B W.K
  have HE : Hid (unm W = true) := Lib.hid (by unfold unm; rw [h]; rfl)
  rw [h] at c1
  clear h
  generalize mkW W.A W.B W.K = m at *
  go_enter Try.func33, Try.ntmps33
  go_wp2_with fail
  refine at_call fun W1 hW => ?_
  have Bw : Box W1 (w.heap.size) [.int .i64 W.A.x, .int .i64 W.A.y, .int .i64 W.B.x, .int .i64 W.B.y, .int .i64 W.K] 35 := by rw [hW]; exact Box.new rfl
  have hw : Below w.heap.size w W1 := by rw [hW]; go_grown
  clear hW
  refine (c1 _).mono ?_
  rintro e w2 ⟨rfl, hb⟩
  replace Bw := Bw.ext hb rfl
  replace hw := hw.trans (hb.mono hw.size)
  clear hb
  obtain ⟨xw, yw, zw, vw⟩ := Bw.facts
  go_wp2
  go_ret
  exact ⟨ret_bool (by rw [HE.out]), by have hl := hw.size; go_grown⟩

theorem unm_1 (W : Wl) (h : mkOk W.A W.B W.K = true) (w : World) :
    Calls Try.prog 33 #[.agg #[.int .i64 W.A.x, .int .i64 W.A.y, .int .i64 W.B.x, .int .i64 W.B.y, .int .i64 W.K]] w fun e w' => e = .returned (.bool (unm W)) ∧ Below w.heap.size w w' := by
  have c1 := make_any W.A W.B W.K
  have HE : Hid (unm W = !weqI (mkW W.A W.B W.K).A.x (mkW W.A W.B W.K).A.y (mkW W.A W.B W.K).B.x (mkW W.A W.B W.K).B.y (mkW W.A W.B W.K).K W.A.x W.A.y W.B.x W.B.y W.K) := Lib.hid (by unfold unm; rw [h]; rw [weqI_dec]; rfl)
  rw [h] at c1
  clear h
  generalize mkW W.A W.B W.K = m at *
  go_enter Try.func33, Try.ntmps33
  go_wp2_with fail
  refine at_call fun W1 hW => ?_
  have Bw : Box W1 (w.heap.size) [.int .i64 W.A.x, .int .i64 W.A.y, .int .i64 W.B.x, .int .i64 W.B.y, .int .i64 W.K] 35 := by rw [hW]; exact Box.new rfl
  have hw : Below w.heap.size w W1 := by rw [hW]; go_grown
  clear hW
  refine (c1 _).mono ?_
  rintro e w2 ⟨rfl, hb⟩
  replace Bw := Bw.ext hb rfl
  replace hw := hw.trans (hb.mono hw.size)
  clear hb
  obtain ⟨xw, yw, zw, vw⟩ := Bw.facts
  go_wp2
  go_ret
  exact ⟨ret_bool (by rw [HE.out]), by have hl := hw.size; go_grown⟩

theorem unm_any (W : Wl) (w : World) :
    Calls Try.prog 33 #[.agg #[.int .i64 W.A.x, .int .i64 W.A.y, .int .i64 W.B.x, .int .i64 W.B.y, .int .i64 W.K]] w fun e w' => e = .returned (.bool (unm W)) ∧ Below w.heap.size w w' := by
  cases h : mkOk W.A W.B W.K with
  | false => exact unm_0 W h w
  | true => exact unm_1 W h w
def mnI (x y : Int) : Int := if y < x then y else x
def mxI (x y : Int) : Int := if y > x then y else x
theorem run_mnI {P : Program} (w : World) (ts : Array TypeId) (t : TypeId) (k k' : IntKind) (x y : Int) : (Builtin.min_ ts t #[.int k x, .int k' y]).run P w = .ok (.int k (mnI x y)) w := run_min_int2 w ts t k k' x y
theorem run_mxI {P : Program} (w : World) (ts : Array TypeId) (t : TypeId) (k k' : IntKind) (x y : Int) : (Builtin.max_ ts t #[.int k x, .int k' y]).run P w = .ok (.int k (mxI x y)) w := run_max_int2 w ts t k k' x y
attribute [local go_sem ↓ 10000] run_mnI run_mxI
def bsd (W : Wl) (a b : Pt) : Bool := decide (W.B.x < a.x) || (decide (b.x < W.A.x) || (decide (mxI W.A.y W.B.y < mnI a.y b.y) || decide (mxI a.y b.y < mnI W.A.y W.B.y)))
set_option maxHeartbeats 2000000 in
theorem bsd_0 (W : Wl) (a b : Pt)  (h0 : decide (W.B.x < a.x) = true) (w : World) :
    Calls Try.prog 45 #[.agg #[.int .i64 W.A.x, .int .i64 W.A.y, .int .i64 W.B.x, .int .i64 W.B.y, .int .i64 W.K], .agg #[.int .i64 a.x, .int .i64 a.y], .agg #[.int .i64 b.x, .int .i64 b.y]] w fun e w' => e = .returned (.bool (bsd W a b)) ∧ Below w.heap.size w w' := by
  have HE : Hid (bsd W a b = true) := Lib.hid (by unfold bsd; rw [h0]; rfl)
  go_enter Try.func45, Try.ntmps45
  go_wp2
  go_ret
  exact ⟨ret_bool (by rw [HE.out]), by go_grown⟩

set_option maxHeartbeats 2000000 in
theorem bsd_1 (W : Wl) (a b : Pt) (h0 : decide (W.B.x < a.x) = false) (h1 : decide (b.x < W.A.x) = true) (w : World) :
    Calls Try.prog 45 #[.agg #[.int .i64 W.A.x, .int .i64 W.A.y, .int .i64 W.B.x, .int .i64 W.B.y, .int .i64 W.K], .agg #[.int .i64 a.x, .int .i64 a.y], .agg #[.int .i64 b.x, .int .i64 b.y]] w fun e w' => e = .returned (.bool (bsd W a b)) ∧ Below w.heap.size w w' := by
  have HE : Hid (bsd W a b = true) := Lib.hid (by unfold bsd; rw [h0, h1]; rfl)
  go_enter Try.func45, Try.ntmps45
  go_wp2
  go_ret
  exact ⟨ret_bool (by rw [HE.out]), by go_grown⟩

set_option maxHeartbeats 2000000 in
theorem bsd_2 (W : Wl) (a b : Pt) (h0 : decide (W.B.x < a.x) = false) (h1 : decide (b.x < W.A.x) = false) (h2 : decide (mxI W.A.y W.B.y < mnI a.y b.y) = true) (w : World) :
    Calls Try.prog 45 #[.agg #[.int .i64 W.A.x, .int .i64 W.A.y, .int .i64 W.B.x, .int .i64 W.B.y, .int .i64 W.K], .agg #[.int .i64 a.x, .int .i64 a.y], .agg #[.int .i64 b.x, .int .i64 b.y]] w fun e w' => e = .returned (.bool (bsd W a b)) ∧ Below w.heap.size w w' := by
  have HE : Hid (bsd W a b = true) := Lib.hid (by unfold bsd; rw [h0, h1, h2]; rfl)
  go_enter Try.func45, Try.ntmps45
  go_wp2
  go_ret
  exact ⟨ret_bool (by rw [HE.out]), by go_grown⟩

set_option maxHeartbeats 2000000 in
theorem bsd_3 (W : Wl) (a b : Pt) (h0 : decide (W.B.x < a.x) = false) (h1 : decide (b.x < W.A.x) = false) (h2 : decide (mxI W.A.y W.B.y < mnI a.y b.y) = false) (w : World) :
    Calls Try.prog 45 #[.agg #[.int .i64 W.A.x, .int .i64 W.A.y, .int .i64 W.B.x, .int .i64 W.B.y, .int .i64 W.K], .agg #[.int .i64 a.x, .int .i64 a.y], .agg #[.int .i64 b.x, .int .i64 b.y]] w fun e w' => e = .returned (.bool (bsd W a b)) ∧ Below w.heap.size w w' := by
  have HE : Hid (bsd W a b = decide (mxI a.y b.y < mnI W.A.y W.B.y)) := Lib.hid (by unfold bsd; rw [h0, h1, h2]; rfl)
  go_enter Try.func45, Try.ntmps45
  go_wp2
  go_ret
  exact ⟨ret_bool (by rw [HE.out]), by go_grown⟩

theorem bsd_any (W : Wl) (a b : Pt) (w : World) :
    Calls Try.prog 45 #[.agg #[.int .i64 W.A.x, .int .i64 W.A.y, .int .i64 W.B.x, .int .i64 W.B.y, .int .i64 W.K], .agg #[.int .i64 a.x, .int .i64 a.y], .agg #[.int .i64 b.x, .int .i64 b.y]] w fun e w' => e = .returned (.bool (bsd W a b)) ∧ Below w.heap.size w w' := by
  cases h0 : decide (W.B.x < a.x) with
  | true => exact bsd_0 W a b h0 w
  | false => cases h1 : decide (b.x < W.A.x) with
    | true => exact bsd_1 W a b h0 h1 w
    | false => cases h2 : decide (mxI W.A.y W.B.y < mnI a.y b.y) with
      | true => exact bsd_2 W a b h0 h1 h2 w
      | false => exact bsd_3 W a b h0 h1 h2 w
end Go.Proofs.Ytnocdecimcpkfaa

namespace Go.Proofs.Ytnocdecimcpkfaa
open Go.RowKit Go.Sort
attribute [local go_sem] Dr.rOper Dr.rAt Dr.rUpon cell_set sg_i64 sg_u64 alloc_cell alloc_frozen
attribute [local go_sem 10000] pt_eql pt_neq wal_eql wal_neq
attribute [local irreducible] Dr.rWalk

def cmpW (S T : Wl) : Int := if cmpP S.A T.A ≠ 0 then cmpP S.A T.A else if cmpP S.B T.B ≠ 0 then cmpP S.B T.B else cmpN S.K T.K
theorem dcmp_int (a b : Int) (w : World) : Calls Try.prog 57 #[.int .i64 a, .int .i64 b] w fun e w' => e = .returned (.int .i64 (cmpN a b)) ∧ Dr.Ext w w' :=
  (cmp_int a b w).mono fun _ _ ⟨h1, h2⟩ => ⟨h1, by rw [h2]; exact ⟨Below.refl _ _, Nat.le_refl _⟩⟩
set_option maxHeartbeats 1000000 in
theorem dcmpW_any (S T : Wl) (w : World) :
    Calls Try.prog 30 #[.agg #[.int .i64 S.A.x, .int .i64 S.A.y, .int .i64 S.B.x, .int .i64 S.B.y, .int .i64 S.K], .agg #[.int .i64 T.A.x, .int .i64 T.A.y, .int .i64 T.B.x, .int .i64 T.B.y, .int .i64 T.K]] w fun e w' => e = .returned (.int .i64 (cmpW S T)) ∧ Dr.Ext w w' := by
  have d1 := dcmp_pt S.A T.A
  have d2 := dcmp_pt S.B T.B
  have d3 := dcmp_int S.K T.K
  rw [show cmpW S T = or3 (cmpP S.A T.A) (cmpP S.B T.B) (cmpN S.K T.K) by rfl]
  generalize cmpP S.A T.A = m at *
  generalize cmpP S.B T.B = n at *
  generalize cmpN S.K T.K = o at *
  go_enter Try.func30, Try.ntmps30
  go_wp2_with fail
  refine at_world fun W1 hW => ?_
  have Bs : Box W1 (w.heap.size) [.int .i64 S.A.x, .int .i64 S.A.y, .int .i64 S.B.x, .int .i64 S.B.y, .int .i64 S.K] 35 := by rw [hW]; exact (Box.new rfl).old _
  have Bt : Box W1 (w.heap.size + 1) [.int .i64 T.A.x, .int .i64 T.A.y, .int .i64 T.B.x, .int .i64 T.B.y, .int .i64 T.K] 35 := by rw [hW]; exact Box.new (by simp)
  have hw : Below w.heap.size w W1 := by rw [hW]; go_grown
  have hdr : w.drawn ≤ W1.drawn := by rw [hW]; exact Nat.le_refl _
  clear hW
  have gs := Bs.cells
  have gt := Bt.cells
  refine Dr.wp_region_tail 15 (by kernel_rfl) (by kernel_rfl) (C := fun w' => ∃ p : Regrown, w' = grow (redrawn W1 p.d) p.os) (fun w' h => regrown_of_below h) ?_
  simp only [List.take_succ_cons, List.take_zero, List.drop_succ_cons, List.drop_zero]
  repeat (first | (refine Dr_skip (Eq.refl false) ?_; simp only [Act.put, List.setIfInBounds_toArray, List.set_cons_succ, List.set_cons_zero]) | (refine Dr.rWalk_step (fun K hK => ?_); go_simp; first | (refine hK _ ?_; clear hK K) | (apply Exists.intro; refine ⟨fun _ => ?_, hK _ ?_⟩; (first | with_reducible exact Dr.toExt d1 _ | with_reducible exact Dr.toExt d2 _ | with_reducible exact Dr.toExt d3 _); clear hK K)))
  refine Dr.rWalk_nil ?_
  intro w2 hb0
  have hb := hb0.1
  replace hdr := Nat.le_trans hdr hb0.2
  clear hb0
  clear gs gt
  replace Bs := Bs.ext hb rfl
  replace Bt := Bt.ext hb rfl
  replace hw := hw.trans (hb.mono hw.size)
  obtain ⟨xs, ys, zs, vs⟩ := Bs.facts
  obtain ⟨xt, yt, zt, vt⟩ := Bt.facts
  go_wp2_with fail
  refine at_call fun W3 hW => ?_
  obtain ⟨bkv, hbv⟩ : ∃ b, w2.heap.size = b := ⟨_, rfl⟩
  rw [hbv]
  have lsv := Bs.lt
  rw [hbv] at lsv
  have ltv := Bt.lt
  rw [hbv] at ltv
  have fv := hw.size
  rw [hbv] at fv
  have Bv : Box W3 bkv [.int .i64 m, .int .i64 n, .int .i64 o] 3 := by rw [hW]; exact Box.new hbv.symm
  replace Bs : Box W3 (w.heap.size) [.int .i64 S.A.x, .int .i64 S.A.y, .int .i64 S.B.x, .int .i64 S.B.y, .int .i64 S.K] 35 := by rw [hW]; exact Bs.old _
  replace Bt : Box W3 (w.heap.size + 1) [.int .i64 T.A.x, .int .i64 T.A.y, .int .i64 T.B.x, .int .i64 T.B.y, .int .i64 T.K] 35 := by rw [hW]; exact Bt.old _
  replace hw : Below w.heap.size w W3 := by have hl := hw.size; rw [hW]; go_grown
  replace hdr : w.drawn ≤ W3.drawn := by rw [hW]; exact hdr
  clear hW hbv
  refine (dor_any m n o _ bkv Bv).mono ?_
  rintro e w4 ⟨rfl, hb0⟩
  have hb := hb0.1
  replace hdr := Nat.le_trans hdr hb0.2
  clear hb0
  clear xs ys zs vs xt yt zt vt
  replace Bs := Bs.ext hb rfl
  replace Bt := Bt.ext hb rfl
  replace Bv := Bv.ext hb rfl
  replace hw := hw.trans (hb.mono hw.size)
  clear hb
  obtain ⟨xs, ys, zs, vs⟩ := Bs.facts
  obtain ⟨xt, yt, zt, vt⟩ := Bt.facts
  obtain ⟨xv, yv, zv, vv⟩ := Bv.facts
  go_wp2
  go_ret
  exact ⟨rfl, by have hl := hw.size; go_grown, hdr⟩

theorem cmpW_any (S T : Wl) (w : World) : Calls Try.prog 30 #[.agg #[.int .i64 S.A.x, .int .i64 S.A.y, .int .i64 S.B.x, .int .i64 S.B.y, .int .i64 S.K], .agg #[.int .i64 T.A.x, .int .i64 T.A.y, .int .i64 T.B.x, .int .i64 T.B.y, .int .i64 T.K]] w fun e w' => e = .returned (.int .i64 (cmpW S T)) ∧ Below w.heap.size w w' :=
  (dcmpW_any S T w).mono fun _ _ ⟨h1, h2⟩ => ⟨h1, h2.1⟩
theorem cmpN_neg (a b : Int) : cmpN b a = -cmpN a b := by unfold cmpN sgn; (repeat' split) <;> omega
theorem cmpN_eq0 {a b : Int} : cmpN a b = 0 ↔ a = b := by unfold cmpN sgn; (repeat' split) <;> omega
theorem cmpN_lt {a b : Int} : cmpN a b < 0 ↔ a < b := by unfold cmpN sgn; (repeat' split) <;> omega
theorem cmpW_neg (S T : Wl) : cmpW T S = -cmpW S T := by
  unfold cmpW; rw [cmpP_neg S.A T.A, cmpP_neg S.B T.B, cmpN_neg S.K T.K]; (repeat' split) <;> omega
theorem cmpW_eq0 {S T : Wl} : cmpW S T = 0 ↔ S = T := by
  rw [Wl.eq_iff, ← cmpP_eq0 (p := S.A), ← cmpP_eq0 (p := S.B), ← cmpN_eq0 (a := S.K)]
  unfold cmpW; (repeat' split) <;> omega
theorem cmpW_lt {S T : Wl} : cmpW S T < 0 ↔ cmpP S.A T.A < 0 ∨ (S.A = T.A ∧ (cmpP S.B T.B < 0 ∨ (S.B = T.B ∧ S.K < T.K))) := by
  rw [← cmpP_eq0 (p := S.A), ← cmpP_eq0 (p := S.B), ← cmpN_lt (a := S.K)]
  unfold cmpW; (repeat' split) <;> omega
theorem cmpW_trans {S T U : Wl} (h1 : cmpW S T < 0) (h2 : cmpW T U < 0) : cmpW S U < 0 := by
  rw [cmpW_lt] at *
  rcases h1 with h1 | ⟨e1, h1⟩
  · rcases h2 with h2 | ⟨e2, h2⟩
    · exact .inl (cmpP_trans h1 h2)
    · exact .inl (e2 ▸ h1)
  · rcases h2 with h2 | ⟨e2, h2⟩
    · exact .inl (by rw [e1]; exact h2)
    · refine .inr ⟨e1.trans e2, ?_⟩
      rcases h1 with h1 | ⟨e3, h1⟩
      · rcases h2 with h2 | ⟨e4, h2⟩
        · exact .inl (cmpP_trans h1 h2)
        · exact .inl (e4 ▸ h1)
      · rcases h2 with h2 | ⟨e4, h2⟩
        · exact .inl (by rw [e3]; exact h2)
        · exact .inr ⟨e3.trans e4, by omega⟩
theorem wholeW : Whole cmpW := ⟨cmpW_neg, cmpW_eq0, cmpW_trans⟩
theorem cmpW_bd (S T : Wl) : -1 ≤ cmpW S T ∧ cmpW S T ≤ 1 := by
  have h1 := cmpP_bd S.A T.A
  have h2 := cmpP_bd S.B T.B
  have h3 := cmpN_bd S.K T.K
  unfold cmpW; (repeat' split) <;> omega
end Go.Proofs.Ytnocdecimcpkfaa

namespace Go.Proofs.Ytnocdecimcpkfaa
open Go.Shelf Go.Proofs
def sortWl_ren : Go.Shelf.Ren := ⟨fun | 6 => 35 | 15 => 60 | 14 => 59 | 28 => 83 | 29 => 84 | 20 => 75 | 21 => 76 | 22 => 77 | 23 => 78 | 24 => 79 | 25 => 80 | 26 => 81 | 27 => 82 | 46 => 89 | 47 => 90 | 48 => 91 | 49 => 92 | 50 => 93 | 57 => 95 | n => n, fun | 22 => 22 | 24 => 35 | 25 => 53 | 3 => 3 | 39 => 82 | 0 => 0 | 53 => 99 | 55 => 101 | 4 => 4 | 46 => 93 | 45 => 92 | 50 => 65 | 5 => 5 | 9 => 9 | 66 => 102 | 70 => 106 | 76 => 109 | 77 => 110 | n => n, fun | n => n⟩
theorem sortWl : Go.Proofs.SlLaysF0.n6 Try.prog sortWl_ren := {
  mixed := by kernel_rfl
  f6 := ⟨Try.f35.name, by decide, Try.func35.trans (congrArg some (by kernel_rfl))⟩
  f14 := ⟨Try.f59.name, by decide, Try.func59.trans (congrArg some (by kernel_rfl))⟩
  f15 := Try.func60.trans (congrArg some (by kernel_rfl))
  f20 := ⟨Try.f75.name, by decide, Try.func75.trans (congrArg some (by kernel_rfl))⟩
  f21 := ⟨Try.f76.name, by decide, Try.func76.trans (congrArg some (by kernel_rfl))⟩
  f22 := ⟨Try.f77.name, by decide, Try.func77.trans (congrArg some (by kernel_rfl))⟩
  f23 := ⟨Try.f78.name, by decide, Try.func78.trans (congrArg some (by kernel_rfl))⟩
  f24 := ⟨Try.f79.name, by decide, Try.func79.trans (congrArg some (by kernel_rfl))⟩
  f25 := ⟨Try.f80.name, by decide, Try.func80.trans (congrArg some (by kernel_rfl))⟩
  f26 := ⟨Try.f81.name, by decide, Try.func81.trans (congrArg some (by kernel_rfl))⟩
  f27 := ⟨Try.f82.name, by decide, Try.func82.trans (congrArg some (by kernel_rfl))⟩
  f28 := Try.func83.trans (congrArg some (by kernel_rfl))
  f29 := Try.func84.trans (congrArg some (by kernel_rfl))
  f46 := ⟨Try.f89.name, by decide, Try.func89.trans (congrArg some (by kernel_rfl))⟩
  f47 := Try.func90.trans (congrArg some (by kernel_rfl))
  f48 := Try.func91.trans (congrArg some (by kernel_rfl))
  f49 := ⟨Try.f92.name, by decide, Try.func92.trans (congrArg some (by kernel_rfl))⟩
  f50 := ⟨Try.f93.name, by decide, Try.func93.trans (congrArg some (by kernel_rfl))⟩
  f57 := ⟨Try.f95.name, by decide, Try.func95.trans (congrArg some (by kernel_rfl))⟩
  t0 := Try.underlying0
  a0 := Try.isAgg0
  z0 := Try.sizeOf0
  v0 := Try.zeroValue0
  t3 := Try.underlying3
  a3 := Try.isAgg3
  z3 := Try.sizeOf3
  v3 := Try.zeroValue3
  t4 := Try.underlying4
  a4 := Try.isAgg4
  z4 := Try.sizeOf4
  v4 := Try.zeroValue4
  t5 := Try.underlying5
  a5 := Try.isAgg5
  z5 := Try.sizeOf5
  v5 := Try.zeroValue5
  t9 := Try.underlying9
  a9 := Try.isAgg9
  z9 := Try.sizeOf9
  v9 := Try.zeroValue9
  t22 := Try.underlying22
  a22 := Try.isAgg22
  z22 := Try.sizeOf22
  v22 := Try.zeroValue22
  t25 := Try.underlying53
  a25 := Try.isAgg53
  z25 := Try.sizeOf53
  v25 := Try.zeroValue53
  t39 := Try.underlying82
  a39 := Try.isAgg82
  z39 := Try.sizeOf82
  v39 := Try.zeroValue82
  t45 := Try.underlying92
  a45 := Try.isAgg92
  z45 := Try.sizeOf92
  v45 := Try.zeroValue92
  t46 := Try.underlying93
  a46 := Try.isAgg93
  z46 := Try.sizeOf93
  v46 := Try.zeroValue93
  t50 := Try.underlying65
  a50 := Try.isAgg65
  z50 := Try.sizeOf65
  v50 := Try.zeroValue65
  t53 := Try.underlying99
  a53 := Try.isAgg99
  z53 := Try.sizeOf99
  v53 := Try.zeroValue99
  t55 := Try.underlying101
  a55 := Try.isAgg101
  z55 := Try.sizeOf101
  v55 := Try.zeroValue101
  t66 := Try.underlying102
  a66 := Try.isAgg102
  z66 := Try.sizeOf102
  v66 := Try.zeroValue102
  t70 := Try.underlying106
  a70 := Try.isAgg106
  z70 := Try.sizeOf106
  v70 := Try.zeroValue106
  t76 := Try.underlying109
  a76 := Try.isAgg109
  z76 := Try.sizeOf109
  v76 := Try.zeroValue109
  t77 := Try.underlying110
  a77 := Try.isAgg110
  z77 := Try.sizeOf110
  v77 := Try.zeroValue110 }
def idxWl_ren : Go.Shelf.Ren := ⟨fun | 6 => 58 | n => n, fun | 22 => 22 | 23 => 35 | 25 => 60 | 3 => 3 | 0 => 0 | 4 => 4 | n => n, fun | n => n⟩
theorem idxWl : Go.Proofs.SlLaysH0.n6 Try.prog idxWl_ren := {
  mixed := by kernel_rfl
  f6 := ⟨Try.f58.name, by decide, Try.func58.trans (congrArg some (by kernel_rfl))⟩
  t0 := Try.underlying0
  a0 := Try.isAgg0
  z0 := Try.sizeOf0
  v0 := Try.zeroValue0
  t3 := Try.underlying3
  a3 := Try.isAgg3
  z3 := Try.sizeOf3
  v3 := Try.zeroValue3
  t4 := Try.underlying4
  a4 := Try.isAgg4
  z4 := Try.sizeOf4
  v4 := Try.zeroValue4
  t22 := Try.underlying22
  a22 := Try.isAgg22
  z22 := Try.sizeOf22
  v22 := Try.zeroValue22
  t25 := Try.underlying60
  a25 := Try.isAgg60
  z25 := Try.sizeOf60
  v25 := Try.zeroValue60 }
def conWl_ren : Go.Shelf.Ren := ⟨fun | 8 => 32 | 6 => 58 | n => n, fun | 22 => 22 | 23 => 35 | 25 => 60 | 4 => 4 | 3 => 3 | 0 => 0 | n => n, fun | n => n⟩
theorem conWl : Go.Proofs.SlLaysH0.n8 Try.prog conWl_ren := {
  mixed := by kernel_rfl
  f6 := ⟨Try.f58.name, by decide, Try.func58.trans (congrArg some (by kernel_rfl))⟩
  f8 := ⟨Try.f32.name, by decide, Try.func32.trans (congrArg some (by kernel_rfl))⟩
  t0 := Try.underlying0
  a0 := Try.isAgg0
  z0 := Try.sizeOf0
  v0 := Try.zeroValue0
  t3 := Try.underlying3
  a3 := Try.isAgg3
  z3 := Try.sizeOf3
  v3 := Try.zeroValue3
  t4 := Try.underlying4
  a4 := Try.isAgg4
  z4 := Try.sizeOf4
  v4 := Try.zeroValue4
  t22 := Try.underlying22
  a22 := Try.isAgg22
  z22 := Try.sizeOf22
  v22 := Try.zeroValue22
  t25 := Try.underlying60
  a25 := Try.isAgg60
  z25 := Try.sizeOf60
  v25 := Try.zeroValue60 }
def cloneWl_ren : Go.Shelf.Ren := ⟨fun | 41 => 34 | n => n, fun | 22 => 22 | 23 => 35 | 4 => 4 | n => n, fun | n => n⟩
theorem cloneWl : Go.Proofs.SlLaysE0.n41 Try.prog cloneWl_ren := {
  mixed := by kernel_rfl
  f41 := ⟨Try.f34.name, by decide, Try.func34.trans (congrArg some (by kernel_rfl))⟩
  t4 := Try.underlying4
  a4 := Try.isAgg4
  z4 := Try.sizeOf4
  v4 := Try.zeroValue4
  t22 := Try.underlying22
  a22 := Try.isAgg22
  z22 := Try.sizeOf22
  v22 := Try.zeroValue22 }
end Go.Proofs.Ytnocdecimcpkfaa

namespace Go.Proofs.Ytnocdecimcpkfaa
open Go.RowKit Go.Sort Go.Lib Go.Shelf

/-- A row of the call's own. -/
def WRow (w : World) (B : Nat) (v : Value) (L : List Wl) : Prop := w.ownsRow B 35 5 v L.length (L.flatMap cW)
/-- A slice's address lies in no other variable's midst. -/
def Flat (a : Option Addr) : Prop := ∀ ad, a = some ad → ad.spot = none
theorem WRow.row {w : World} {B : Nat} {v : Value} {L : List Wl} (h : WRow w B v L) : ∃ a cap, v = .slice a L.length cap ∧ RowAt cW 5 w a L ∧ Flat a := by
  obtain ⟨a, cap, h1, h2⟩ := rowAt_of_owns cW_len h
  refine ⟨a, cap, h1, h2, fun ad ha => ?_⟩
  rcases h.2 with ⟨h0, _⟩ | ⟨g, cap', cur, h0, _⟩
  · rw [h1] at h0; simp at h0; rw [h0.1] at ha; cases ha
  · rw [h1] at h0; simp at h0; rw [h0.1] at ha; cases ha; rfl
theorem WRow.nil0 (w : World) (B : Nat) : WRow w B (.slice none 0 0) [] := World.ownsRow_nil _ _ _ _
theorem WRow.kept {w w' : World} {B : Nat} {v : Value} {L : List Wl} {row : Option Nat} (h : WRow w B v L) (hg : w.grownBy w' row) (hne : v.ownBlock = none ∨ v.ownBlock ≠ row) : WRow w' B v L := World.ownsRow.kept h hg hne
theorem WRow.lt {w : World} {B : Nat} {v : Value} {L : List Wl} (h : WRow w B v L) : ∀ k, v.ownBlock = some k → B ≤ k ∧ k < w.heap.size := World.ownsRow.lt h
theorem WRow.base {w : World} {B B' : Nat} {v : Value} {L : List Wl} (h : WRow w B v L) (hb : B' ≤ B) : WRow w B' v L := by
  refine ⟨h.1, ?_⟩
  rcases h.2 with h | ⟨g, cap, cur, h0, h1, h2⟩
  · exact .inl h
  · exact .inr ⟨g, cap, cur, h0, Nat.le_trans hb h1, h2⟩
theorem WRow.ext {w w' : World} {B n : Nat} {v : Value} {L : List Wl} (h : WRow w B v L) (hb : Below n w w') (hn : n = w.heap.size) : WRow w' B v L := by
  refine ⟨h.1, ?_⟩
  rcases h.2 with h | ⟨g, cap, cur, h0, h1, h2, h3⟩
  · exact .inl h
  · refine .inr ⟨g, cap, cur, h0, h1, ?_, h3⟩
    have hl : g < w.heap.size := (Array.getElem?_eq_some_iff.1 h2).1
    rw [hb.block g (by omega)]; exact h2
/-- Its whole block. -/
theorem WRow.box {w : World} {B : Nat} {v : Value} {L : List Wl} (h : WRow w B v L) : (v = .slice none 0 0 ∧ L = []) ∨ ∃ g cap tl, v = .slice (some ⟨g, 0, none⟩) L.length cap ∧ B ≤ g ∧ Box w g (L.flatMap cW ++ tl) 35 ∧ L.length ≤ cap ∧ cap ≤ maxLen ∧ tl.length = (cap - L.length) * 5 := by
  rcases h.2 with ⟨h0, h1⟩ | ⟨g, cap, cur, h0, h1, h2, h3, h4, h5, h6⟩
  · exact .inl ⟨h0, List.eq_nil_of_length_eq_zero h1⟩
  · refine .inr ⟨g, cap, cur.toList.drop (L.length * 5), h0, h1, ?_, h3, h4, ?_⟩
    · rw [← h6, List.take_append_drop]; exact h2
    · rw [List.length_drop, Array.length_toList, h5]; omega
theorem WRow.of_box {w : World} {B g cap : Nat} {L : List Wl} {tl : List Value} (hB : B ≤ g) (h : Box w g (L.flatMap cW ++ tl) 35) (h1 : L.length ≤ cap) (h2 : cap ≤ maxLen) (h3 : tl.length = (cap - L.length) * 5) : WRow w B (.slice (some ⟨g, 0, none⟩) L.length cap) L := by
  have hl := flatMap_len cW_len L
  refine ⟨hl, .inr ⟨g, cap, (L.flatMap cW ++ tl).toArray, rfl, hB, h, h1, h2, ?_, ?_⟩⟩
  · simp only [List.size_toArray, List.length_append, hl, h3]; omega
  · simp only [← hl]; exact List.take_left
theorem flatK_list {α : Type} [Inhabited α] {c : α → List Value} {k : Nat} (hc : ∀ x, (c x).length = k) (L : List α) (hk : 0 < k) : (flatK c k L.toArray).toList = L.flatMap c := by
  apply List.ext_getElem?
  intro t
  by_cases ht : t < L.length * k
  · have hj : t / k < L.length := by rwa [Nat.div_lt_iff_lt_mul hk]
    have e := flatMap_get hc L (t / k) (t % k) L[t / k] (List.getElem?_eq_getElem hj) (Nat.mod_lt _ hk)
    rw [show t / k * k + t % k = t by rw [Nat.mul_comm]; exact Nat.div_add_mod t k] at e
    rw [e]
    have hs : t < (flatK c k L.toArray).toList.length := by simpa using ht
    rw [List.getElem?_eq_getElem hs]
    have g := get_flatK c k L.toArray t (by simpa using ht)
    rw [getElem!_pos _ t (by simpa using ht)] at g
    rw [Array.getElem_toList, g]
    have hm : t % k < (c L[t / k]).length := by rw [hc]; exact Nat.mod_lt _ hk
    rw [getElem!_pos L.toArray (t / k) (by simpa using hj), List.getElem_toArray, List.getElem!_eq_getElem?_getD, List.getElem?_eq_getElem hm]
    rfl
  · rw [List.getElem?_eq_none (by simpa using ht), List.getElem?_eq_none (by rw [flatMap_len hc]; omega)]
theorem block_sortK {α : Type} [Inhabited α] {c : α → List Value} {k : Nat} {w : World} {g n : Nat} {os : Array Obj} {d : Array α} {cur : Array Value} {T : TypeId} {fr : Nat × Nat} (hb : w.heap[g]? = some (.cells cur T fr)) :
    (sortWorldK c k w g 0 n d os).heap[g]? = some (.cells (putCells id 0 (flatK c k d) cur) T fr) := by
  have hl : g < w.heap.size := (Array.getElem?_eq_some_iff.1 hb).1
  unfold sortWorldK putRowK
  rw [heap_grow_old _ _ (by simpa [putRow, mapBlock, Sort.ahead] using hl)]
  simp [putRow, mapBlock, Sort.ahead, Array.getElem?_modify, hb, onCells]
theorem cmpLaysW (blk off size : Nat) (w : World) : CmpLays Try.prog 30 #[] cW 5 cmpW blk off size w := fun _ _ _ _ x y =>
  (dcmpW_any x y _).mono fun _ _ ⟨he, hx⟩ => ⟨he, hx.grown⟩
theorem enterW : ∀ args w, (callFunc 30 args).run Try.prog w = .ok (.enter 30 args) w := enters_of Try.func30 (by kernel_rfl) rfl
/-- slices.SortFunc at walls by Cmp. -/
theorem sortW_any (B : Nat) (v : Value) (L : List Wl) (hL : L.length ≤ 3000000) (w : World) (h : WRow w B v L) :
    Calls Try.prog 35 #[v, .func (.func 30) #[] #[]] w fun e w' => e = .returned (.tuple #[]) ∧ w.grownBy w' v.ownBlock ∧ WRow w' B v (srt cmpW L) := by
  have h2 := h.2
  have hlen : (srt cmpW L).length = L.length := (srt_perm (c := cmpW) L).length_eq
  rcases h2 with ⟨rfl, h0⟩ | ⟨g, cap, cur, rfl, hB, hb, h1, h2, h3, h4⟩
  · have : L = [] := List.eq_nil_of_length_eq_zero h0
    subst this
    have hc := AnyF.slices_SortFunc_none { sortWl with } none 0 (.func (.func 30) #[] #[]) w
    change Calls Try.prog 35 _ _ _ at hc
    exact hc.mono fun e w' ⟨he, hw⟩ => ⟨he, hw ▸ ⟨rfl, rfl, rfl, Nat.le_refl _, fun _ _ _ => rfl⟩, by rw [hw, show srt cmpW ([] : List Wl) = [] by simp [srt]]; exact WRow.nil0 _ _⟩
  · obtain ⟨hH, hg⟩ := holdsK_of_owns cW_len h
    have hc := AnyQ.slices_SortFunc_total sortWl 5 Try.isAgg35 Try.sizeOf35 cW cW_len cW_one cmpW wholeW.swo 30 #[] g 0 cap L.toArray w enterW (cmpLaysW g 0 _ w) hH hg (by simp; omega) wholeW.one
    change Calls Try.prog 35 _ _ _ at hc
    rw [show L.toArray.size = L.length by simp] at hc
    refine hc.mono fun e w' ⟨he, n, os, hw⟩ => ⟨he, ?_, ?_⟩
    · rw [hw]; exact grownBy_sortK _
    · replace hw : w' = sortWorldK cW 5 w g 0 n (srt cmpW L).toArray os := hw
      rw [hw]
      refine ⟨flatMap_len cW_len _, .inr ⟨g, cap, _, by rw [hlen], hB, block_sortK hb, by rw [hlen]; exact h1, h2, by simp [putCells, h3], ?_⟩⟩
      rw [← flatK_list cW_len (srt cmpW L) (by omega)]
      have hF : (flatK cW 5 (srt cmpW L).toArray).size = L.length * 5 := by simp [hlen]
      have hcs : L.length * 5 ≤ cur.size := by rw [h3]; omega
      rw [hlen]
      apply List.ext_getElem
      · simp [putCells, hlen]; omega
      · intro t h5 h6
        have h7 : t < L.length * 5 := by simpa [hlen] using h6
        have h8 : t < (flatK cW 5 (srt cmpW L).toArray).size := by rw [hF]; exact h7
        have h9 : t < cur.size := by omega
        simp only [List.getElem_take, Array.getElem_toList, putCells, Array.getElem_mapIdx, Nat.zero_add, Nat.sub_zero, Nat.zero_le, true_and, id]
        rw [if_pos h8, getElem!_pos _ t h8]
theorem info_wall : (Try.prog.info? 35).map (fun i => (i.zero, i.size, i.bytes)) = some (some (.agg #[.int .i64 0, .int .i64 0, .int .i64 0, .int .i64 0, .int .i64 0]), 5, 40) := by kernel_rfl
theorem RowAt.flat {w : World} {b off : Nat} {L : List Wl} (h : RowAt cW 5 w (some ⟨b, off, none⟩) L) : ∀ t u, (L.flatMap cW)[t]? = some u → b < w.heap.size ∧ w.cell? ⟨b, off + t, none⟩ = some u := fun t u hu => by
  have ht : t < L.length * 5 := by have := (List.getElem?_eq_some_iff.1 hu).1; rwa [flatMap_len cW_len] at this
  have hj : t / 5 < L.length := by omega
  have e := flatMap_get cW_len L (t / 5) (t % 5) L[t / 5] (List.getElem?_eq_getElem hj) (by omega)
  rw [show t / 5 * 5 + t % 5 = t by omega, hu] at e
  obtain ⟨ad, h1, h2, h3⟩ := h (t / 5) L[t / 5] (List.getElem?_eq_getElem hj)
  cases h1
  have h4 := h3 (t % 5) u e.symm
  simp only [Addr.add_lit] at h4
  rw [show off + t / 5 * 5 + t % 5 = off + t by omega] at h4
  exact ⟨h2, h4⟩
theorem flat_form {a : Option Addr} (hf : Flat a) : a = none ∨ ∃ b off, a = some ⟨b, off, none⟩ := by
  cases a with
  | none => exact .inl rfl
  | some ad => obtain ⟨b, off, sp⟩ := ad; have := hf _ rfl; simp at this; subst this; exact .inr ⟨b, off, rfl⟩
/-- slices.Clone at walls. -/
theorem cloneW_any (a : Option Addr) (c : Nat) (L : List Wl) (hL : L.length ≤ 1000000) (w : World) (h : RowAt cW 5 w a L) (hf : Flat a) (hz : a = none → L = []) :
    Calls Try.prog 34 #[.slice a L.length c] w fun e w' => ∃ v', e = .returned v' ∧ WRow w' w.heap.size v' L ∧ Below w.heap.size w w' := by
  rcases flat_form hf with rfl | ⟨b, off, rfl⟩
  · have := hz rfl; subst this
    exact (AnyE.slices_Clone_nil cloneWl 0 c w).mono fun e w' ⟨he, hw⟩ => ⟨_, he, by rw [hw]; exact WRow.nil0 _ _, by rw [hw]; exact Below.refl _ _⟩
  · obtain ⟨i0, hi, hz0, hz1, hz2⟩ := info_parts info_wall
    refine (AnyE.slices_Clone cloneWl i0 _ 5 40 hi hz0 hz1 hz2 rfl (by decide) Try.sizeOf35 b off L.length c (L.flatMap cW) w (flatMap_len cW_len L) (by unfold maxLen; omega) (by omega) (fun j u hu => (h.flat j u hu).2) ?_).mono ?_
    · intro u hu
      obtain ⟨x, _, hx⟩ := List.mem_flatMap.1 hu
      exact cW_one x u hx
    · rintro e w' ⟨v', he, ho, _, hb⟩
      exact ⟨v', he, ho, hb⟩
/-- slices.ContainsFunc at walls. -/
theorem conW_nil (a : Option Addr) (c : Nat) (f : Value) (w : World) :
    Calls Try.prog 58 #[.slice a 0 c, f] w fun e w' => e = .returned (.int .i64 (-1)) ∧ Below w.heap.size w w' := by
  go_enter Try.func58, Try.ntmps58
  go_wp2
  refine wp_loop_rounds 1 ?_
  try rw [rounds_succ]
  go_wp2
  go_ret
  exact ⟨rfl, by go_grown⟩
theorem conW_empty (a : Option Addr) (c : Nat) (f : Value) (w : World) :
    Calls Try.prog 32 #[.slice a 0 c, f] w fun e w' => e = .returned (.bool false) ∧ Below w.heap.size w w' := by
  have c1 := conW_nil a c f
  go_enter Try.func32, Try.ntmps32
  go_wp2_with fail
  refine (c1 _).mono ?_
  rintro e w1 ⟨rfl, hb⟩
  go_wp2
  go_ret
  exact ⟨rfl, hb⟩
theorem conW_any (p : Wl → Bool) (g : Nat) (lb : Array Value) (eg : ∀ args w, (callFunc g args).run Try.prog w = .ok (.enter g args) w) (a : Option Addr) (c : Nat) (L : List Wl) (hL : L.length ≤ 1000000) (w : World) (h : RowAt cW 5 w a L) (hf : Flat a)
    (hp : PredBelow Try.prog g lb (fun x => .agg (cW x).toArray) p w) :
    Calls Try.prog 32 #[.slice a L.length c, .func (.func g) #[] lb] w fun e w' => e = .returned (.bool (L.any p)) ∧ Below w.heap.size w w' := by
  by_cases hn : L = []
  · subst hn; exact conW_empty a c _ w
  · have h0 : 0 < L.length := List.length_pos_iff.2 hn
    rcases flat_form hf with rfl | ⟨b, off, rfl⟩
    · obtain ⟨ad, h1, _⟩ := h 0 L[0] (List.getElem?_eq_getElem h0); cases h1
    · have hb : b < w.heap.size := by obtain ⟨ad, h1, h2, _⟩ := h 0 L[0] (List.getElem?_eq_getElem h0); cases h1; exact h2
      have hc := AnyQ.slices_ContainsFunc conWl 5 Try.isAgg35 Try.sizeOf35 cW cW_len p g lb eg b off L.length c L w hp (Nat.le_refl _) (by omega) hb (fun j hj i v hv => by
        rw [getElem!_pos L j hj] at hv
        obtain ⟨ad, h1, _, h3⟩ := h j L[j] (List.getElem?_eq_getElem hj)
        cases h1
        have := h3 i v hv
        simpa only [Addr.add_lit] using this)
      change Calls Try.prog 32 _ _ _ at hc
      rwa [List.take_of_length_le (Nat.le_refl _)] at hc
end Go.Proofs.Ytnocdecimcpkfaa
