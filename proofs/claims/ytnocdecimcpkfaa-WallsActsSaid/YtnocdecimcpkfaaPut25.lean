/- Put together: DocB, DocA, DocC. -/
import Derived.Test.YtnocdecimcpkfaaRows
import Derived.Test.YtnocdecimcpkfaaPut19
import Derived.Test.YtnocdecimcpkfaaPut7
import Derived.Test.YtnocdecimcpkfaaPut1
import Derived.WalkKit
import Derived.WalkSpells
import Derived.WalkLawsBesides
import Derived.Laws.Externs
import Derived.Deep.QuietTactic
import Derived.BigQuiet
import Derived.Lib.Hide
import Derived.Handy
import Derived.LoopN
import Derived.RegionTactic
import Derived.OwnWalk
namespace Go.Proofs.Ytnocdecimcpkfaa
open Go.RowKit Go.Sort
attribute [local go_sem] rOper rAt rUpon cell_set sg_i64 sg_u64 alloc_cell alloc_frozen
attribute [local go_sem 10000] pt_eql pt_neq wal_eql wal_neq
attribute [local irreducible] rWalk

theorem mw_a (a b : Pt) (k : Int) (ha : vld a = false) (w : World) :
    Calls Try.prog 17 #[.agg #[.int .i64 a.x, .int .i64 a.y], .agg #[.int .i64 b.x, .int .i64 b.y], .int .i64 k] w fun e w' => e = .returned (.tuple #[.agg #[.int .i64 0, .int .i64 0, .int .i64 0, .int .i64 0, .int .i64 0], .bool false]) ∧ Below w.heap.size w w' := by
  have c1 := rvalid_any a
  rw [ha] at c1
  clear ha
  go_enter Try.func17, Try.ntmps17
  go_wp2_with fail
  refine at_call fun W1 hW => ?_
  have Ba : Box W1 (w.heap.size) [.int .i64 a.x, .int .i64 a.y] 33 := by rw [hW]; exact ((Box.new rfl).old _).old _
  have Bb : Box W1 (w.heap.size + 1) [.int .i64 b.x, .int .i64 b.y] 33 := by rw [hW]; exact (Box.new (by simp)).old _
  have Br : Box W1 (w.heap.size + 1 + 1) [.int .i64 0, .int .i64 0, .int .i64 0, .int .i64 0, .int .i64 0] 35 := by rw [hW]; exact Box.new (by simp)
  have hw : Below w.heap.size w W1 := by rw [hW]; go_grown
  clear hW
  refine (c1 _).mono ?_
  rintro e w2 ⟨rfl, hb⟩
  replace Ba := Ba.ext hb rfl
  replace Bb := Bb.ext hb rfl
  replace Br := Br.ext hb rfl
  replace hw := hw.trans (hb.mono hw.size)
  clear hb
  obtain ⟨xa, ya, za, va⟩ := Ba.facts
  obtain ⟨xb, yb, zb, vb⟩ := Bb.facts
  obtain ⟨xr, yr, zr, vr⟩ := Br.facts
  go_wp2_with fail
  refine bodyPost_ret (v := .tuple #[.agg #[.int .i64 0, .int .i64 0, .int .i64 0, .int .i64 0, .int .i64 0], .bool false]) (by simp [results, Try.results17, go_sem, xr]) rfl ⟨rfl, by have hl := hw.size; go_grown⟩

theorem mw_b (a b : Pt) (k : Int) (ha : vld a = true) (hb : vld b = false) (w : World) :
    Calls Try.prog 17 #[.agg #[.int .i64 a.x, .int .i64 a.y], .agg #[.int .i64 b.x, .int .i64 b.y], .int .i64 k] w fun e w' => e = .returned (.tuple #[.agg #[.int .i64 0, .int .i64 0, .int .i64 0, .int .i64 0, .int .i64 0], .bool false]) ∧ Below w.heap.size w w' := by
  have c1 := rvalid_any a
  rw [ha] at c1
  have c2 := rvalid_any b
  rw [hb] at c2
  clear ha hb
  go_enter Try.func17, Try.ntmps17
  go_wp2_with fail
  refine at_call fun W1 hW => ?_
  have Ba : Box W1 (w.heap.size) [.int .i64 a.x, .int .i64 a.y] 33 := by rw [hW]; exact ((Box.new rfl).old _).old _
  have Bb : Box W1 (w.heap.size + 1) [.int .i64 b.x, .int .i64 b.y] 33 := by rw [hW]; exact (Box.new (by simp)).old _
  have Br : Box W1 (w.heap.size + 1 + 1) [.int .i64 0, .int .i64 0, .int .i64 0, .int .i64 0, .int .i64 0] 35 := by rw [hW]; exact Box.new (by simp)
  have hw : Below w.heap.size w W1 := by rw [hW]; go_grown
  clear hW
  refine (c1 _).mono ?_
  rintro e w2 ⟨rfl, hb⟩
  replace Ba := Ba.ext hb rfl
  replace Bb := Bb.ext hb rfl
  replace Br := Br.ext hb rfl
  replace hw := hw.trans (hb.mono hw.size)
  clear hb
  obtain ⟨xa, ya, za, va⟩ := Ba.facts
  obtain ⟨xb, yb, zb, vb⟩ := Bb.facts
  obtain ⟨xr, yr, zr, vr⟩ := Br.facts
  go_wp2_with fail
  refine (c2 _).mono ?_
  rintro e w3 ⟨rfl, hb⟩
  clear xa ya za va xb yb zb vb xr yr zr vr
  replace Ba := Ba.ext hb rfl
  replace Bb := Bb.ext hb rfl
  replace Br := Br.ext hb rfl
  replace hw := hw.trans (hb.mono hw.size)
  clear hb
  obtain ⟨xa, ya, za, va⟩ := Ba.facts
  obtain ⟨xb, yb, zb, vb⟩ := Bb.facts
  obtain ⟨xr, yr, zr, vr⟩ := Br.facts
  go_wp2_with fail
  refine bodyPost_ret (v := .tuple #[.agg #[.int .i64 0, .int .i64 0, .int .i64 0, .int .i64 0, .int .i64 0], .bool false]) (by simp [results, Try.results17, go_sem, xr]) rfl ⟨rfl, by have hl := hw.size; go_grown⟩

theorem mw_e (a b : Pt) (k : Int) (ha : vld a = true) (hb : vld b = true) (e : peqI a.x a.y b.x b.y = true) (w : World) :
    Calls Try.prog 17 #[.agg #[.int .i64 a.x, .int .i64 a.y], .agg #[.int .i64 b.x, .int .i64 b.y], .int .i64 k] w fun e w' => e = .returned (.tuple #[.agg #[.int .i64 0, .int .i64 0, .int .i64 0, .int .i64 0, .int .i64 0], .bool false]) ∧ Below w.heap.size w w' := by
  have c1 := rvalid_any a
  rw [ha] at c1
  have c2 := rvalid_any b
  rw [hb] at c2
  clear ha hb
  go_enter Try.func17, Try.ntmps17
  go_wp2_with fail
  refine at_call fun W1 hW => ?_
  have Ba : Box W1 (w.heap.size) [.int .i64 a.x, .int .i64 a.y] 33 := by rw [hW]; exact ((Box.new rfl).old _).old _
  have Bb : Box W1 (w.heap.size + 1) [.int .i64 b.x, .int .i64 b.y] 33 := by rw [hW]; exact (Box.new (by simp)).old _
  have Br : Box W1 (w.heap.size + 1 + 1) [.int .i64 0, .int .i64 0, .int .i64 0, .int .i64 0, .int .i64 0] 35 := by rw [hW]; exact Box.new (by simp)
  have hw : Below w.heap.size w W1 := by rw [hW]; go_grown
  clear hW
  refine (c1 _).mono ?_
  rintro e w2 ⟨rfl, hb⟩
  replace Ba := Ba.ext hb rfl
  replace Bb := Bb.ext hb rfl
  replace Br := Br.ext hb rfl
  replace hw := hw.trans (hb.mono hw.size)
  clear hb
  obtain ⟨xa, ya, za, va⟩ := Ba.facts
  obtain ⟨xb, yb, zb, vb⟩ := Bb.facts
  obtain ⟨xr, yr, zr, vr⟩ := Br.facts
  go_wp2_with fail
  refine (c2 _).mono ?_
  rintro e w3 ⟨rfl, hb⟩
  clear xa ya za va xb yb zb vb xr yr zr vr
  replace Ba := Ba.ext hb rfl
  replace Bb := Bb.ext hb rfl
  replace Br := Br.ext hb rfl
  replace hw := hw.trans (hb.mono hw.size)
  clear hb
  obtain ⟨xa, ya, za, va⟩ := Ba.facts
  obtain ⟨xb, yb, zb, vb⟩ := Bb.facts
  obtain ⟨xr, yr, zr, vr⟩ := Br.facts
  go_wp2_with fail
  refine bodyPost_ret (v := .tuple #[.agg #[.int .i64 0, .int .i64 0, .int .i64 0, .int .i64 0, .int .i64 0], .bool false]) (by simp [results, Try.results17, go_sem, xr]) rfl ⟨rfl, by have hl := hw.size; go_grown⟩

theorem mw_k (a b : Pt) (k : Int) (ha : vld a = true) (hb : vld b = true) (e : peqI a.x a.y b.x b.y = false) (e1 : (k != 1) = true) (e2 : (k != 2) = true) (w : World) :
    Calls Try.prog 17 #[.agg #[.int .i64 a.x, .int .i64 a.y], .agg #[.int .i64 b.x, .int .i64 b.y], .int .i64 k] w fun e w' => e = .returned (.tuple #[.agg #[.int .i64 0, .int .i64 0, .int .i64 0, .int .i64 0, .int .i64 0], .bool false]) ∧ Below w.heap.size w w' := by
  have c1 := rvalid_any a
  rw [ha] at c1
  have c2 := rvalid_any b
  rw [hb] at c2
  clear ha hb
  go_enter Try.func17, Try.ntmps17
  go_wp2_with fail
  refine at_call fun W1 hW => ?_
  have Ba : Box W1 (w.heap.size) [.int .i64 a.x, .int .i64 a.y] 33 := by rw [hW]; exact ((Box.new rfl).old _).old _
  have Bb : Box W1 (w.heap.size + 1) [.int .i64 b.x, .int .i64 b.y] 33 := by rw [hW]; exact (Box.new (by simp)).old _
  have Br : Box W1 (w.heap.size + 1 + 1) [.int .i64 0, .int .i64 0, .int .i64 0, .int .i64 0, .int .i64 0] 35 := by rw [hW]; exact Box.new (by simp)
  have hw : Below w.heap.size w W1 := by rw [hW]; go_grown
  clear hW
  refine (c1 _).mono ?_
  rintro e w2 ⟨rfl, hb⟩
  replace Ba := Ba.ext hb rfl
  replace Bb := Bb.ext hb rfl
  replace Br := Br.ext hb rfl
  replace hw := hw.trans (hb.mono hw.size)
  clear hb
  obtain ⟨xa, ya, za, va⟩ := Ba.facts
  obtain ⟨xb, yb, zb, vb⟩ := Bb.facts
  obtain ⟨xr, yr, zr, vr⟩ := Br.facts
  go_wp2_with fail
  refine (c2 _).mono ?_
  rintro e w3 ⟨rfl, hb⟩
  clear xa ya za va xb yb zb vb xr yr zr vr
  replace Ba := Ba.ext hb rfl
  replace Bb := Bb.ext hb rfl
  replace Br := Br.ext hb rfl
  replace hw := hw.trans (hb.mono hw.size)
  clear hb
  obtain ⟨xa, ya, za, va⟩ := Ba.facts
  obtain ⟨xb, yb, zb, vb⟩ := Bb.facts
  obtain ⟨xr, yr, zr, vr⟩ := Br.facts
  go_wp2_with fail
  refine bodyPost_ret (v := .tuple #[.agg #[.int .i64 0, .int .i64 0, .int .i64 0, .int .i64 0, .int .i64 0], .bool false]) (by simp [results, Try.results17, go_sem, xr]) rfl ⟨rfl, by have hl := hw.size; go_grown⟩

theorem mw_o1 (a b : Pt) (k : Int) (ha : vld a = true) (hb : vld b = true) (e : peqI a.x a.y b.x b.y = false) (e1 : (k != 1) = false) (w : World) :
    Calls Try.prog 17 #[.agg #[.int .i64 a.x, .int .i64 a.y], .agg #[.int .i64 b.x, .int .i64 b.y], .int .i64 k] w fun e w' => e = .returned (.tuple #[.agg #[.int .i64 (rl a b).x, .int .i64 (rl a b).y, .int .i64 (rg a b).x, .int .i64 (rg a b).y, .int .i64 k], .bool true]) ∧ Below w.heap.size w w' := by
  have c1 := rvalid_any a
  rw [ha] at c1
  have c2 := rvalid_any b
  rw [hb] at c2
  have c3 := rl_any a b
  have c4 := rg_any a b
  clear ha hb
  generalize rl a b = p at *
  generalize rg a b = q at *
  go_enter Try.func17, Try.ntmps17
  go_wp2_with fail
  refine at_call fun W1 hW => ?_
  have Ba : Box W1 (w.heap.size) [.int .i64 a.x, .int .i64 a.y] 33 := by rw [hW]; exact ((Box.new rfl).old _).old _
  have Bb : Box W1 (w.heap.size + 1) [.int .i64 b.x, .int .i64 b.y] 33 := by rw [hW]; exact (Box.new (by simp)).old _
  have Br : Box W1 (w.heap.size + 1 + 1) [.int .i64 0, .int .i64 0, .int .i64 0, .int .i64 0, .int .i64 0] 35 := by rw [hW]; exact Box.new (by simp)
  have hw : Below w.heap.size w W1 := by rw [hW]; go_grown
  clear hW
  refine (c1 _).mono ?_
  rintro e w2 ⟨rfl, hb⟩
  replace Ba := Ba.ext hb rfl
  replace Bb := Bb.ext hb rfl
  replace Br := Br.ext hb rfl
  replace hw := hw.trans (hb.mono hw.size)
  clear hb
  obtain ⟨xa, ya, za, va⟩ := Ba.facts
  obtain ⟨xb, yb, zb, vb⟩ := Bb.facts
  obtain ⟨xr, yr, zr, vr⟩ := Br.facts
  go_wp2_with fail
  refine (c2 _).mono ?_
  rintro e w3 ⟨rfl, hb⟩
  clear xa ya za va xb yb zb vb xr yr zr vr
  replace Ba := Ba.ext hb rfl
  replace Bb := Bb.ext hb rfl
  replace Br := Br.ext hb rfl
  replace hw := hw.trans (hb.mono hw.size)
  clear hb
  obtain ⟨xa, ya, za, va⟩ := Ba.facts
  obtain ⟨xb, yb, zb, vb⟩ := Bb.facts
  obtain ⟨xr, yr, zr, vr⟩ := Br.facts
  go_wp2_with fail
  have ga := Ba.cells
  have gb := Bb.cells
  have gr := Br.cells
  refine wp_region_tail 8 (by kernel_rfl) (by kernel_rfl) (C := fun w' => ∃ p : Regrown, w' = grow (redrawn w3 p.d) p.os) (fun w' h => regrown_of_below h) ?_
  simp only [List.take_succ_cons, List.take_zero, List.drop_succ_cons, List.drop_zero]
  repeat (first | (refine rWalk_skip (Eq.refl false) ?_; simp only [Act.put, List.setIfInBounds_toArray, List.set_cons_succ, List.set_cons_zero]) | (refine rWalk_step (fun K hK => ?_); go_simp; first | (refine hK _ ?_; clear hK K) | (apply Exists.intro; refine ⟨fun _ => ?_, hK _ ?_⟩; (first | with_reducible exact toExt c3 _ | with_reducible exact toExt c4 _); clear hK K)))
  refine rWalk_nil ?_
  intro w4 hb
  clear ga gb gr
  clear xa ya za va xb yb zb vb xr yr zr vr
  replace Ba := Ba.ext hb rfl
  replace Bb := Bb.ext hb rfl
  replace Br := Br.ext hb rfl
  replace hw := hw.trans (hb.mono hw.size)
  obtain ⟨xa, ya, za, va⟩ := Ba.facts
  obtain ⟨xb, yb, zb, vb⟩ := Bb.facts
  obtain ⟨xr, yr, zr, vr⟩ := Br.facts
  go_wp2_with fail
  refine bodyPost_ret (v := .tuple #[.agg #[.int .i64 p.x, .int .i64 p.y, .int .i64 q.x, .int .i64 q.y, .int .i64 k], .bool true]) (by simp [results, Try.results17, go_sem, xr]) rfl ⟨rfl, by have hl := hw.size; go_grown⟩

theorem mw_o2 (a b : Pt) (k : Int) (ha : vld a = true) (hb : vld b = true) (e : peqI a.x a.y b.x b.y = false) (e1 : (k != 1) = true) (e2 : (k != 2) = false) (w : World) :
    Calls Try.prog 17 #[.agg #[.int .i64 a.x, .int .i64 a.y], .agg #[.int .i64 b.x, .int .i64 b.y], .int .i64 k] w fun e w' => e = .returned (.tuple #[.agg #[.int .i64 (rl a b).x, .int .i64 (rl a b).y, .int .i64 (rg a b).x, .int .i64 (rg a b).y, .int .i64 k], .bool true]) ∧ Below w.heap.size w w' := by
  have c1 := rvalid_any a
  rw [ha] at c1
  have c2 := rvalid_any b
  rw [hb] at c2
  have c3 := rl_any a b
  have c4 := rg_any a b
  clear ha hb
  generalize rl a b = p at *
  generalize rg a b = q at *
  go_enter Try.func17, Try.ntmps17
  go_wp2_with fail
  refine at_call fun W1 hW => ?_
  have Ba : Box W1 (w.heap.size) [.int .i64 a.x, .int .i64 a.y] 33 := by rw [hW]; exact ((Box.new rfl).old _).old _
  have Bb : Box W1 (w.heap.size + 1) [.int .i64 b.x, .int .i64 b.y] 33 := by rw [hW]; exact (Box.new (by simp)).old _
  have Br : Box W1 (w.heap.size + 1 + 1) [.int .i64 0, .int .i64 0, .int .i64 0, .int .i64 0, .int .i64 0] 35 := by rw [hW]; exact Box.new (by simp)
  have hw : Below w.heap.size w W1 := by rw [hW]; go_grown
  clear hW
  refine (c1 _).mono ?_
  rintro e w2 ⟨rfl, hb⟩
  replace Ba := Ba.ext hb rfl
  replace Bb := Bb.ext hb rfl
  replace Br := Br.ext hb rfl
  replace hw := hw.trans (hb.mono hw.size)
  clear hb
  obtain ⟨xa, ya, za, va⟩ := Ba.facts
  obtain ⟨xb, yb, zb, vb⟩ := Bb.facts
  obtain ⟨xr, yr, zr, vr⟩ := Br.facts
  go_wp2_with fail
  refine (c2 _).mono ?_
  rintro e w3 ⟨rfl, hb⟩
  clear xa ya za va xb yb zb vb xr yr zr vr
  replace Ba := Ba.ext hb rfl
  replace Bb := Bb.ext hb rfl
  replace Br := Br.ext hb rfl
  replace hw := hw.trans (hb.mono hw.size)
  clear hb
  obtain ⟨xa, ya, za, va⟩ := Ba.facts
  obtain ⟨xb, yb, zb, vb⟩ := Bb.facts
  obtain ⟨xr, yr, zr, vr⟩ := Br.facts
  go_wp2_with fail
  have ga := Ba.cells
  have gb := Bb.cells
  have gr := Br.cells
  refine wp_region_tail 8 (by kernel_rfl) (by kernel_rfl) (C := fun w' => ∃ p : Regrown, w' = grow (redrawn w3 p.d) p.os) (fun w' h => regrown_of_below h) ?_
  simp only [List.take_succ_cons, List.take_zero, List.drop_succ_cons, List.drop_zero]
  repeat (first | (refine rWalk_skip (Eq.refl false) ?_; simp only [Act.put, List.setIfInBounds_toArray, List.set_cons_succ, List.set_cons_zero]) | (refine rWalk_step (fun K hK => ?_); go_simp; first | (refine hK _ ?_; clear hK K) | (apply Exists.intro; refine ⟨fun _ => ?_, hK _ ?_⟩; (first | with_reducible exact toExt c3 _ | with_reducible exact toExt c4 _); clear hK K)))
  refine rWalk_nil ?_
  intro w4 hb
  clear ga gb gr
  clear xa ya za va xb yb zb vb xr yr zr vr
  replace Ba := Ba.ext hb rfl
  replace Bb := Bb.ext hb rfl
  replace Br := Br.ext hb rfl
  replace hw := hw.trans (hb.mono hw.size)
  obtain ⟨xa, ya, za, va⟩ := Ba.facts
  obtain ⟨xb, yb, zb, vb⟩ := Bb.facts
  obtain ⟨xr, yr, zr, vr⟩ := Br.facts
  go_wp2_with fail
  refine bodyPost_ret (v := .tuple #[.agg #[.int .i64 p.x, .int .i64 p.y, .int .i64 q.x, .int .i64 q.y, .int .i64 k], .bool true]) (by simp [results, Try.results17, go_sem, xr]) rfl ⟨rfl, by have hl := hw.size; go_grown⟩

theorem rl_lo {a b : Pt} (h : a ≠ b) : rl a b = lo2 a b ∧ rg a b = hi2 a b := by
  have h1 := cmpP_neg a b
  have h2 : ¬ cmpP a b = 0 := fun e => h (cmpP_eq0.1 e)
  unfold rl rg lo2 hi2
  constructor <;> (split <;> split <;> first | rfl | (exfalso; omega))
theorem rmw_any (a b : Pt) (k : Int) (w : World) :
    Calls Try.prog 17 #[.agg #[.int .i64 a.x, .int .i64 a.y], .agg #[.int .i64 b.x, .int .i64 b.y], .int .i64 k] w fun e w' => e = .returned (.tuple #[.agg #[.int .i64 (mkW a b k).A.x, .int .i64 (mkW a b k).A.y, .int .i64 (mkW a b k).B.x, .int .i64 (mkW a b k).B.y, .int .i64 (mkW a b k).K], .bool (mkOk a b k)]) ∧ Below w.heap.size w w' := by
  have hz : ∀ e, mkOk a b k = e → e = false → mkW a b k = ⟨⟨0, 0⟩, ⟨0, 0⟩, 0⟩ := fun e h1 h2 => by unfold mkW; rw [h1, h2]; rfl
  cases ha : vld a with
  | false =>
    have h : mkOk a b k = false := by unfold mkOk; rw [ha]; simp
    rw [hz _ h rfl, h]; exact mw_a a b k ha w
  | true =>
    cases hb : vld b with
    | false =>
      have h : mkOk a b k = false := by unfold mkOk; rw [hb]; simp
      rw [hz _ h rfl, h]; exact mw_b a b k ha hb w
    | true =>
      cases e : peqI a.x a.y b.x b.y with
      | true =>
        have h : mkOk a b k = false := by rw [peqI_dec] at e; unfold mkOk; rw [e]; simp
        rw [hz _ h rfl, h]; exact mw_e a b k ha hb e w
      | false =>
        have hab : a ≠ b := by rw [peqI_dec] at e; simpa using e
        have h0 : mkOk a b k = mkK k := by rw [peqI_dec] at e; unfold mkOk; rw [e, ha, hb]; simp
        have hy : mkOk a b k = true → mkW a b k = ⟨rl a b, rg a b, k⟩ := fun h => by unfold mkW; rw [h, (rl_lo hab).1, (rl_lo hab).2]; rfl
        cases e1 : (k != 1) with
        | false =>
          have h : mkOk a b k = true := by rw [h0]; simp at e1; simp [mkK, e1]
          rw [hy h, h]; exact mw_o1 a b k ha hb e e1 w
        | true =>
          cases e2 : (k != 2) with
          | false =>
            have h : mkOk a b k = true := by rw [h0]; simp at e2; simp [mkK, e2]
            rw [hy h, h]; exact mw_o2 a b k ha hb e e1 e2 w
          | true =>
            have h : mkOk a b k = false := by rw [h0]; simp at e1 e2; simp [mkK, e1, e2]
            rw [hz _ h rfl, h]; exact mw_k a b k ha hb e e1 e2 w
end Go.Proofs.Ytnocdecimcpkfaa

namespace Go.Proofs.Ytnocdecimcpkfaa
open Go.RowKit Go.Sort
attribute [local go_sem] rOper rAt rUpon cell_set sg_i64 sg_u64 alloc_cell alloc_frozen
attribute [local go_sem 10000] pt_eql pt_neq wal_eql wal_neq
attribute [local irreducible] rWalk

/-- The document's walls in memory, to be read. -/
structure DocRd (w : World) (db : Nat) (a0 : Option Addr) (c n : Nat) (L : List Wl) : Prop where
  box : Box w db [.slice a0 n c] 49
  row : RowAt cW 5 w a0 L
  len : L.length = n
  le : L.length ≤ 1000000
  nc : n ≤ c
  flat : Flat a0
theorem DocRd.ext {w w' : World} {db c n m : Nat} {a0 : Option Addr} {L : List Wl} (S : DocRd w db a0 c n L) (hb : Below m w w') (hm : m = w.heap.size) : DocRd w' db a0 c n L :=
  ⟨S.box.ext hb hm, S.row.ext hb hm, S.len, S.le, S.nc, S.flat⟩
def isE (p q : Pt) (x : Wl) : Bool := (decide (x.A = p) && decide (x.B = q)) || (decide (x.A = q) && decide (x.B = p))
theorem isE_eq (p q : Pt) (x : Wl) : isE p q x = ((peqI x.A.x x.A.y p.x p.y && peqI x.B.x x.B.y q.x q.y) || (peqI x.A.x x.A.y q.x q.y && peqI x.B.x x.B.y p.x p.y)) := by rw [peqI_dec, peqI_dec, peqI_dec, peqI_dec]; rfl
def kindD (L : List Wl) (p q : Pt) : Int := match L.find? (isE p q) with | some x => x.K | none => 0
theorem find_at {p : Wl → Bool} {L : List Wl} {k : Nat} (hk : k < L.length) (h0 : (L.take k).find? p = none) (h1 : p L[k] = true) : L.find? p = some L[k] := by
  refine List.find?_eq_some_iff_append.2 ⟨h1, L.take k, L.drop (k + 1), ?_, fun y hy => ?_⟩
  · rw [List.getElem_cons_drop hk, List.take_append_drop]
  · simpa using List.find?_eq_none.1 h0 y hy
theorem find_next {p : Wl → Bool} {L : List Wl} {k : Nat} (hk : k < L.length) (h0 : (L.take k).find? p = none) (h1 : p L[k] = false) : (L.take (k + 1)).find? p = none := by
  rw [List.take_succ_eq_append_getElem hk, List.find?_append, h0, List.find?_cons_of_neg (by rw [h1]; simp)]; rfl
theorem find_all {p : Wl → Bool} {L : List Wl} (h0 : (L.take L.length).find? p = none) : L.find? p = none := by rwa [List.take_of_length_le (Nat.le_refl _)] at h0
set_option maxRecDepth 100000 in
set_option maxHeartbeats 2000000 in
theorem rkind_any (db : Nat) (a0 : Option Addr) (c n : Nat) (L : List Wl) (a b : Pt) (w : World) (D : DocRd w db a0 c n L) :
    Calls Try.prog 21 #[.pointer (some ⟨db, 0, none⟩), .agg #[.int .i64 a.x, .int .i64 a.y], .agg #[.int .i64 b.x, .int .i64 b.y]] w fun e w' => e = .returned (.int .i64 (kindD L a b)) ∧ Below w.heap.size w w' := by
  have hdb := D.box.lt
  have HM := Lib.hid D.len
  have hn : n ≤ 1000000 := D.len ▸ D.le
  have HD := Lib.hid D
  clear D
  go_enter Try.func21, Try.ntmps21
  go_wp2
  refine at_world fun W1 hW => ?_
  have BA : Box W1 w.heap.size [.int .i64 a.x, .int .i64 a.y] 33 := by rw [hW]; exact (Box.new rfl).old _
  have BB : Box W1 (w.heap.size + 1) [.int .i64 b.x, .int .i64 b.y] 33 := by rw [hW]; exact Box.new (by simp)
  have hw : Below w.heap.size w W1 := by rw [hW]; go_grown
  clear hW
  go_loopw [7] (fun vi wr => ∃ k : Nat, k ≤ n ∧ vi = .int .i64 k ∧ Hid ((L.take k).find? (isE a b) = none) ∧ Below w.heap.size w wr ∧ Box wr w.heap.size [.int .i64 a.x, .int .i64 a.y] 33 ∧ Box wr (w.heap.size + 1) [.int .i64 b.x, .int .i64 b.y] 33) (fun vi _ => n - (intOf vi).toNat)
  case atStart => exact ⟨0, Nat.zero_le _, rfl, Lib.hid rfl, hw, BA, BB⟩
  case round =>
    clear BA BB hw
    obtain ⟨k, hk, rfl, HF, hwr, BA, BB⟩ := hrel
    have BD := (HD.out.ext hwr rfl).box
    by_cases hlt : k < n
    · have hkL : k < L.length := by rw [HM.out]; exact hlt
      obtain ⟨ad, A, ea, eA, hA⟩ := (HD.out.ext hwr rfl).row.five (j := k) hkL
      have HX : Hid (L[k] = L[k]) := Lib.hid rfl
      generalize hX : L[k] = X at hA HX
      clear HX
      have HX := Lib.hid hX
      clear hX
      obtain ⟨u0, u1, u2, u3, u4, u5⟩ := hA.facts
      obtain ⟨y0, y1, y2, y3⟩ := BA.facts
      obtain ⟨z0, z1, z2, z3⟩ := BB.facts
      obtain ⟨d0, d1, d2, d3⟩ := BD.facts
      subst ea
      clear hA
      cases e1 : peqI X.A.x X.A.y a.x a.y with
      | true =>
        cases e2 : peqI X.B.x X.B.y b.x b.y with
        | true =>
          have HE : Hid (isE a b X = true) := Lib.hid (by rw [isE_eq, e1, e2]; first | rfl | simp)
          have HK : Hid (kindD L a b = X.K) := Lib.hid (by unfold kindD; rw [find_at hkL HF.out (by rw [HX.out]; exact HE.out)]; show L[k].K = _; rw [HX.out])
          have HW := Lib.hid hwr
          clear HE HF HX hwr
          go_wp2
          go_quiet (fail)
          go_wp2
          go_ret
          exact ⟨ret_int HK.out.symm, HW.out.trans ⟨rfl, rfl, rfl, Nat.le_refl _, fun _ _ => rfl⟩⟩
        | false =>
          cases e3 : peqI X.A.x X.A.y b.x b.y with
          | true =>
            cases e4 : peqI X.B.x X.B.y a.x a.y with
            | true =>
              have HE : Hid (isE a b X = true) := Lib.hid (by rw [isE_eq, e1, e2, e3, e4]; first | rfl | simp)
              have HK : Hid (kindD L a b = X.K) := Lib.hid (by unfold kindD; rw [find_at hkL HF.out (by rw [HX.out]; exact HE.out)]; show L[k].K = _; rw [HX.out])
              have HW := Lib.hid hwr
              clear HE HF HX hwr
              go_wp2
              go_quiet (fail)
              go_wp2
              go_ret
              exact ⟨ret_int HK.out.symm, HW.out.trans ⟨rfl, rfl, rfl, Nat.le_refl _, fun _ _ => rfl⟩⟩
            | false =>
              have HE : Hid (isE a b X = false) := Lib.hid (by rw [isE_eq, e1, e2, e3, e4]; first | rfl | simp)
              have HG : Hid ((L.take (k + 1)).find? (isE a b) = none) := Lib.hid (find_next hkL HF.out (by rw [HX.out]; exact HE.out))
              have HW := Lib.hid hwr
              have HA := Lib.hid BA
              have HB := Lib.hid BB
              clear HE HF HX hwr BA BB
              go_wp2
              go_quiet (fail)
              go_wp2
              go_roundw
              case rel => exact ⟨k + 1, hlt, by go_num, HG, HW.out.trans ⟨rfl, rfl, rfl, Nat.le_refl _, fun _ _ => rfl⟩, by first | exact HA.out | exact HA.out.drew, by first | exact HB.out | exact HB.out.drew⟩
              case measure => simp [intOf]; omega
          | false =>
            have HE : Hid (isE a b X = false) := Lib.hid (by rw [isE_eq, e1, e2, e3]; first | rfl | simp)
            have HG : Hid ((L.take (k + 1)).find? (isE a b) = none) := Lib.hid (find_next hkL HF.out (by rw [HX.out]; exact HE.out))
            have HW := Lib.hid hwr
            have HA := Lib.hid BA
            have HB := Lib.hid BB
            clear HE HF HX hwr BA BB
            go_wp2
            go_quiet (fail)
            go_wp2
            go_roundw
            case rel => exact ⟨k + 1, hlt, by go_num, HG, HW.out.trans ⟨rfl, rfl, rfl, Nat.le_refl _, fun _ _ => rfl⟩, by first | exact HA.out | exact HA.out.drew, by first | exact HB.out | exact HB.out.drew⟩
            case measure => simp [intOf]; omega
      | false =>
        cases e3 : peqI X.A.x X.A.y b.x b.y with
        | true =>
          cases e4 : peqI X.B.x X.B.y a.x a.y with
          | true =>
            have HE : Hid (isE a b X = true) := Lib.hid (by rw [isE_eq, e1, e3, e4]; first | rfl | simp)
            have HK : Hid (kindD L a b = X.K) := Lib.hid (by unfold kindD; rw [find_at hkL HF.out (by rw [HX.out]; exact HE.out)]; show L[k].K = _; rw [HX.out])
            have HW := Lib.hid hwr
            clear HE HF HX hwr
            go_wp2
            go_quiet (fail)
            go_wp2
            go_ret
            exact ⟨ret_int HK.out.symm, HW.out.trans ⟨rfl, rfl, rfl, Nat.le_refl _, fun _ _ => rfl⟩⟩
          | false =>
            have HE : Hid (isE a b X = false) := Lib.hid (by rw [isE_eq, e1, e3, e4]; first | rfl | simp)
            have HG : Hid ((L.take (k + 1)).find? (isE a b) = none) := Lib.hid (find_next hkL HF.out (by rw [HX.out]; exact HE.out))
            have HW := Lib.hid hwr
            have HA := Lib.hid BA
            have HB := Lib.hid BB
            clear HE HF HX hwr BA BB
            go_wp2
            go_quiet (fail)
            go_wp2
            go_roundw
            case rel => exact ⟨k + 1, hlt, by go_num, HG, HW.out.trans ⟨rfl, rfl, rfl, Nat.le_refl _, fun _ _ => rfl⟩, by first | exact HA.out | exact HA.out.drew, by first | exact HB.out | exact HB.out.drew⟩
            case measure => simp [intOf]; omega
        | false =>
          have HE : Hid (isE a b X = false) := Lib.hid (by rw [isE_eq, e1, e3]; first | rfl | simp)
          have HG : Hid ((L.take (k + 1)).find? (isE a b) = none) := Lib.hid (find_next hkL HF.out (by rw [HX.out]; exact HE.out))
          have HW := Lib.hid hwr
          have HA := Lib.hid BA
          have HB := Lib.hid BB
          clear HE HF HX hwr BA BB
          go_wp2
          go_quiet (fail)
          go_wp2
          go_roundw
          case rel => exact ⟨k + 1, hlt, by go_num, HG, HW.out.trans ⟨rfl, rfl, rfl, Nat.le_refl _, fun _ _ => rfl⟩, by first | exact HA.out | exact HA.out.drew, by first | exact HB.out | exact HB.out.drew⟩
          case measure => simp [intOf]; omega
    · obtain rfl : k = n := by omega
      have hK : kindD L a b = 0 := by
        unfold kindD
        rw [find_all (by rw [HM.out]; exact HF.out)]
      obtain ⟨d0, d1, d2, d3⟩ := BD.facts
      have HK := Lib.hid hK
      clear hK
      go_wp2
      go_ret
      exact ⟨ret_int HK.out.symm, hwr⟩
end Go.Proofs.Ytnocdecimcpkfaa

namespace Go.Proofs.Ytnocdecimcpkfaa
open Go.RowKit Go.Sort
attribute [local go_sem] rOper rAt rUpon cell_set sg_i64 sg_u64 alloc_cell alloc_frozen
attribute [local go_sem 10000] pt_eql pt_neq wal_eql wal_neq
attribute [local irreducible] rWalk

def hitD (a b : Pt) (x : Wl) : Bool := decide (meetR a b x.A x.B ≠ 0)
def clashD (L : List Wl) (a b : Pt) : Int := if mkOk a b 1 = true then (if kindD L a b = 0 then (if L.any (hitD a b) = true then 7 else 0) else 5) else 2
theorem any_next {p : Wl → Bool} {L : List Wl} {k : Nat} (hk : k < L.length) (h0 : (L.take k).any p = false) (h1 : p L[k] = false) : (L.take (k + 1)).any p = false := by
  rw [List.take_succ_eq_append_getElem hk, List.any_append, h0]; simp [h1]
theorem any_at {p : Wl → Bool} {L : List Wl} {k : Nat} (hk : k < L.length) (h1 : p L[k] = true) : L.any p = true := List.any_eq_true.2 ⟨_, List.getElem_mem hk, h1⟩
theorem any_all {p : Wl → Bool} {L : List Wl} (h0 : (L.take L.length).any p = false) : L.any p = false := by rwa [List.take_of_length_le (Nat.le_refl _)] at h0
theorem rclash_0 (db : Nat) (L : List Wl) (a b : Pt) (ho : mkOk a b 1 = false) (w : World) :
    Calls Try.prog 19 #[.pointer (some ⟨db, 0, none⟩), .agg #[.int .i64 a.x, .int .i64 a.y], .agg #[.int .i64 b.x, .int .i64 b.y]] w fun e w' => e = .returned (.int .i64 (clashD L a b)) ∧ Below w.heap.size w w' := by
  have cm := rmw_any a b 1
  rw [ho] at cm
  generalize mkW a b 1 = W0 at cm
  have HV : Hid (clashD L a b = 2) := Lib.hid (by unfold clashD; rw [ho]; rfl)
  clear ho
  go_enter Try.func19, Try.ntmps19
  go_wp2_with fail
  refine at_call fun W1 hW => ?_
  have Ba : Box W1 (w.heap.size) [.int .i64 a.x, .int .i64 a.y] 33 := by rw [hW]; exact (Box.new rfl).old _
  have Bb : Box W1 (w.heap.size + 1) [.int .i64 b.x, .int .i64 b.y] 33 := by rw [hW]; exact Box.new (by simp)
  have hw : Below w.heap.size w W1 := by rw [hW]; go_grown
  clear hW
  refine (cm _).mono ?_
  rintro e w2 ⟨rfl, hb⟩
  replace Ba := Ba.ext hb rfl
  replace Bb := Bb.ext hb rfl
  replace hw := hw.trans (hb.mono hw.size)
  clear hb
  obtain ⟨xa, ya, za, va⟩ := Ba.facts
  obtain ⟨xb, yb, zb, vb⟩ := Bb.facts
  go_wp2
  go_ret
  exact ⟨ret_int HV.out.symm, by have hl := hw.size; go_grown⟩

theorem rclash_1 (db : Nat) (a0 : Option Addr) (c n : Nat) (L : List Wl) (a b : Pt) (ho : mkOk a b 1 = true) (hk : (kindD L a b != 0) = true) (w : World) (D : DocRd w db a0 c n L) :
    Calls Try.prog 19 #[.pointer (some ⟨db, 0, none⟩), .agg #[.int .i64 a.x, .int .i64 a.y], .agg #[.int .i64 b.x, .int .i64 b.y]] w fun e w' => e = .returned (.int .i64 (clashD L a b)) ∧ Below w.heap.size w w' := by
  have cm := rmw_any a b 1
  rw [ho] at cm
  generalize mkW a b 1 = W0 at cm
  have ck : ∀ W, Below w.heap.size w W → Calls Try.prog 21 #[.pointer (some ⟨db, 0, none⟩), .agg #[.int .i64 a.x, .int .i64 a.y], .agg #[.int .i64 b.x, .int .i64 b.y]] W fun e w' => e = .returned (.int .i64 (kindD L a b)) ∧ Below W.heap.size W w' := fun W hW => rkind_any db a0 c n L a b W (D.ext hW rfl)
  have HV : Hid (clashD L a b = 5) := Lib.hid (by unfold clashD; rw [if_pos ho, if_neg (by simpa using hk)])
  generalize kindD L a b = kd at *
  clear ho D
  go_enter Try.func19, Try.ntmps19
  go_wp2_with fail
  refine at_call fun W1 hW => ?_
  have Ba : Box W1 (w.heap.size) [.int .i64 a.x, .int .i64 a.y] 33 := by rw [hW]; exact (Box.new rfl).old _
  have Bb : Box W1 (w.heap.size + 1) [.int .i64 b.x, .int .i64 b.y] 33 := by rw [hW]; exact Box.new (by simp)
  have hw : Below w.heap.size w W1 := by rw [hW]; go_grown
  clear hW
  refine (cm _).mono ?_
  rintro e w2 ⟨rfl, hb⟩
  replace Ba := Ba.ext hb rfl
  replace Bb := Bb.ext hb rfl
  replace hw := hw.trans (hb.mono hw.size)
  clear hb
  obtain ⟨xa, ya, za, va⟩ := Ba.facts
  obtain ⟨xb, yb, zb, vb⟩ := Bb.facts
  go_wp2_with fail
  refine at_call fun W3 hW => ?_
  replace Ba : Box W3 (w.heap.size) [.int .i64 a.x, .int .i64 a.y] 33 := by rw [hW]; exact Ba.old _
  replace Bb : Box W3 (w.heap.size + 1) [.int .i64 b.x, .int .i64 b.y] 33 := by rw [hW]; exact Bb.old _
  replace hw : Below w.heap.size w W3 := by have hl := hw.size; rw [hW]; go_grown
  clear hW
  refine (ck _ hw).mono ?_
  rintro e w4 ⟨rfl, hb⟩
  clear xa ya za va xb yb zb vb
  replace Ba := Ba.ext hb rfl
  replace Bb := Bb.ext hb rfl
  replace hw := hw.trans (hb.mono hw.size)
  clear hb
  obtain ⟨xa, ya, za, va⟩ := Ba.facts
  obtain ⟨xb, yb, zb, vb⟩ := Bb.facts
  go_wp2
  go_ret
  exact ⟨ret_int HV.out.symm, by have hl := hw.size; go_grown⟩

def clashD2 (L : List Wl) (a b : Pt) : Int := if L.any (hitD a b) = true then 7 else 0
set_option maxRecDepth 100000 in
set_option maxHeartbeats 2000000 in
theorem rclash_2 (db : Nat) (a0 : Option Addr) (c n : Nat) (L : List Wl) (a b : Pt) (ho : mkOk a b 1 = true) (hk : (kindD L a b != 0) = false) (w : World) (D : DocRd w db a0 c n L) :
    Calls Try.prog 19 #[.pointer (some ⟨db, 0, none⟩), .agg #[.int .i64 a.x, .int .i64 a.y], .agg #[.int .i64 b.x, .int .i64 b.y]] w fun e w' => e = .returned (.int .i64 (clashD L a b)) ∧ Below w.heap.size w w' := by
  have cm := rmw_any a b 1
  rw [ho] at cm
  generalize mkW a b 1 = W0 at cm
  have ck : ∀ W, Below w.heap.size w W → Calls Try.prog 21 #[.pointer (some ⟨db, 0, none⟩), .agg #[.int .i64 a.x, .int .i64 a.y], .agg #[.int .i64 b.x, .int .i64 b.y]] W fun e w' => e = .returned (.int .i64 (kindD L a b)) ∧ Below W.heap.size W w' := fun W hW => rkind_any db a0 c n L a b W (D.ext hW rfl)
  have HV : Hid (clashD L a b = clashD2 L a b) := Lib.hid (by unfold clashD; rw [if_pos ho, if_pos (by simpa using hk)]; rfl)
  have hdb := D.box.lt
  have HM := Lib.hid D.len
  have hn : n ≤ 1000000 := D.len ▸ D.le
  have HD := Lib.hid D
  generalize kindD L a b = kd at *
  clear ho D
  go_enter Try.func19, Try.ntmps19
  go_wp2_with fail
  refine at_call fun W1 hW => ?_
  have Ba : Box W1 (w.heap.size) [.int .i64 a.x, .int .i64 a.y] 33 := by rw [hW]; exact (Box.new rfl).old _
  have Bb : Box W1 (w.heap.size + 1) [.int .i64 b.x, .int .i64 b.y] 33 := by rw [hW]; exact Box.new (by simp)
  have hw : Below w.heap.size w W1 := by rw [hW]; go_grown
  clear hW
  refine (cm _).mono ?_
  rintro e w2 ⟨rfl, hb⟩
  replace Ba := Ba.ext hb rfl
  replace Bb := Bb.ext hb rfl
  replace hw := hw.trans (hb.mono hw.size)
  clear hb
  obtain ⟨xa, ya, za, va⟩ := Ba.facts
  obtain ⟨xb, yb, zb, vb⟩ := Bb.facts
  go_wp2_with fail
  refine at_call fun W3 hW => ?_
  replace Ba : Box W3 (w.heap.size) [.int .i64 a.x, .int .i64 a.y] 33 := by rw [hW]; exact Ba.old _
  replace Bb : Box W3 (w.heap.size + 1) [.int .i64 b.x, .int .i64 b.y] 33 := by rw [hW]; exact Bb.old _
  replace hw : Below w.heap.size w W3 := by have hl := hw.size; rw [hW]; go_grown
  clear hW
  refine (ck _ hw).mono ?_
  rintro e w4 ⟨rfl, hb⟩
  clear xa ya za va xb yb zb vb
  replace Ba := Ba.ext hb rfl
  replace Bb := Bb.ext hb rfl
  replace hw := hw.trans (hb.mono hw.size)
  clear hb
  obtain ⟨xa, ya, za, va⟩ := Ba.facts
  obtain ⟨xb, yb, zb, vb⟩ := Bb.facts
  go_wp2_with fail
  clear xa ya za va xb yb zb vb
  clear ck cm
  go_loopw [9] (fun vi wr => ∃ k : Nat, k ≤ n ∧ vi = .int .i64 k ∧ Hid ((L.take k).any (hitD a b) = false) ∧ Below w.heap.size w wr ∧ Box wr w.heap.size [.int .i64 a.x, .int .i64 a.y] 33 ∧ Box wr (w.heap.size + 1) [.int .i64 b.x, .int .i64 b.y] 33) (fun vi _ => n - (intOf vi).toNat)
  case atStart => exact ⟨0, Nat.zero_le _, rfl, Lib.hid rfl, hw, Ba, Bb⟩
  case round =>
    clear Ba Bb hw
    obtain ⟨k, hk, rfl, HF, hwr, BA, BB⟩ := hrel
    have BD := (HD.out.ext hwr rfl).box
    by_cases hlt : k < n
    · have hkL : k < L.length := by rw [HM.out]; exact hlt
      obtain ⟨ad, A, ea, eA, hA⟩ := (HD.out.ext hwr rfl).row.five (j := k) hkL
      have HX : Hid (L[k] = L[k]) := Lib.hid rfl
      generalize hX : L[k] = X at hA HX
      clear HX
      have HX := Lib.hid hX
      clear hX
      have c5 := rmeet_any a b X.A X.B
      have HI : Hid (hitD a b X = decide (meetR a b X.A X.B ≠ 0)) := Lib.hid rfl
      generalize meetR a b X.A X.B = z at c5 HI
      obtain ⟨s0, s1, s2, s3, s4⟩ := hA.cells
      have gA := BA.cells
      have gB := BB.cells
      have gD := BD.cells
      obtain ⟨d0, d1, d2, d3⟩ := BD.facts
      have q0 : (k : Int) < (n : Int) := by omega
      subst ea
      cases ez : (z != 0) with
      | true =>
        have HE : Hid (L.any (hitD a b) = true) := Lib.hid (any_at hkL (by rw [HX.out, HI.out]; simpa using ez))
        clear hA HX HI
        go_wp2_with fail
        refine (wp_region_tail 19 (by kernel_rfl) (by kernel_rfl) (C := fun w' => ∃ p : Regrown, w' = grow (redrawn wr p.d) p.os) (fun w' h => regrown_of_below h) ?_)
        simp only [List.take_succ_cons, List.take_zero, List.drop_succ_cons, List.drop_zero]
        repeat (first | (refine rWalk_skip (Eq.refl false) ?_; simp only [Act.put, List.setIfInBounds_toArray, List.set_cons_succ, List.set_cons_zero]) | (refine rWalk_step (fun K hK => ?_); go_simp; first | (refine hK _ ?_; clear hK K) | (apply Exists.intro; refine ⟨fun _ => ?_, hK _ ?_⟩; (first | with_reducible exact toExt c5 _); clear hK K)))
        refine rWalk_nil ?_
        intro w2 hb
        have hw2 := hwr.trans (hb.mono hwr.size)
        clear s0 s1 s2 s3 s4 gA gB gD hb d0 d1 d2 d3
        go_wp2
        go_ret
        exact ⟨ret_int (by rw [HV.out]; unfold clashD2; rw [HE.out]; rfl), hw2⟩
      | false =>
        have HE : Hid ((L.take (k + 1)).any (hitD a b) = false) := Lib.hid (any_next hkL HF.out (by rw [HX.out, HI.out]; simpa using ez))
        clear hA HX HI
        go_wp2_with fail
        refine (wp_region_tail 19 (by kernel_rfl) (by kernel_rfl) (C := fun w' => ∃ p : Regrown, w' = grow (redrawn wr p.d) p.os) (fun w' h => regrown_of_below h) ?_)
        simp only [List.take_succ_cons, List.take_zero, List.drop_succ_cons, List.drop_zero]
        repeat (first | (refine rWalk_skip (Eq.refl false) ?_; simp only [Act.put, List.setIfInBounds_toArray, List.set_cons_succ, List.set_cons_zero]) | (refine rWalk_step (fun K hK => ?_); go_simp; first | (refine hK _ ?_; clear hK K) | (apply Exists.intro; refine ⟨fun _ => ?_, hK _ ?_⟩; (first | with_reducible exact toExt c5 _); clear hK K)))
        refine rWalk_nil ?_
        intro w2 hb
        have hw2 := hwr.trans (hb.mono hwr.size)
        have BA2 := BA.ext hb rfl
        have BB2 := BB.ext hb rfl
        clear s0 s1 s2 s3 s4 gA gB gD hb d0 d1 d2 d3
        go_wp2
        go_roundw
        case rel => exact ⟨k + 1, hlt, by go_num, HE, hw2, BA2, BB2⟩
        case measure => simp [intOf]; omega
    · obtain rfl : k = n := by omega
      have HE : Hid (L.any (hitD a b) = false) := Lib.hid (any_all (by rw [HM.out]; exact HF.out))
      obtain ⟨d0, d1, d2, d3⟩ := BD.facts
      go_wp2
      go_ret
      exact ⟨ret_int (by rw [HV.out]; unfold clashD2; rw [HE.out]; rfl), hwr⟩

theorem rclash_any (db : Nat) (a0 : Option Addr) (c n : Nat) (L : List Wl) (a b : Pt) (w : World) (D : DocRd w db a0 c n L) :
    Calls Try.prog 19 #[.pointer (some ⟨db, 0, none⟩), .agg #[.int .i64 a.x, .int .i64 a.y], .agg #[.int .i64 b.x, .int .i64 b.y]] w fun e w' => e = .returned (.int .i64 (clashD L a b)) ∧ Below w.heap.size w w' := by
  cases ho : mkOk a b 1 with
  | false => exact rclash_0 db L a b ho w
  | true =>
    cases hk : (kindD L a b != 0) with
    | true => exact rclash_1 db a0 c n L a b ho hk w D
    | false => exact rclash_2 db a0 c n L a b ho hk w D
end Go.Proofs.Ytnocdecimcpkfaa
