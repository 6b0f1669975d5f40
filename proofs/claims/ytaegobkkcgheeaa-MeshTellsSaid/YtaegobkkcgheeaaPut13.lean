/- Put together: Row, TrB, TrL. -/
import Derived.Test.YtaegobkkcgheeaaRows
import Derived.Test.YtaegobkkcgheeaaPut12
import Derived.Below
import Derived.Laws.AppendOwn
import Derived.WalkKit
import Derived.Test.YtaegobkkcgheeaaPut1
import Derived.WalkSpells
import Derived.WalkLawsBesides
import Derived.Laws.Externs
import Derived.Deep.QuietTactic
import Derived.BigQuiet
import Derived.Lib.Hide
import Derived.Handy
import Derived.Test.YtaegobkkcgheeaaPut2
namespace Go.Proofs.Ytaegobkkcgheeaa
open Go.RowKit

instance : DecidableEq Tri3 := fun p q => decidable_of_iff (p.A = q.A ∧ p.B = q.B ∧ p.C = q.C) Tri3.eq_iff.symm
instance : Inhabited Tri3 := ⟨⟨⟨0, 0⟩, ⟨0, 0⟩, ⟨0, 0⟩⟩⟩
def cP (p : Pt) : List Value := [.int .i64 p.x, .int .i64 p.y]
def cT (t : Tri3) : List Value := [.int .i64 t.A.x, .int .i64 t.A.y, .int .i64 t.B.x, .int .i64 t.B.y, .int .i64 t.C.x, .int .i64 t.C.y]
@[reducible] def eT (t : Tri3) : Value := .agg #[.int .i64 t.A.x, .int .i64 t.A.y, .int .i64 t.B.x, .int .i64 t.B.y, .int .i64 t.C.x, .int .i64 t.C.y]
def okT (t : Tri3) : Prop := okP t.A ∧ okP t.B ∧ okP t.C
theorem eT_inj {v w : Tri3} (h : eT v = eT w) : v = w := by
  obtain ⟨⟨a, b⟩, ⟨c, d⟩, ⟨i, j⟩⟩ := v
  obtain ⟨⟨e, f⟩, ⟨g, k⟩, ⟨l, m⟩⟩ := w
  simpa [eT, and_assoc] using h

section
variable {α : Type}
/-- A slice whose elements are the list's: at a, of a's length. -/
def RowAt (c : α → List Value) (k : Nat) (w : World) (a : Option Addr) (L : List α) : Prop :=
  ∀ (j : Nat) (x : α), L[j]? = some x → ∃ ad, a = some ad ∧ ad.block < w.heap.size ∧ ∀ i u, (c x)[i]? = some u → w.cell? ((ad.add (j * k)).add i) = some u
theorem addr_block (a : Addr) (n : Nat) : (a.add n).block = a.block := by unfold Addr.add; split <;> rfl
theorem RowAt.ext {c : α → List Value} {k : Nat} {w w' : World} {a : Option Addr} {L : List α} {n : Nat} (h : RowAt c k w a L) (hb : Below n w w') (hn : n = w.heap.size) : RowAt c k w' a L := fun j x hx => by
  obtain ⟨ad, h1, h2, h3⟩ := h j x hx
  refine ⟨ad, h1, Nat.lt_of_lt_of_le h2 hb.size, fun i u hu => ?_⟩
  rw [hb.cell (p := (ad.add (j * k)).add i) (by rw [addr_block, addr_block, hn]; exact h2)]
  exact h3 i u hu
theorem RowAt.kept {c : α → List Value} {k : Nat} {w w' : World} {a : Option Addr} {L : List α} {row : Option Nat} (h : RowAt c k w a L) (hg : w.grownBy w' row) (hne : ∀ ad, a = some ad → some ad.block ≠ row) : RowAt c k w' a L := fun j x hx => by
  obtain ⟨ad, h1, h2, h3⟩ := h j x hx
  refine ⟨ad, h1, Nat.lt_of_lt_of_le h2 hg.size, fun i u hu => ?_⟩
  exact hg.cell (h3 i u hu) (by rw [addr_block, addr_block]; exact hne ad h1)
theorem RowAt.nil {c : α → List Value} {k : Nat} {w : World} {a : Option Addr} : RowAt c k w a [] := fun j x h => by simp at h
theorem RowAt.old {c : α → List Value} {k : Nat} {w : World} {a : Option Addr} {L : List α} (h : RowAt c k w a L) (o : Obj) : RowAt c k (w.alloc o) a L :=
  h.kept (World.grownBy_alloc w o none) (by simp)
/-- One triangle of a slice, cell by cell, in every world that extends w. -/
theorem RowAt.tri {w : World} {a : Option Addr} {L : List Tri3} (h : RowAt cT 6 w a L) {j : Nat} (hj : j < L.length) :
    ∃ ad A, a = some ad ∧ ad.add (j * 6) = A ∧ (A.block = w.heap.size) = False ∧ A.block < w.heap.size ∧ (w.cell? A = some (.int .i64 L[j].A.x) ∧ w.cell? ⟨A.block, A.off + 1, none⟩ = some (.int .i64 L[j].A.y) ∧ w.cell? ⟨A.block, A.off + 2, none⟩ = some (.int .i64 L[j].B.x) ∧
      w.cell? ⟨A.block, A.off + 3, none⟩ = some (.int .i64 L[j].B.y) ∧ w.cell? ⟨A.block, A.off + 4, none⟩ = some (.int .i64 L[j].C.x) ∧ w.cell? ⟨A.block, A.off + 5, none⟩ = some (.int .i64 L[j].C.y)) := by
  obtain ⟨ad, h1, h2, h3⟩ := h j L[j] (List.getElem?_eq_getElem hj)
  have hb : (ad.add (j * 6)).block = ad.block := addr_block _ _
  refine ⟨ad, _, h1, rfl, by rw [hb]; simp; omega, by rw [hb]; exact h2, ?_⟩
  have e0 := h3 0 _ rfl
  have e1 := h3 1 _ rfl
  have e2 := h3 2 _ rfl
  have e3 := h3 3 _ rfl
  have e4 := h3 4 _ rfl
  have e5 := h3 5 _ rfl
  simp only [Addr.add_zero', Addr.add_succ'] at e0 e1 e2 e3 e4 e5
  exact ⟨e0, e1, e2, e3, e4, e5⟩
theorem RowAt.pt {w : World} {a : Option Addr} {L : List Pt} (h : RowAt cP 2 w a L) {j : Nat} (hj : j < L.length) :
    ∃ ad A, a = some ad ∧ ad.add (j * 2) = A ∧ (A.block = w.heap.size) = False ∧ A.block < w.heap.size ∧ (w.cell? A = some (.int .i64 L[j].x) ∧ w.cell? ⟨A.block, A.off + 1, none⟩ = some (.int .i64 L[j].y)) := by
  obtain ⟨ad, h1, h2, h3⟩ := h j L[j] (List.getElem?_eq_getElem hj)
  have hb : (ad.add (j * 2)).block = ad.block := addr_block _ _
  refine ⟨ad, _, h1, rfl, by rw [hb]; simp; omega, by rw [hb]; exact h2, ?_⟩
  have e0 := h3 0 _ rfl
  have e1 := h3 1 _ rfl
  simp only [Addr.add_zero', Addr.add_succ'] at e0 e1
  exact ⟨e0, e1⟩
end
theorem idx_self {α : Type} (L : List α) (j : Nat) (hj : j < L.length) : L[j]? = some L[j] := List.getElem?_eq_getElem hj
end Go.Proofs.Ytaegobkkcgheeaa

namespace Go.Proofs.Ytaegobkkcgheeaa
open Go.RowKit Go.Sort
attribute [local go_sem] rOper rAt rUpon cell_set sg_i64 sg_u64 alloc_cell alloc_frozen
attribute [local go_sem 10000] pt_eql pt_neq tri_eql
attribute [local irreducible] rWalk

set_option maxHeartbeats 1000000 in
theorem edge_any (T : Tri3) (i : Int) (w : World) :
    Calls Try.prog 10 #[.agg #[.int .i64 T.A.x, .int .i64 T.A.y, .int .i64 T.B.x, .int .i64 T.B.y, .int .i64 T.C.x, .int .i64 T.C.y], .int .i64 i] w fun e w' => e = .returned (.tuple #[.agg #[.int .i64 (crn T i).x, .int .i64 (crn T i).y], .agg #[.int .i64 (crn T (i + 1)).x, .int .i64 (crn T (i + 1)).y]]) ∧ Below w.heap.size w w' := by
  have cp := place_any i
  have d1 := corner_any T (plc i)
  have d2 := corner_any T (plc i + 1)
  rw [crn_plc] at d1
  rw [crn_next] at d2
  have hk := plc_cases i
  have hq : wrap64 (plc i + 1) = plc i + 1 := by rw [w64]; omega
  have hq2 : IntKind.i64.wrap (plc i + 1) = plc i + 1 := by rw [IntKind.wrap_i64]; omega
  generalize crn T i = P at *
  generalize crn T (i + 1) = Q at *
  generalize plc i = k at *
  clear hk
  go_enter Try.func10, Try.ntmps10
  go_wp2_with fail
  refine at_call fun W1 hW => ?_
  have Bt : Box W1 (w.heap.size) [.int .i64 T.A.x, .int .i64 T.A.y, .int .i64 T.B.x, .int .i64 T.B.y, .int .i64 T.C.x, .int .i64 T.C.y] 25 := by rw [hW]; exact ((Box.new rfl).old _).old _
  have Br : Box W1 (w.heap.size + 1) [.int .i64 0, .int .i64 0] 23 := by rw [hW]; exact (Box.new (by simp)).old _
  have Bq : Box W1 (w.heap.size + 1 + 1) [.int .i64 0, .int .i64 0] 23 := by rw [hW]; exact Box.new (by simp)
  have hw : Below w.heap.size w W1 := by rw [hW]; go_grown
  clear hW
  refine (cp _).mono ?_
  rintro e w2 ⟨rfl, hb⟩
  replace Bt := Bt.ext hb rfl
  replace Br := Br.ext hb rfl
  replace Bq := Bq.ext hb rfl
  replace hw := hw.trans (hb.mono hw.size)
  clear hb
  obtain ⟨xt, yt, zt, vt⟩ := Bt.facts
  obtain ⟨xr, yr, zr, vr⟩ := Br.facts
  obtain ⟨xq, yq, zq, vq⟩ := Bq.facts
  go_wp2_with fail
  refine at_world fun W9 hW => ?_
  replace hw : Below w.heap.size w W9 := by rw [hW]; exact hw
  replace Bt : Box W9 (w.heap.size) [.int .i64 T.A.x, .int .i64 T.A.y, .int .i64 T.B.x, .int .i64 T.B.y, .int .i64 T.C.x, .int .i64 T.C.y] 25 := by rw [hW]; exact Bt
  replace Br : Box W9 (w.heap.size + 1) [.int .i64 0, .int .i64 0] 23 := by rw [hW]; exact Br
  replace Bq : Box W9 (w.heap.size + 1 + 1) [.int .i64 0, .int .i64 0] 23 := by rw [hW]; exact Bq
  clear hW
  clear xt yt zt vt xr yr zr vr xq yq zq vq
  have gt := Bt.cells
  have gr := Br.cells
  have gq := Bq.cells
  refine wp_region_tail 7 (by kernel_rfl) (by kernel_rfl) (C := fun w' => ∃ p : Regrown, w' = grow (redrawn W9 p.d) p.os) (fun w' h => regrown_of_below h) ?_
  simp only [List.take_succ_cons, List.take_zero, List.drop_succ_cons, List.drop_zero]
  repeat (first | (refine rWalk_skip (Eq.refl false) ?_; simp only [Act.put, List.setIfInBounds_toArray, List.set_cons_succ, List.set_cons_zero]) | (refine rWalk_step (fun K hK => ?_); go_simp; first | (refine hK _ ?_; clear hK K) | (apply Exists.intro; refine ⟨fun _ => ?_, hK _ ?_⟩; (first | with_reducible exact toExt d1 _ | with_reducible exact toExt d2 _); clear hK K)))
  refine rWalk_nil ?_
  intro w3 hb
  clear gt gr gq
  replace Bt := Bt.ext hb rfl
  replace Br := Br.ext hb rfl
  replace Bq := Bq.ext hb rfl
  replace hw := hw.trans (hb.mono hw.size)
  obtain ⟨xt, yt, zt, vt⟩ := Bt.facts
  obtain ⟨xr, yr, zr, vr⟩ := Br.facts
  obtain ⟨xq, yq, zq, vq⟩ := Bq.facts
  go_wp2_with fail
  refine bodyPost_ret (v := .tuple #[.agg #[.int .i64 P.x, .int .i64 P.y], .agg #[.int .i64 Q.x, .int .i64 Q.y]]) (by simp [results, Try.results10, go_sem, xr, xq]) rfl ⟨rfl, by have hl := hw.size; go_grown⟩

def mn3 (x y z : Int) : Int := if z < (if y < x then y else x) then z else (if y < x then y else x)
theorem run_mn3 {P : Program} (w : World) (ts : Array TypeId) (t : TypeId) (k k' k'' : IntKind) (x y z : Int) : (Builtin.min_ ts t #[.int k x, .int k' y, .int k'' z]).run P w = .ok (.int k (mn3 x y z)) w := run_min_int3 w ts t k k' k'' x y z
attribute [local go_sem 10000] run_mn3
def sde (T : Tri3) (p : Pt) : Int := mn3 (ori T.A T.B p) (ori T.B T.C p) (ori T.C T.A p)
set_option maxHeartbeats 1000000 in
theorem side_any (T : Tri3) (p : Pt) (w : World) :
    Calls Try.prog 35 #[.agg #[.int .i64 T.A.x, .int .i64 T.A.y, .int .i64 T.B.x, .int .i64 T.B.y, .int .i64 T.C.x, .int .i64 T.C.y], .agg #[.int .i64 p.x, .int .i64 p.y]] w fun e w' => e = .returned (.int .i64 (sde T p)) ∧ Below w.heap.size w w' := by
  unfold sde
  have d1 := orient_any T.A T.B p
  have d2 := orient_any T.B T.C p
  have d3 := orient_any T.C T.A p
  generalize ori T.A T.B p = m at *
  generalize ori T.B T.C p = n at *
  generalize ori T.C T.A p = o at *
  go_enter Try.func35, Try.ntmps35
  go_wp2_with fail
  refine at_world fun W1 hW => ?_
  have Bt : Box W1 (w.heap.size) [.int .i64 T.A.x, .int .i64 T.A.y, .int .i64 T.B.x, .int .i64 T.B.y, .int .i64 T.C.x, .int .i64 T.C.y] 25 := by rw [hW]; exact (Box.new rfl).old _
  have Bp : Box W1 (w.heap.size + 1) [.int .i64 p.x, .int .i64 p.y] 23 := by rw [hW]; exact Box.new (by simp)
  have hw : Below w.heap.size w W1 := by rw [hW]; go_grown
  clear hW
  have gt := Bt.cells
  have gp := Bp.cells
  refine wp_region_tail 18 (by kernel_rfl) (by kernel_rfl) (C := fun w' => ∃ p : Regrown, w' = grow (redrawn W1 p.d) p.os) (fun w' h => regrown_of_below h) ?_
  simp only [List.take_succ_cons, List.take_zero, List.drop_succ_cons, List.drop_zero]
  repeat (first | (refine rWalk_skip (Eq.refl false) ?_; simp only [Act.put, List.setIfInBounds_toArray, List.set_cons_succ, List.set_cons_zero]) | (refine rWalk_step (fun K hK => ?_); go_simp; first | (refine hK _ ?_; clear hK K) | (apply Exists.intro; refine ⟨fun _ => ?_, hK _ ?_⟩; (first | with_reducible exact toExt d1 _ | with_reducible exact toExt d2 _ | with_reducible exact toExt d3 _); clear hK K)))
  refine rWalk_nil ?_
  intro w2 hb
  clear gt gp
  replace Bt := Bt.ext hb rfl
  replace Bp := Bp.ext hb rfl
  replace hw := hw.trans (hb.mono hw.size)
  obtain ⟨xt, yt, zt, vt⟩ := Bt.facts
  obtain ⟨xp, yp, zp, vp⟩ := Bp.facts
  go_wp2
  go_ret
  exact ⟨ret_int rfl, by have hl := hw.size; go_grown⟩

def hasS (T : Tri3) (p : Pt) : Bool := valT T && (vld p && decide (0 ≤ sde T p))
def insS (T : Tri3) (p : Pt) : Bool := valT T && decide (0 < sde T p)
theorem has_0 (T : Tri3) (p : Pt) (h0 : valT T = false) (w : World) :
    Calls Try.prog 12 #[.agg #[.int .i64 T.A.x, .int .i64 T.A.y, .int .i64 T.B.x, .int .i64 T.B.y, .int .i64 T.C.x, .int .i64 T.C.y], .agg #[.int .i64 p.x, .int .i64 p.y]] w fun e w' => e = .returned (.bool false) ∧ Below w.heap.size w w' := by
  have c1 := tvalid_any T
  rw [h0] at c1
  clear h0
  go_enter Try.func12, Try.ntmps12
  go_wp2_with fail
  refine at_call fun W1 hW => ?_
  have Bt : Box W1 (w.heap.size) [.int .i64 T.A.x, .int .i64 T.A.y, .int .i64 T.B.x, .int .i64 T.B.y, .int .i64 T.C.x, .int .i64 T.C.y] 25 := by rw [hW]; exact (Box.new rfl).old _
  have Bp : Box W1 (w.heap.size + 1) [.int .i64 p.x, .int .i64 p.y] 23 := by rw [hW]; exact Box.new (by simp)
  have hw : Below w.heap.size w W1 := by rw [hW]; go_grown
  clear hW
  refine (c1 _).mono ?_
  rintro e w2 ⟨rfl, hb⟩
  replace Bt := Bt.ext hb rfl
  replace Bp := Bp.ext hb rfl
  replace hw := hw.trans (hb.mono hw.size)
  clear hb
  obtain ⟨xt, yt, zt, vt⟩ := Bt.facts
  obtain ⟨xp, yp, zp, vp⟩ := Bp.facts
  go_wp2
  go_ret
  exact ⟨rfl, by have hl := hw.size; go_grown⟩

theorem has_1 (T : Tri3) (p : Pt) (h0 : valT T = true) (h1 : vld p = false) (w : World) :
    Calls Try.prog 12 #[.agg #[.int .i64 T.A.x, .int .i64 T.A.y, .int .i64 T.B.x, .int .i64 T.B.y, .int .i64 T.C.x, .int .i64 T.C.y], .agg #[.int .i64 p.x, .int .i64 p.y]] w fun e w' => e = .returned (.bool false) ∧ Below w.heap.size w w' := by
  have c1 := tvalid_any T
  rw [h0] at c1
  clear h0
  have c2 := valid_any p
  rw [h1] at c2
  clear h1
  go_enter Try.func12, Try.ntmps12
  go_wp2_with fail
  refine at_call fun W1 hW => ?_
  have Bt : Box W1 (w.heap.size) [.int .i64 T.A.x, .int .i64 T.A.y, .int .i64 T.B.x, .int .i64 T.B.y, .int .i64 T.C.x, .int .i64 T.C.y] 25 := by rw [hW]; exact (Box.new rfl).old _
  have Bp : Box W1 (w.heap.size + 1) [.int .i64 p.x, .int .i64 p.y] 23 := by rw [hW]; exact Box.new (by simp)
  have hw : Below w.heap.size w W1 := by rw [hW]; go_grown
  clear hW
  refine (c1 _).mono ?_
  rintro e w2 ⟨rfl, hb⟩
  replace Bt := Bt.ext hb rfl
  replace Bp := Bp.ext hb rfl
  replace hw := hw.trans (hb.mono hw.size)
  clear hb
  obtain ⟨xt, yt, zt, vt⟩ := Bt.facts
  obtain ⟨xp, yp, zp, vp⟩ := Bp.facts
  go_wp2_with fail
  refine (c2 _).mono ?_
  rintro e w3 ⟨rfl, hb⟩
  clear xt yt zt vt xp yp zp vp
  replace Bt := Bt.ext hb rfl
  replace Bp := Bp.ext hb rfl
  replace hw := hw.trans (hb.mono hw.size)
  clear hb
  obtain ⟨xt, yt, zt, vt⟩ := Bt.facts
  obtain ⟨xp, yp, zp, vp⟩ := Bp.facts
  go_wp2
  go_ret
  exact ⟨rfl, by have hl := hw.size; go_grown⟩

theorem has_2 (T : Tri3) (p : Pt) (h0 : valT T = true) (h1 : vld p = true) (w : World) :
    Calls Try.prog 12 #[.agg #[.int .i64 T.A.x, .int .i64 T.A.y, .int .i64 T.B.x, .int .i64 T.B.y, .int .i64 T.C.x, .int .i64 T.C.y], .agg #[.int .i64 p.x, .int .i64 p.y]] w fun e w' => e = .returned (.bool (decide (0 ≤ sde T p))) ∧ Below w.heap.size w w' := by
  have c1 := tvalid_any T
  rw [h0] at c1
  clear h0
  have c2 := valid_any p
  rw [h1] at c2
  clear h1
  have c3 := side_any T p
  generalize sde T p = n at *
  go_enter Try.func12, Try.ntmps12
  go_wp2_with fail
  refine at_call fun W1 hW => ?_
  have Bt : Box W1 (w.heap.size) [.int .i64 T.A.x, .int .i64 T.A.y, .int .i64 T.B.x, .int .i64 T.B.y, .int .i64 T.C.x, .int .i64 T.C.y] 25 := by rw [hW]; exact (Box.new rfl).old _
  have Bp : Box W1 (w.heap.size + 1) [.int .i64 p.x, .int .i64 p.y] 23 := by rw [hW]; exact Box.new (by simp)
  have hw : Below w.heap.size w W1 := by rw [hW]; go_grown
  clear hW
  refine (c1 _).mono ?_
  rintro e w2 ⟨rfl, hb⟩
  replace Bt := Bt.ext hb rfl
  replace Bp := Bp.ext hb rfl
  replace hw := hw.trans (hb.mono hw.size)
  clear hb
  obtain ⟨xt, yt, zt, vt⟩ := Bt.facts
  obtain ⟨xp, yp, zp, vp⟩ := Bp.facts
  go_wp2_with fail
  refine (c2 _).mono ?_
  rintro e w3 ⟨rfl, hb⟩
  clear xt yt zt vt xp yp zp vp
  replace Bt := Bt.ext hb rfl
  replace Bp := Bp.ext hb rfl
  replace hw := hw.trans (hb.mono hw.size)
  clear hb
  obtain ⟨xt, yt, zt, vt⟩ := Bt.facts
  obtain ⟨xp, yp, zp, vp⟩ := Bp.facts
  go_wp2_with fail
  refine (c3 _).mono ?_
  rintro e w4 ⟨rfl, hb⟩
  clear xt yt zt vt xp yp zp vp
  replace Bt := Bt.ext hb rfl
  replace Bp := Bp.ext hb rfl
  replace hw := hw.trans (hb.mono hw.size)
  clear hb
  obtain ⟨xt, yt, zt, vt⟩ := Bt.facts
  obtain ⟨xp, yp, zp, vp⟩ := Bp.facts
  go_wp2
  go_ret
  exact ⟨rfl, by have hl := hw.size; go_grown⟩

theorem ins_0 (T : Tri3) (p : Pt) (h0 : valT T = false) (w : World) :
    Calls Try.prog 13 #[.agg #[.int .i64 T.A.x, .int .i64 T.A.y, .int .i64 T.B.x, .int .i64 T.B.y, .int .i64 T.C.x, .int .i64 T.C.y], .agg #[.int .i64 p.x, .int .i64 p.y]] w fun e w' => e = .returned (.bool false) ∧ Below w.heap.size w w' := by
  have c1 := tvalid_any T
  rw [h0] at c1
  clear h0
  go_enter Try.func13, Try.ntmps13
  go_wp2_with fail
  refine at_call fun W1 hW => ?_
  have Bt : Box W1 (w.heap.size) [.int .i64 T.A.x, .int .i64 T.A.y, .int .i64 T.B.x, .int .i64 T.B.y, .int .i64 T.C.x, .int .i64 T.C.y] 25 := by rw [hW]; exact (Box.new rfl).old _
  have Bp : Box W1 (w.heap.size + 1) [.int .i64 p.x, .int .i64 p.y] 23 := by rw [hW]; exact Box.new (by simp)
  have hw : Below w.heap.size w W1 := by rw [hW]; go_grown
  clear hW
  refine (c1 _).mono ?_
  rintro e w2 ⟨rfl, hb⟩
  replace Bt := Bt.ext hb rfl
  replace Bp := Bp.ext hb rfl
  replace hw := hw.trans (hb.mono hw.size)
  clear hb
  obtain ⟨xt, yt, zt, vt⟩ := Bt.facts
  obtain ⟨xp, yp, zp, vp⟩ := Bp.facts
  go_wp2
  go_ret
  exact ⟨rfl, by have hl := hw.size; go_grown⟩

theorem ins_1 (T : Tri3) (p : Pt) (h0 : valT T = true) (w : World) :
    Calls Try.prog 13 #[.agg #[.int .i64 T.A.x, .int .i64 T.A.y, .int .i64 T.B.x, .int .i64 T.B.y, .int .i64 T.C.x, .int .i64 T.C.y], .agg #[.int .i64 p.x, .int .i64 p.y]] w fun e w' => e = .returned (.bool (decide (0 < sde T p))) ∧ Below w.heap.size w w' := by
  have c1 := tvalid_any T
  rw [h0] at c1
  clear h0
  have c2 := side_any T p
  generalize sde T p = n at *
  go_enter Try.func13, Try.ntmps13
  go_wp2_with fail
  refine at_call fun W1 hW => ?_
  have Bt : Box W1 (w.heap.size) [.int .i64 T.A.x, .int .i64 T.A.y, .int .i64 T.B.x, .int .i64 T.B.y, .int .i64 T.C.x, .int .i64 T.C.y] 25 := by rw [hW]; exact (Box.new rfl).old _
  have Bp : Box W1 (w.heap.size + 1) [.int .i64 p.x, .int .i64 p.y] 23 := by rw [hW]; exact Box.new (by simp)
  have hw : Below w.heap.size w W1 := by rw [hW]; go_grown
  clear hW
  refine (c1 _).mono ?_
  rintro e w2 ⟨rfl, hb⟩
  replace Bt := Bt.ext hb rfl
  replace Bp := Bp.ext hb rfl
  replace hw := hw.trans (hb.mono hw.size)
  clear hb
  obtain ⟨xt, yt, zt, vt⟩ := Bt.facts
  obtain ⟨xp, yp, zp, vp⟩ := Bp.facts
  go_wp2_with fail
  refine (c2 _).mono ?_
  rintro e w3 ⟨rfl, hb⟩
  clear xt yt zt vt xp yp zp vp
  replace Bt := Bt.ext hb rfl
  replace Bp := Bp.ext hb rfl
  replace hw := hw.trans (hb.mono hw.size)
  clear hb
  obtain ⟨xt, yt, zt, vt⟩ := Bt.facts
  obtain ⟨xp, yp, zp, vp⟩ := Bp.facts
  go_wp2
  go_ret
  exact ⟨rfl, by have hl := hw.size; go_grown⟩

theorem has_any (T : Tri3) (p : Pt) (w : World) :
    Calls Try.prog 12 #[.agg #[.int .i64 T.A.x, .int .i64 T.A.y, .int .i64 T.B.x, .int .i64 T.B.y, .int .i64 T.C.x, .int .i64 T.C.y], .agg #[.int .i64 p.x, .int .i64 p.y]] w fun e w' => e = .returned (.bool (hasS T p)) ∧ Below w.heap.size w w' := by
  unfold hasS
  cases h0 : valT T with
  | false => exact has_0 T p h0 w
  | true => cases h1 : vld p with
    | false => exact has_1 T p h0 h1 w
    | true => exact has_2 T p h0 h1 w
theorem ins_any (T : Tri3) (p : Pt) (w : World) :
    Calls Try.prog 13 #[.agg #[.int .i64 T.A.x, .int .i64 T.A.y, .int .i64 T.B.x, .int .i64 T.B.y, .int .i64 T.C.x, .int .i64 T.C.y], .agg #[.int .i64 p.x, .int .i64 p.y]] w fun e w' => e = .returned (.bool (insS T p)) ∧ Below w.heap.size w w' := by
  unfold insS
  cases h0 : valT T with
  | false => exact ins_0 T p h0 w
  | true => exact ins_1 T p h0 w
def insP (T : Tri3) (p : Pt) : Bool := valT T && (decide (0 < ori T.A T.B p) && (decide (0 < ori T.B T.C p) && decide (0 < ori T.C T.A p)))
theorem mn3_le {x y z : Int} : (0 ≤ mn3 x y z ↔ 0 ≤ x ∧ 0 ≤ y ∧ 0 ≤ z) ∧ (0 < mn3 x y z ↔ 0 < x ∧ 0 < y ∧ 0 < z) := by unfold mn3; (repeat' split) <;> omega
theorem has_eq (T : Tri3) (p : Pt) : hasS T p = hasP T p := by
  unfold hasS hasP sde
  rw [Bool.eq_iff_iff]
  simp only [Bool.and_eq_true, decide_eq_true_eq, mn3_le.1]
theorem ins_eq (T : Tri3) (p : Pt) : insS T p = insP T p := by
  unfold insS insP sde
  rw [Bool.eq_iff_iff]
  simp only [Bool.and_eq_true, decide_eq_true_eq, mn3_le.2]
end Go.Proofs.Ytaegobkkcgheeaa

namespace Go.Proofs.Ytaegobkkcgheeaa
open Go.RowKit Go.Sort
theorem wp_region_lateG {P : Program} {C : World → Prop} {id : Nat} {Q : Exit → Act → World → Prop} {a : Act} {w : World} {l hd : List Oper} (n j s : Nat) (d t : Tmp) {T : TypeId} {zs us : List Value} {eff : Nat → World → World} (heff : ∀ (w : World) (b : Nat), w.heap[b]? = some (.cells zs.toArray T) → (eff b w).heap[b]? = some (.cells us.toArray T) ∧ (∀ B, B ≤ b → Below B w (eff b w))) (u : Value) {oj os : Oper}
    (hoj : l.toArray[j]? = some oj) (hos : l.toArray[s]? = some os) (hjd : oj.dst = some d) (hafter : oj.after = #[]) (hguard : oj.guard = none) (hsd : os.dst = none) (hsg : os.guard = none)
    (hdsz : d < a.tmps.size)
    (hrun : ∀ (ρ : Operand → Value) (w : World), (execOp ρ oj).run P w = .ok (.value (.pointer (some ⟨w.heap.size, 0, none⟩))) (w.alloc (.cells zs.toArray T)))
    (hm : P.follows .mixedOrders = true) (hB : lateB .any l.toArray n j s d t = true)
    (hhd : ((List.range n).filter fun i => i != j && i != s).map (fun i => l.toArray[i]?) = hd.map some)
    (hC : ∀ w', Below w.heap.size w w' → C w')
    (h : rWalk P l.toArray C (fun a' => a'.eval (.tmp t) = u ∧ ∀ w' b, Below w.heap.size w w' → w.heap.size ≤ b → b < w'.heap.size → Box w' b us T → wpList P l.toArray Q (l.drop n) (a'.put (some d) (.pointer (some ⟨b, 0, none⟩))) w') hd a)
    (hst : ∀ (ρ : Operand → Value) (w : World) (b : Nat), ρ (.tmp d) = .pointer (some ⟨b, 0, none⟩) → ρ (.tmp t) = u → Box w b zs T → (execOp ρ os).run P w = .ok .skip (eff b w)) :
    (Code.region id l.toArray true).wp P Q a w := by
  simp only [lateB, Bool.and_eq_true, decide_eq_true_eq] at hB
  obtain ⟨⟨⟨⟨⟨⟨⟨⟨⟨⟨⟨⟨⟨hsel, hn⟩, hjn⟩, hsn⟩, hjs⟩, hdt⟩, hs⟩, hc⟩, hph⟩, hbk⟩, hsj⟩, hwr⟩, hqa⟩, ho⟩ := hB
  have K : Late P .any l.toArray n j s d t T zs.toArray us.toArray u oj os eff :=
    ⟨hsel, hn, hjn, hsn, hjs, hs, hc, hbk, hoj, hos, hjd, hafter, hguard, hsd, hsg, hsj, hdt, hwr, hrun, hst, fun w b h => heff w b h⟩
  have hjz : (Array.replicate l.toArray.size false).getD j true = false := getD_in (by simp; simp at hn; omega) (getD_replicate_false _ _)
  have hsz : (Array.replicate l.toArray.size false).getD s true = false := getD_in (by simp; simp at hn; omega) (getD_replicate_false _ _)
  have tl : ∀ (m : Array Bool) (i : Nat), i < n → (m.size = l.toArray.size ∧ ∀ t', n ≤ t' → t' < l.toArray.size → m.getD t' true = false) → ((m.setIfInBounds i true).size = l.toArray.size ∧ ∀ t', n ≤ t' → t' < l.toArray.size → (m.setIfInBounds i true).getD t' true = false) :=
    fun m i hi ⟨h1, h2⟩ => ⟨by simpa using h1, fun t' ht ht' => by rw [getD_set_ne true (by omega)]; exact h2 t' ht ht'⟩
  have i0 : (Array.replicate l.toArray.size false).size = l.toArray.size ∧ ∀ t', n ≤ t' → t' < l.toArray.size → (Array.replicate l.toArray.size false).getD t' true = false :=
    ⟨by simp, fun t' _ ht' => getD_in (by simpa using ht') (getD_replicate_false _ _)⟩
  have H := rAny_order (md := .any) (g := l.toArray.size - n) hsel (fun m => m.size = l.toArray.size ∧ ∀ t', n ≤ t' → t' < l.toArray.size → m.getD t' true = false) (fun m i hi _ hin => tl m i hin hi) (fun m hm => phase_waits hph hc hm.2)
    ((List.range n).filter fun i => i != j && i != s) hd _ a hhd (tl _ s hsn (tl _ j hjn i0)) ho h
  refine wp_region_any hm ?_
  have R := late_zero (md := .any) (Q := Q) (l := l.drop n) (w0 := w) K hqa (g := l.toArray.size - n) (by simp) (fun j => by simp [List.getElem?_drop]) hC (fun a' hl => hl.1)
    (fun a' w' b h1 h2 h3 h4 hl => hl.2 w' b h1 h2 h3 h4) _ (Array.replicate l.toArray.size false) a { w with drawn := w.drawn + 1 } hdsz ⟨rfl, rfl, rfl, Nat.le_refl _, fun _ _ => rfl⟩ hjz hsz headInv0 H
  have hcount : ((List.range n).filter fun i => i != j && i != s).length + 1 + 1 = n := count_two hjn hsn hjs
  rw [show ((List.range n).filter fun i => i != j && i != s).length + (l.toArray.size - n) + 1 + 1 = l.toArray.size by omega] at R
  exact R
/-- The usual make: the block's laying and the store are the head's last two operations. -/
theorem wp_region_lateG2 {P : Program} {C : World → Prop} {id : Nat} {Q : Exit → Act → World → Prop} {a : Act} {w : World} {l : List Oper} (m : Nat) (d t : Tmp) {T : TypeId} {zs : List Value} (us : List Value) {eff : Nat → World → World} (heff : ∀ (w : World) (b : Nat), w.heap[b]? = some (.cells zs.toArray T) → (eff b w).heap[b]? = some (.cells us.toArray T) ∧ (∀ B, B ≤ b → Below B w (eff b w))) {oj os : Oper}
    (hoj : l.toArray[m]? = some oj) (hos : l.toArray[m + 1]? = some os) (hjd : oj.dst = some d) (hafter : oj.after = #[]) (hguard : oj.guard = none) (hsd : os.dst = none) (hsg : os.guard = none)
    (hdsz : d < a.tmps.size)
    (hrun : ∀ (ρ : Operand → Value) (w : World), (execOp ρ oj).run P w = .ok (.value (.pointer (some ⟨w.heap.size, 0, none⟩))) (w.alloc (.cells zs.toArray T)))
    (hm : P.follows .mixedOrders = true) (hB : lateB .any l.toArray (m + 2) m (m + 1) d t = true)
    (hC : ∀ w', Below w.heap.size w w' → C w')
    (h : rWalk P l.toArray C (fun a' => a'.eval (.tmp t) = .agg us.toArray ∧ ∀ w' b, Below w.heap.size w w' → w.heap.size ≤ b → b < w'.heap.size → Box w' b us T → wpList P l.toArray Q (l.drop (m + 2)) (a'.put (some d) (.pointer (some ⟨b, 0, none⟩))) w') (l.take m) a)
    (hst : ∀ (ρ : Operand → Value) (w : World) (b : Nat), ρ (.tmp d) = .pointer (some ⟨b, 0, none⟩) → ρ (.tmp t) = .agg us.toArray → Box w b zs T → (execOp ρ os).run P w = .ok .skip (eff b w)) :
    (Code.region id l.toArray true).wp P Q a w := by
  refine wp_region_lateG (hd := l.take m) (m + 2) m (m + 1) d t heff _ hoj hos hjd hafter hguard hsd hsg hdsz hrun hm hB ?_ hC h hst
  have hn : m + 2 < l.length := by
    simp only [lateB, Bool.and_eq_true, decide_eq_true_eq] at hB
    have := hB.1.1.1.1.1.1.1.1.1.1.1.1.2
    simpa using this
  rw [range_two]
  apply List.ext_getElem?
  intro j
  simp only [List.getElem?_map, List.getElem?_take]
  by_cases hj : j < m
  · simp [hj, show j < l.length by omega]
  · simp [hj]
/-- Six cells stored, one behind the other. -/
def eff6 (c0 c1 c2 c3 c4 c5 : Value) (b : Nat) (w : World) : World := (((((w.setCell ⟨b, 0, none⟩ c0).setCell ⟨b, 1, none⟩ c1).setCell ⟨b, 2, none⟩ c2).setCell ⟨b, 3, none⟩ c3).setCell ⟨b, 4, none⟩ c4).setCell ⟨b, 5, none⟩ c5
theorem eff6_spec {c0 c1 c2 c3 c4 c5 z : Value} {T : TypeId} (w : World) (b : Nat) (h : w.heap[b]? = some (.cells [z, z, z, z, z, z].toArray T)) : (eff6 c0 c1 c2 c3 c4 c5 b w).heap[b]? = some (.cells [c0, c1, c2, c3, c4, c5].toArray T) ∧ (∀ B, B ≤ b → Below B w (eff6 c0 c1 c2 c3 c4 c5 b w)) := by
  have B0 : Box w b [z, z, z, z, z, z] T := h
  exact ⟨(((((B0.set 0 c0).set 1 c1).set 2 c2).set 3 c3).set 4 c4).set 5 c5, fun B hB => ((((((Below.refl B w).setCell hB _).setCell hB _).setCell hB _).setCell hB _).setCell hB _).setCell hB _⟩
end Go.Proofs.Ytaegobkkcgheeaa
