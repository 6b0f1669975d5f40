/- The contracts of package tri's Twice and Cmp and of the document's own Twice, Corner and CmpTri, over the program. -/
import Derived.Test.YtijdbddjhnjcdaaRows
import Derived.Test.YtijdbddjhnjcdaaStr
import Derived.Test.YtijdbddjhnjcdaaTrB
import Derived.Test.YtijdbddjhnjcdaaPost
import Derived.WalkKit
import Derived.WalkSpells
import Derived.WalkLawsBesides
import Derived.Laws.Externs
import Derived.Deep.QuietTactic
import Derived.BigQuiet
import Derived.Lib.Hide
import Derived.Handy
import Derived.LoopN
import Derived.RegionTactic
namespace Go.Proofs.Ytijdbddjhnjcdaa
open Go.RowKit Go.Sort
attribute [local go_sem] rOper rAt rUpon cell_set sg_i64 sg_u64 alloc_cell alloc_frozen
attribute [local go_sem 10000] pt_eql pt_neq tri_eql
attribute [local irreducible] rWalk

theorem und_pt3 : Try.prog.underlying 28 = some (.array 3 23) := by kernel_rfl
theorem idx_0 (a b c d e f : Value) (w : World) : (Instr.index 28 (.agg #[a, b, c, d, e, f]) (.int .i64 0)).run Try.prog w = .ok (.agg #[a, b]) w := by
  simp [Instr.index, run_underlying und_pt3, asIntOf, part, go_sem]
theorem idx_1 (a b c d e f : Value) (w : World) : (Instr.index 28 (.agg #[a, b, c, d, e, f]) (.int .i64 1)).run Try.prog w = .ok (.agg #[c, d]) w := by
  simp [Instr.index, run_underlying und_pt3, asIntOf, part, go_sem]
theorem idx_2 (a b c d e f : Value) (w : World) : (Instr.index 28 (.agg #[a, b, c, d, e, f]) (.int .i64 2)).run Try.prog w = .ok (.agg #[e, f]) w := by
  simp [Instr.index, run_underlying und_pt3, asIntOf, part, go_sem]
attribute [local go_sem 10000] idx_0 idx_1 idx_2
def cmpT (S T : Tri3) : Int := if cmpP S.A T.A ≠ 0 then cmpP S.A T.A else if cmpP S.B T.B ≠ 0 then cmpP S.B T.B else cmpP S.C T.C
set_option maxHeartbeats 1000000 in
theorem or_0 (x y z : Int) (h0 : (x == 0) = false) (w : World) (bk : Nat) (hB : Box w bk [.int .i64 x, .int .i64 y, .int .i64 z] 3) :
    Calls Try.prog 30 #[.slice (some ⟨bk, 0, none⟩) 3 3] w fun e w' => e = .returned (.int .i64 x) ∧ Below w.heap.size w w' := by
  obtain ⟨xs, ys, zs, vs⟩ := hB.facts
  go_enter Try.func30, Try.ntmps30
  go_wp2_with fail
  refine wp_loop_rounds 5 ?_
  try rw [rounds_succ]
  go_wp2_with fail
  go_ret
  exact ⟨rfl, by go_grown⟩

set_option maxHeartbeats 1000000 in
theorem or_1 (x y z : Int) (h0 : (x == 0) = true) (h1 : (y == 0) = false) (w : World) (bk : Nat) (hB : Box w bk [.int .i64 x, .int .i64 y, .int .i64 z] 3) :
    Calls Try.prog 30 #[.slice (some ⟨bk, 0, none⟩) 3 3] w fun e w' => e = .returned (.int .i64 y) ∧ Below w.heap.size w w' := by
  obtain ⟨xs, ys, zs, vs⟩ := hB.facts
  go_enter Try.func30, Try.ntmps30
  go_wp2_with fail
  refine wp_loop_rounds 5 ?_
  try rw [rounds_succ]
  go_wp2_with fail
  try rw [rounds_succ]
  go_wp2_with fail
  go_ret
  exact ⟨rfl, by go_grown⟩

set_option maxHeartbeats 1000000 in
theorem or_2 (x y z : Int) (h0 : (x == 0) = true) (h1 : (y == 0) = true) (h2 : (z == 0) = false) (w : World) (bk : Nat) (hB : Box w bk [.int .i64 x, .int .i64 y, .int .i64 z] 3) :
    Calls Try.prog 30 #[.slice (some ⟨bk, 0, none⟩) 3 3] w fun e w' => e = .returned (.int .i64 z) ∧ Below w.heap.size w w' := by
  obtain ⟨xs, ys, zs, vs⟩ := hB.facts
  go_enter Try.func30, Try.ntmps30
  go_wp2_with fail
  refine wp_loop_rounds 5 ?_
  try rw [rounds_succ]
  go_wp2_with fail
  try rw [rounds_succ]
  go_wp2_with fail
  try rw [rounds_succ]
  go_wp2_with fail
  go_ret
  exact ⟨rfl, by go_grown⟩

set_option maxHeartbeats 1000000 in
theorem or_3 (x y z : Int) (h0 : (x == 0) = true) (h1 : (y == 0) = true) (h2 : (z == 0) = true) (w : World) (bk : Nat) (hB : Box w bk [.int .i64 x, .int .i64 y, .int .i64 z] 3) :
    Calls Try.prog 30 #[.slice (some ⟨bk, 0, none⟩) 3 3] w fun e w' => e = .returned (.int .i64 0) ∧ Below w.heap.size w w' := by
  obtain ⟨xs, ys, zs, vs⟩ := hB.facts
  go_enter Try.func30, Try.ntmps30
  go_wp2_with fail
  refine wp_loop_rounds 5 ?_
  try rw [rounds_succ]
  go_wp2_with fail
  try rw [rounds_succ]
  go_wp2_with fail
  try rw [rounds_succ]
  go_wp2_with fail
  try rw [rounds_succ]
  go_wp2_with fail
  go_ret
  exact ⟨rfl, by go_grown⟩

def or3 (x y z : Int) : Int := if x ≠ 0 then x else if y ≠ 0 then y else z
theorem or_any (x y z : Int) (w : World) (bk : Nat) (hB : Box w bk [.int .i64 x, .int .i64 y, .int .i64 z] 3) :
    Calls Try.prog 30 #[.slice (some ⟨bk, 0, none⟩) 3 3] w fun e w' => e = .returned (.int .i64 (or3 x y z)) ∧ Below w.heap.size w w' := by
  cases h0 : (x == 0) with
  | false => rw [show or3 x y z = x by simp at h0; simp [or3, h0]]; exact or_0 x y z h0 w bk hB
  | true => cases h1 : (y == 0) with
    | false => rw [show or3 x y z = y by simp at h0 h1; simp [or3, h0, h1]]; exact or_1 x y z h0 h1 w bk hB
    | true => cases h2 : (z == 0) with
      | false => rw [show or3 x y z = z by simp at h0 h1; simp [or3, h0, h1]]; exact or_2 x y z h0 h1 h2 w bk hB
      | true => rw [show or3 x y z = 0 by simp at h0 h1 h2; simp [or3, h0, h1, h2]]; exact or_3 x y z h0 h1 h2 w bk hB
set_option maxHeartbeats 1000000 in
theorem cmpT_any (S T : Tri3) (w : World) :
    Calls Try.prog 21 #[.agg #[.int .i64 S.A.x, .int .i64 S.A.y, .int .i64 S.B.x, .int .i64 S.B.y, .int .i64 S.C.x, .int .i64 S.C.y], .agg #[.int .i64 T.A.x, .int .i64 T.A.y, .int .i64 T.B.x, .int .i64 T.B.y, .int .i64 T.C.x, .int .i64 T.C.y]] w fun e w' => e = .returned (.int .i64 (cmpT S T)) ∧ Below w.heap.size w w' := by
  have d1 := cmp_pt S.A T.A
  have d2 := cmp_pt S.B T.B
  have d3 := cmp_pt S.C T.C
  rw [show cmpT S T = or3 (cmpP S.A T.A) (cmpP S.B T.B) (cmpP S.C T.C) by rfl]
  generalize cmpP S.A T.A = m at *
  generalize cmpP S.B T.B = n at *
  generalize cmpP S.C T.C = o at *
  go_enter Try.func21, Try.ntmps21
  go_wp2_with fail
  refine at_world fun W1 hW => ?_
  have Bs : Box W1 (w.heap.size) [.int .i64 S.A.x, .int .i64 S.A.y, .int .i64 S.B.x, .int .i64 S.B.y, .int .i64 S.C.x, .int .i64 S.C.y] 25 := by rw [hW]; exact (Box.new rfl).old _
  have Bt : Box W1 (w.heap.size + 1) [.int .i64 T.A.x, .int .i64 T.A.y, .int .i64 T.B.x, .int .i64 T.B.y, .int .i64 T.C.x, .int .i64 T.C.y] 25 := by rw [hW]; exact Box.new (by simp)
  have hw : Below w.heap.size w W1 := by rw [hW]; go_grown
  clear hW
  have gs := Bs.cells
  have gt := Bt.cells
  refine rgn 15 (fun w2 hb => ?_)
  clear gs gt
  replace Bs := Bs.ext hb rfl
  replace Bt := Bt.ext hb rfl
  replace hw := hw.trans (hb.mono hw.size)
  obtain ⟨xs, ys, zs, vs⟩ := Bs.facts
  obtain ⟨xt, yt, zt, vt⟩ := Bt.facts
  go_wp2_with fail
  refine at_call fun W3 hW => ?_
  obtain ⟨bkv, hbv⟩ : ∃ b, w2.heap.size = b := ⟨_, rfl⟩
  rw [hbv]
  have lsv := Bs.lt
  rw [hbv] at lsv
  have ltv := Bt.lt
  rw [hbv] at ltv
  have fv := hw.size
  rw [hbv] at fv
  have Bv : Box W3 bkv [.int .i64 m, .int .i64 n, .int .i64 o] 3 := by rw [hW]; exact Box.new hbv.symm
  replace Bs : Box W3 (w.heap.size) [.int .i64 S.A.x, .int .i64 S.A.y, .int .i64 S.B.x, .int .i64 S.B.y, .int .i64 S.C.x, .int .i64 S.C.y] 25 := by rw [hW]; exact Bs.old _
  replace Bt : Box W3 (w.heap.size + 1) [.int .i64 T.A.x, .int .i64 T.A.y, .int .i64 T.B.x, .int .i64 T.B.y, .int .i64 T.C.x, .int .i64 T.C.y] 25 := by rw [hW]; exact Bt.old _
  replace hw : Below w.heap.size w W3 := by have hl := hw.size; rw [hW]; go_grown
  clear hW hbv
  refine (or_any m n o _ bkv Bv).mono ?_
  rintro e w4 ⟨rfl, hb⟩
  clear xs ys zs vs xt yt zt vt
  replace Bs := Bs.ext hb rfl
  replace Bt := Bt.ext hb rfl
  replace Bv := Bv.ext hb rfl
  replace hw := hw.trans (hb.mono hw.size)
  clear hb
  obtain ⟨xs, ys, zs, vs⟩ := Bs.facts
  obtain ⟨xt, yt, zt, vt⟩ := Bt.facts
  obtain ⟨xv, yv, zv, vv⟩ := Bv.facts
  go_wp2
  go_ret
  exact ⟨rfl, by have hl := hw.size; go_grown⟩

def twi (T : Tri3) : Int := if valT T = true then det T.A T.B T.C else 0
theorem det_wraps {a b c : Pt} (ha : vld a = true) (hb : vld b = true) (hc : vld c = true) : wrap64 (wrap64 (wrap64 (b.x - a.x) * wrap64 (c.y - a.y)) - wrap64 (wrap64 (b.y - a.y) * wrap64 (c.x - a.x))) = det a b c := by
  have wb := way_sm ha hb
  have wc := way_sm ha hc
  have h1 := mul_sm wb.1 wc.2
  have h2 := mul_sm wb.2 wc.1
  unfold det
  unfold smP sm way at wb wc
  simp only [way] at h1 h2 wb wc
  rw [show wrap64 (b.x - a.x) = b.x - a.x by rw [w64]; omega, show wrap64 (c.y - a.y) = c.y - a.y by rw [w64]; omega, show wrap64 (b.y - a.y) = b.y - a.y by rw [w64]; omega, show wrap64 (c.x - a.x) = c.x - a.x by rw [w64]; omega]
  generalize (b.x - a.x) * (c.y - a.y) = p at *
  generalize (b.y - a.y) * (c.x - a.x) = q at *
  simp only [w64]; omega
theorem valT_vld {T : Tri3} (h : valT T = true) : vld T.A = true ∧ vld T.B = true ∧ vld T.C = true := by
  rw [val_eq] at h
  unfold valS at h
  simp only [Bool.and_eq_true, decide_eq_true_eq] at h
  exact ori_vld (by omega)
theorem twi_0 (T : Tri3) (h0 : valT T = false) (w : World) :
    Calls Try.prog 14 #[.agg #[.int .i64 T.A.x, .int .i64 T.A.y, .int .i64 T.B.x, .int .i64 T.B.y, .int .i64 T.C.x, .int .i64 T.C.y]] w fun e w' => e = .returned (.int .i64 0) ∧ Below w.heap.size w w' := by
  have c1 := tvalid_any T
  rw [h0] at c1
  clear h0
  go_enter Try.func14, Try.ntmps14
  go_wp2_with fail
  refine at_call fun W1 hW => ?_
  have Bt : Box W1 (w.heap.size) [.int .i64 T.A.x, .int .i64 T.A.y, .int .i64 T.B.x, .int .i64 T.B.y, .int .i64 T.C.x, .int .i64 T.C.y] 25 := by rw [hW]; exact Box.new rfl
  have hw : Below w.heap.size w W1 := by rw [hW]; go_grown
  clear hW
  refine (c1 _).mono ?_
  rintro e w2 ⟨rfl, hb⟩
  replace Bt := Bt.ext hb rfl
  replace hw := hw.trans (hb.mono hw.size)
  clear hb
  obtain ⟨xt, yt, zt, vt⟩ := Bt.facts
  go_wp2
  go_ret
  exact ⟨rfl, by have hl := hw.size; go_grown⟩

theorem twi_1 (T : Tri3) (h0 : valT T = true) (ha : vld T.A = true) (hb : vld T.B = true) (hc : vld T.C = true) (w : World) :
    Calls Try.prog 14 #[.agg #[.int .i64 T.A.x, .int .i64 T.A.y, .int .i64 T.B.x, .int .i64 T.B.y, .int .i64 T.C.x, .int .i64 T.C.y]] w fun e w' => e = .returned (.int .i64 (det T.A T.B T.C)) ∧ Below w.heap.size w w' := by
  have c1 := tvalid_any T
  rw [h0] at c1
  have e : wrap64 (wrap64 (wrap64 (T.B.x - T.A.x) * wrap64 (T.C.y - T.A.y)) - wrap64 (wrap64 (T.B.y - T.A.y) * wrap64 (T.C.x - T.A.x))) = det T.A T.B T.C := det_wraps ha hb hc
  have E := Lib.hid e
  clear h0 ha hb hc e
  go_enter Try.func14, Try.ntmps14
  go_wp2_with fail
  refine at_call fun W1 hW => ?_
  have Bt : Box W1 (w.heap.size) [.int .i64 T.A.x, .int .i64 T.A.y, .int .i64 T.B.x, .int .i64 T.B.y, .int .i64 T.C.x, .int .i64 T.C.y] 25 := by rw [hW]; exact Box.new rfl
  have hw : Below w.heap.size w W1 := by rw [hW]; go_grown
  clear hW
  refine (c1 _).mono ?_
  rintro e w2 ⟨rfl, hb⟩
  replace Bt := Bt.ext hb rfl
  replace hw := hw.trans (hb.mono hw.size)
  clear hb
  obtain ⟨xt, yt, zt, vt⟩ := Bt.facts
  go_wp2
  go_ret
  exact ⟨ret_int (by simpa using E.out), by have hl := hw.size; go_grown⟩

theorem twi_any (T : Tri3) (w : World) :
    Calls Try.prog 14 #[.agg #[.int .i64 T.A.x, .int .i64 T.A.y, .int .i64 T.B.x, .int .i64 T.B.y, .int .i64 T.C.x, .int .i64 T.C.y]] w fun e w' => e = .returned (.int .i64 (twi T)) ∧ Below w.heap.size w w' := by
  unfold twi
  cases h0 : valT T with
  | false => exact twi_0 T h0 w
  | true => obtain ⟨va, vb, vc⟩ := valT_vld h0; exact twi_1 T h0 va vb vc w
end Go.Proofs.Ytijdbddjhnjcdaa
