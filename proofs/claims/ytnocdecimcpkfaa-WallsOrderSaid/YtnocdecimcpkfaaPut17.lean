/- Put together: TrB, TrC, CmpD, TrD, TrE, TrM. -/
import Derived.Test.YtnocdecimcpkfaaRows
import Derived.Test.YtnocdecimcpkfaaPut16
import Derived.Test.YtnocdecimcpkfaaPut2
import Derived.WalkKit
import Derived.WalkSpells
import Derived.WalkLawsBesides
import Derived.Laws.Externs
import Derived.Deep.QuietTactic
import Derived.BigQuiet
import Derived.Lib.Hide
import Derived.Handy
import Derived.LoopN
import Derived.RegionTactic
namespace Go.Proofs.Ytnocdecimcpkfaa
open Go.RowKit Go.Sort
attribute [local go_sem] rOper rAt rUpon cell_set sg_i64 sg_u64 alloc_cell alloc_frozen
attribute [local go_sem 10000] pt_eql pt_neq
attribute [local irreducible] rWalk

def mn3 (x y z : Int) : Int := if z < (if y < x then y else x) then z else (if y < x then y else x)
theorem run_mn3 {P : Program} (w : World) (ts : Array TypeId) (t : TypeId) (k k' k'' : IntKind) (x y z : Int) : (Builtin.min_ ts t #[.int k x, .int k' y, .int k'' z]).run P w = .ok (.int k (mn3 x y z)) w := run_min_int3 w ts t k k' k'' x y z
attribute [local go_sem 10000] run_mn3
def sde (T : Tri3) (p : Pt) : Int := mn3 (ori T.A T.B p) (ori T.B T.C p) (ori T.C T.A p)
def hasS (T : Tri3) (p : Pt) : Bool := valT T && (vld p && decide (0 ≤ sde T p))
def insS (T : Tri3) (p : Pt) : Bool := valT T && decide (0 < sde T p)
def insP (T : Tri3) (p : Pt) : Bool := valT T && (decide (0 < ori T.A T.B p) && (decide (0 < ori T.B T.C p) && decide (0 < ori T.C T.A p)))
theorem mn3_le {x y z : Int} : (0 ≤ mn3 x y z ↔ 0 ≤ x ∧ 0 ≤ y ∧ 0 ≤ z) ∧ (0 < mn3 x y z ↔ 0 < x ∧ 0 < y ∧ 0 < z) := by unfold mn3; (repeat' split) <;> omega
theorem has_eq (T : Tri3) (p : Pt) : hasS T p = hasP T p := by
  unfold hasS hasP sde
  rw [Bool.eq_iff_iff]
  simp only [Bool.and_eq_true, decide_eq_true_eq, mn3_le.1]
theorem ins_eq (T : Tri3) (p : Pt) : insS T p = insP T p := by
  unfold insS insP sde
  rw [Bool.eq_iff_iff]
  simp only [Bool.and_eq_true, decide_eq_true_eq, mn3_le.2]
end Go.Proofs.Ytnocdecimcpkfaa

namespace Go.Proofs.Ytnocdecimcpkfaa
open Go.RowKit Go.Sort
attribute [local go_sem] rOper rAt rUpon cell_set sg_i64 sg_u64 alloc_cell alloc_frozen
attribute [local go_sem 10000] pt_eql pt_neq
attribute [local irreducible] rWalk


def cmpT (S T : Tri3) : Int := if cmpP S.A T.A ≠ 0 then cmpP S.A T.A else if cmpP S.B T.B ≠ 0 then cmpP S.B T.B else cmpP S.C T.C
set_option maxHeartbeats 1000000 in
theorem or_0 (x y z : Int) (h0 : (x == 0) = false) (w : World) (bk : Nat) (hB : Box w bk [.int .i64 x, .int .i64 y, .int .i64 z] 3) :
    Calls Try.prog 55 #[.slice (some ⟨bk, 0, none⟩) 3 3] w fun e w' => e = .returned (.int .i64 x) ∧ Below w.heap.size w w' := by
  obtain ⟨xs, ys, zs, vs⟩ := hB.facts
  go_enter Try.func55, Try.ntmps55
  go_wp2_with fail
  refine wp_loop_rounds 5 ?_
  try rw [rounds_succ]
  go_wp2_with fail
  go_ret
  exact ⟨rfl, by go_grown⟩

set_option maxHeartbeats 1000000 in
theorem or_1 (x y z : Int) (h0 : (x == 0) = true) (h1 : (y == 0) = false) (w : World) (bk : Nat) (hB : Box w bk [.int .i64 x, .int .i64 y, .int .i64 z] 3) :
    Calls Try.prog 55 #[.slice (some ⟨bk, 0, none⟩) 3 3] w fun e w' => e = .returned (.int .i64 y) ∧ Below w.heap.size w w' := by
  obtain ⟨xs, ys, zs, vs⟩ := hB.facts
  go_enter Try.func55, Try.ntmps55
  go_wp2_with fail
  refine wp_loop_rounds 5 ?_
  try rw [rounds_succ]
  go_wp2_with fail
  try rw [rounds_succ]
  go_wp2_with fail
  go_ret
  exact ⟨rfl, by go_grown⟩

set_option maxHeartbeats 1000000 in
theorem or_2 (x y z : Int) (h0 : (x == 0) = true) (h1 : (y == 0) = true) (h2 : (z == 0) = false) (w : World) (bk : Nat) (hB : Box w bk [.int .i64 x, .int .i64 y, .int .i64 z] 3) :
    Calls Try.prog 55 #[.slice (some ⟨bk, 0, none⟩) 3 3] w fun e w' => e = .returned (.int .i64 z) ∧ Below w.heap.size w w' := by
  obtain ⟨xs, ys, zs, vs⟩ := hB.facts
  go_enter Try.func55, Try.ntmps55
  go_wp2_with fail
  refine wp_loop_rounds 5 ?_
  try rw [rounds_succ]
  go_wp2_with fail
  try rw [rounds_succ]
  go_wp2_with fail
  try rw [rounds_succ]
  go_wp2_with fail
  go_ret
  exact ⟨rfl, by go_grown⟩

set_option maxHeartbeats 1000000 in
theorem or_3 (x y z : Int) (h0 : (x == 0) = true) (h1 : (y == 0) = true) (h2 : (z == 0) = true) (w : World) (bk : Nat) (hB : Box w bk [.int .i64 x, .int .i64 y, .int .i64 z] 3) :
    Calls Try.prog 55 #[.slice (some ⟨bk, 0, none⟩) 3 3] w fun e w' => e = .returned (.int .i64 0) ∧ Below w.heap.size w w' := by
  obtain ⟨xs, ys, zs, vs⟩ := hB.facts
  go_enter Try.func55, Try.ntmps55
  go_wp2_with fail
  refine wp_loop_rounds 5 ?_
  try rw [rounds_succ]
  go_wp2_with fail
  try rw [rounds_succ]
  go_wp2_with fail
  try rw [rounds_succ]
  go_wp2_with fail
  try rw [rounds_succ]
  go_wp2_with fail
  go_ret
  exact ⟨rfl, by go_grown⟩

def or3 (x y z : Int) : Int := if x ≠ 0 then x else if y ≠ 0 then y else z
theorem or_any (x y z : Int) (w : World) (bk : Nat) (hB : Box w bk [.int .i64 x, .int .i64 y, .int .i64 z] 3) :
    Calls Try.prog 55 #[.slice (some ⟨bk, 0, none⟩) 3 3] w fun e w' => e = .returned (.int .i64 (or3 x y z)) ∧ Below w.heap.size w w' := by
  cases h0 : (x == 0) with
  | false => rw [show or3 x y z = x by simp at h0; simp [or3, h0]]; exact or_0 x y z h0 w bk hB
  | true => cases h1 : (y == 0) with
    | false => rw [show or3 x y z = y by simp at h0 h1; simp [or3, h0, h1]]; exact or_1 x y z h0 h1 w bk hB
    | true => cases h2 : (z == 0) with
      | false => rw [show or3 x y z = z by simp at h0 h1; simp [or3, h0, h1]]; exact or_2 x y z h0 h1 h2 w bk hB
      | true => rw [show or3 x y z = 0 by simp at h0 h1 h2; simp [or3, h0, h1, h2]]; exact or_3 x y z h0 h1 h2 w bk hB
def twi (T : Tri3) : Int := if valT T = true then det T.A T.B T.C else 0
theorem det_wraps {a b c : Pt} (ha : vld a = true) (hb : vld b = true) (hc : vld c = true) : wrap64 (wrap64 (wrap64 (b.x - a.x) * wrap64 (c.y - a.y)) - wrap64 (wrap64 (b.y - a.y) * wrap64 (c.x - a.x))) = det a b c := by
  have wb := way_sm ha hb
  have wc := way_sm ha hc
  have h1 := mul_sm wb.1 wc.2
  have h2 := mul_sm wb.2 wc.1
  unfold det
  unfold smP sm way at wb wc
  simp only [way] at h1 h2 wb wc
  rw [show wrap64 (b.x - a.x) = b.x - a.x by rw [w64]; omega, show wrap64 (c.y - a.y) = c.y - a.y by rw [w64]; omega, show wrap64 (b.y - a.y) = b.y - a.y by rw [w64]; omega, show wrap64 (c.x - a.x) = c.x - a.x by rw [w64]; omega]
  generalize (b.x - a.x) * (c.y - a.y) = p at *
  generalize (b.y - a.y) * (c.x - a.x) = q at *
  simp only [w64]; omega
theorem valT_vld {T : Tri3} (h : valT T = true) : vld T.A = true ∧ vld T.B = true ∧ vld T.C = true := by
  rw [val_eq] at h
  unfold valS at h
  simp only [Bool.and_eq_true, decide_eq_true_eq] at h
  exact ori_vld (by omega)
end Go.Proofs.Ytnocdecimcpkfaa

namespace Go.Proofs.Ytnocdecimcpkfaa
open Go.RowKit Go.Sort
attribute [local go_sem] Dr.rOper Dr.rAt Dr.rUpon cell_set sg_i64 sg_u64 alloc_cell alloc_frozen
attribute [local go_sem 10000] pt_eql pt_neq
attribute [local irreducible] Dr.rWalk

theorem dcmp_pt (p q : Pt) (w : World) :
    Calls Try.prog 56 #[.agg #[.int .i64 p.x, .int .i64 p.y], .agg #[.int .i64 q.x, .int .i64 q.y]] w fun e w' => e = .returned (.int .i64 (cmpP p q)) ∧ Dr.Ext w w' := by
  by_cases h : p.x = q.x
  · have e1 : (p.x != q.x) = false := by simp [h]
    have e2 : cmpP p q = cmpN p.y q.y := by unfold cmpP; rw [if_pos h]
    rw [e2]
    clear e2 h
    go_enter Try.func56, Try.ntmps56
    go_wp2_with (go_at_call 57; refine (cmp_int _ _ _).mono ?_; rintro e w' ⟨rfl, rfl⟩)
    go_returns
    exact ⟨rfl, by go_grown, Nat.le_refl _⟩
  · have e1 : (p.x != q.x) = true := by simp [h]
    have e2 : cmpP p q = cmpN p.x q.x := by unfold cmpP; rw [if_neg h]
    rw [e2]
    clear e2 h
    go_enter Try.func56, Try.ntmps56
    go_wp2_with (go_at_call 57; refine (cmp_int _ _ _).mono ?_; rintro e w' ⟨rfl, rfl⟩)
    go_returns
    exact ⟨rfl, by go_grown, Nat.le_refl _⟩
set_option maxHeartbeats 1000000 in
theorem dor_0 (x y z : Int) (h0 : (x == 0) = false) (w : World) (bk : Nat) (hB : Box w bk [.int .i64 x, .int .i64 y, .int .i64 z] 3) :
    Calls Try.prog 55 #[.slice (some ⟨bk, 0, none⟩) 3 3] w fun e w' => e = .returned (.int .i64 x) ∧ Dr.Ext w w' := by
  obtain ⟨xs, ys, zs, vs⟩ := hB.facts
  go_enter Try.func55, Try.ntmps55
  go_wp2_with fail
  refine wp_loop_rounds 5 ?_
  try rw [rounds_succ]
  go_wp2_with fail
  go_ret
  exact ⟨rfl, by go_grown, Nat.le_refl _⟩

set_option maxHeartbeats 1000000 in
theorem dor_1 (x y z : Int) (h0 : (x == 0) = true) (h1 : (y == 0) = false) (w : World) (bk : Nat) (hB : Box w bk [.int .i64 x, .int .i64 y, .int .i64 z] 3) :
    Calls Try.prog 55 #[.slice (some ⟨bk, 0, none⟩) 3 3] w fun e w' => e = .returned (.int .i64 y) ∧ Dr.Ext w w' := by
  obtain ⟨xs, ys, zs, vs⟩ := hB.facts
  go_enter Try.func55, Try.ntmps55
  go_wp2_with fail
  refine wp_loop_rounds 5 ?_
  try rw [rounds_succ]
  go_wp2_with fail
  try rw [rounds_succ]
  go_wp2_with fail
  go_ret
  exact ⟨rfl, by go_grown, Nat.le_refl _⟩

set_option maxHeartbeats 1000000 in
theorem dor_2 (x y z : Int) (h0 : (x == 0) = true) (h1 : (y == 0) = true) (h2 : (z == 0) = false) (w : World) (bk : Nat) (hB : Box w bk [.int .i64 x, .int .i64 y, .int .i64 z] 3) :
    Calls Try.prog 55 #[.slice (some ⟨bk, 0, none⟩) 3 3] w fun e w' => e = .returned (.int .i64 z) ∧ Dr.Ext w w' := by
  obtain ⟨xs, ys, zs, vs⟩ := hB.facts
  go_enter Try.func55, Try.ntmps55
  go_wp2_with fail
  refine wp_loop_rounds 5 ?_
  try rw [rounds_succ]
  go_wp2_with fail
  try rw [rounds_succ]
  go_wp2_with fail
  try rw [rounds_succ]
  go_wp2_with fail
  go_ret
  exact ⟨rfl, by go_grown, Nat.le_refl _⟩

set_option maxHeartbeats 1000000 in
theorem dor_3 (x y z : Int) (h0 : (x == 0) = true) (h1 : (y == 0) = true) (h2 : (z == 0) = true) (w : World) (bk : Nat) (hB : Box w bk [.int .i64 x, .int .i64 y, .int .i64 z] 3) :
    Calls Try.prog 55 #[.slice (some ⟨bk, 0, none⟩) 3 3] w fun e w' => e = .returned (.int .i64 0) ∧ Dr.Ext w w' := by
  obtain ⟨xs, ys, zs, vs⟩ := hB.facts
  go_enter Try.func55, Try.ntmps55
  go_wp2_with fail
  refine wp_loop_rounds 5 ?_
  try rw [rounds_succ]
  go_wp2_with fail
  try rw [rounds_succ]
  go_wp2_with fail
  try rw [rounds_succ]
  go_wp2_with fail
  try rw [rounds_succ]
  go_wp2_with fail
  go_ret
  exact ⟨rfl, by go_grown, Nat.le_refl _⟩

theorem dor_any (x y z : Int) (w : World) (bk : Nat) (hB : Box w bk [.int .i64 x, .int .i64 y, .int .i64 z] 3) :
    Calls Try.prog 55 #[.slice (some ⟨bk, 0, none⟩) 3 3] w fun e w' => e = .returned (.int .i64 (or3 x y z)) ∧ Dr.Ext w w' := by
  cases h0 : (x == 0) with
  | false => rw [show or3 x y z = x by simp at h0; simp [or3, h0]]; exact dor_0 x y z h0 w bk hB
  | true => cases h1 : (y == 0) with
    | false => rw [show or3 x y z = y by simp at h0 h1; simp [or3, h0, h1]]; exact dor_1 x y z h0 h1 w bk hB
    | true => cases h2 : (z == 0) with
      | false => rw [show or3 x y z = z by simp at h0 h1; simp [or3, h0, h1]]; exact dor_2 x y z h0 h1 h2 w bk hB
      | true => rw [show or3 x y z = 0 by simp at h0 h1 h2; simp [or3, h0, h1, h2]]; exact dor_3 x y z h0 h1 h2 w bk hB
theorem Dr_skip {P : Program} {ops : Array Oper} {C : World → Prop} {Q : Act → Prop} {a : Act} {o : Oper} {rest : List Oper} (hg : Region.wanted o (yielded ops a.tmps) = false) (h : Dr.rWalk P ops C Q rest (a.put o.dst undef)) : Dr.rWalk P ops C Q (o :: rest) a := by
  simp only [Dr.rWalk]; rw [hg, if_neg (by simp)]; exact h
end Go.Proofs.Ytnocdecimcpkfaa

namespace Go.Proofs.Ytnocdecimcpkfaa
open Go.RowKit Go.Sort
attribute [local go_sem] rOper rAt rUpon cell_set sg_i64 sg_u64 alloc_cell alloc_frozen
attribute [local go_sem 10000] pt_eql pt_neq
attribute [local irreducible] rWalk

end Go.Proofs.Ytnocdecimcpkfaa

namespace Go.Proofs.Ytnocdecimcpkfaa
open Go.RowKit Go.Sort
attribute [local go_sem] rOper rAt rUpon cell_set sg_i64 sg_u64 alloc_cell alloc_frozen
attribute [local go_sem 10000] pt_eql pt_neq
attribute [local irreducible] rWalk

theorem leq_iff {p q : Pt} : leq p q = true ↔ p.x < q.x ∨ (p.x = q.x ∧ p.y ≤ q.y) := by
  unfold leq cmpP cmpN sgn
  rw [decide_eq_true_eq]
  (repeat' split) <;> omega
theorem lds_iff {T : Tri3} : lds T = true ↔ (T.A.x < T.B.x ∨ (T.A.x = T.B.x ∧ T.A.y ≤ T.B.y)) ∧ (T.A.x < T.C.x ∨ (T.A.x = T.C.x ∧ T.A.y ≤ T.C.y)) := by
  unfold lds; rw [Bool.and_eq_true, leq_iff, leq_iff]
theorem lead_some (a b c : Pt) (h1 : lds ⟨a, b, c⟩ = false) (h2 : lds ⟨b, c, a⟩ = false) : lds ⟨c, a, b⟩ = true := by
  rw [← Bool.not_eq_true, lds_iff] at h1 h2
  rw [lds_iff]
  simp only at h1 h2 ⊢
  omega
theorem mkT_cyc {x y z : Pt} (hx : vld x = true) (hy : vld y = true) (hz : vld z = true) (n1 : key x ≠ key y) (n2 : key x ≠ key z) (n3 : key y ≠ key z) : mkT y z x = mkT x y z := by
  rcases mkT_rot hx hy hz n1 n2 n3 with ⟨u1, u2, e⟩ | ⟨u1, u2, e⟩ | ⟨u1, u2, e⟩ <;> rcases mkT_rot hy hz hx n3 n1.symm n2.symm with ⟨v1, v2, f⟩ | ⟨v1, v2, f⟩ | ⟨v1, v2, f⟩ <;> first | (exfalso; omega) | rw [e, f]
theorem mk_none {a b c : Pt} (h : ori a b c = 0) : mk a b c = ⟨⟨0, 0⟩, ⟨0, 0⟩, ⟨0, 0⟩⟩ := by unfold mk; rw [if_pos h]
theorem mk_keys {a b c : Pt} (h0 : ¬ ori a b c = 0) : vld a = true ∧ vld b = true ∧ vld c = true ∧ key a ≠ key b ∧ key a ≠ key c ∧ key b ≠ key c := by
  obtain ⟨va, vb, vc⟩ := ori_vld h0
  obtain ⟨d1, d2, d3⟩ := ori_distinct h0
  exact ⟨va, vb, vc, fun h => d1 (key_inj va vb h).symm, fun h => d2 (key_inj va vc h).symm, fun h => d3 (key_inj vb vc h).symm⟩
theorem mk_cyc (a b c : Pt) : mk b c a = mk a b c := by
  by_cases h0 : ori a b c = 0
  · rw [mk_none h0, mk_none (by rw [ori_cyc]; exact h0)]
  · obtain ⟨va, vb, vc, n1, n2, n3⟩ := mk_keys h0
    unfold mk
    rw [ori_cyc, if_neg h0, if_neg h0, mkT_cyc va vb vc n1 n2 n3, mkT_cyc vb va vc n1.symm n3 n2]
theorem mk_swap (a b c : Pt) : mk a c b = mk a b c := by
  have hb := ori_bd a b c
  unfold mk
  rw [ori_swap2]
  by_cases h0 : ori a b c = 0
  · simp [h0]
  · rw [if_neg h0, if_neg (by omega)]
    by_cases h1 : ori a b c = 1
    · rw [if_pos h1, if_neg (by omega)]
    · rw [if_neg h1, if_pos (by omega)]
theorem val_mk {x y z : Pt} (h : valT ⟨x, y, z⟩ = true) : mk x y z = ⟨x, y, z⟩ := by
  unfold valT at h
  simp only [Bool.and_eq_true, teq_iff] at h
  exact h.2
theorem val_of {x y z : Pt} (ho : 0 < ori x y z) (hl : lds ⟨x, y, z⟩ = true) : valT ⟨x, y, z⟩ = true := by
  rw [val_eq]; unfold valS; simp [ho, hl]
theorem val_none {x y z : Pt} (ho : ori x y z = 0) : valT ⟨x, y, z⟩ = false := by
  rw [val_eq]; unfold valS; simp [ho]
theorem lds_swap {x y z : Pt} (hl : lds ⟨x, y, z⟩ = true) : lds ⟨x, z, y⟩ = true := by
  unfold lds at hl ⊢; simp only at hl ⊢; rw [Bool.and_comm]; exact hl
theorem ori_swap2' (x y z : Pt) : ori x z y = -ori x y z := ori_swap2 x y z
end Go.Proofs.Ytnocdecimcpkfaa

namespace Go.Proofs.Ytnocdecimcpkfaa
open Go.RowKit
theorem mk_ok {a b c : Pt} (h0 : ¬ ori a b c = 0) : valT (mk a b c) = true ∧
    (mk a b c = ⟨a, b, c⟩ ∨ mk a b c = ⟨b, c, a⟩ ∨ mk a b c = ⟨c, a, b⟩ ∨ mk a b c = ⟨a, c, b⟩ ∨ mk a b c = ⟨c, b, a⟩ ∨ mk a b c = ⟨b, a, c⟩) := by
  obtain ⟨va, vb, vc, n1, n2, n3⟩ := mk_keys h0
  have hb := ori_bd a b c
  rw [val_eq]; unfold valS lds
  by_cases h1 : ori a b c = 1
  · have e0 : mk a b c = mkT a b c := by unfold mk; rw [if_neg h0, if_pos h1]
    rw [e0]
    rcases mkT_rot va vb vc n1 n2 n3 with ⟨x1, x2, e⟩ | ⟨x1, x2, e⟩ | ⟨x1, x2, e⟩ <;> rw [e] <;> simp only
    · rw [leq_key va vb, leq_key va vc]; refine ⟨?_, by simp⟩; simp only [Bool.and_eq_true, decide_eq_true_eq]; omega
    · rw [ori_cyc, leq_key vb vc, leq_key vb va]; refine ⟨?_, by simp⟩; simp only [Bool.and_eq_true, decide_eq_true_eq]; omega
    · rw [ori_cyc, ori_cyc, leq_key vc va, leq_key vc vb]; refine ⟨?_, by simp⟩; simp only [Bool.and_eq_true, decide_eq_true_eq]; omega
  · have e0 : mk a b c = mkT a c b := by unfold mk; rw [if_neg h0, if_neg h1]
    have h2 : ori a c b = 1 := by rw [ori_swap2]; omega
    rw [e0]
    rcases mkT_rot va vc vb n2 n1 n3.symm with ⟨x1, x2, e⟩ | ⟨x1, x2, e⟩ | ⟨x1, x2, e⟩ <;> rw [e] <;> simp only
    · rw [leq_key va vb, leq_key va vc]; refine ⟨?_, by simp⟩; simp only [Bool.and_eq_true, decide_eq_true_eq]; omega
    · rw [ori_cyc, leq_key vc vb, leq_key vc va]; refine ⟨?_, by simp⟩; simp only [Bool.and_eq_true, decide_eq_true_eq]; omega
    · rw [ori_cyc, ori_cyc, leq_key vb va, leq_key vb vc]; refine ⟨?_, by simp⟩; simp only [Bool.and_eq_true, decide_eq_true_eq]; omega
theorem mk_corners {a b c : Pt} (h0 : ¬ ori a b c = 0) (p : Pt) : (p = a ∨ p = b ∨ p = c) ↔ (p = (mk a b c).A ∨ p = (mk a b c).B ∨ p = (mk a b c).C) := by
  obtain ⟨_, e | e | e | e | e | e⟩ := mk_ok h0 <;> rw [e] <;> simp only <;> constructor <;> rintro (h | h | h) <;> simp [h]
theorem tri_signs {T : Tri3} (h : valT T = true) : vld T.A = true ∧ vld T.B = true ∧ vld T.C = true ∧ 0 < det T.A T.B T.C := by
  obtain ⟨va, vb, vc⟩ := valT_vld h
  rw [val_eq] at h
  unfold valS at h
  simp only [Bool.and_eq_true, decide_eq_true_eq] at h
  have h1 := h.1
  rw [ori_v va vb vc] at h1
  have := sgn_cases (det T.A T.B T.C)
  exact ⟨va, vb, vc, by omega⟩
theorem det_sum (a b c p : Pt) : det a b p + det b c p + det c a p = det a b c := by unfold det; grind
theorem corner0 {a b c : Pt} (p : Pt) (hD : 0 < det a b c) : p = a ↔ det a b p = 0 ∧ det c a p = 0 := by
  constructor
  · intro h; subst h; constructor <;> (unfold det; grind)
  · intro ⟨h1, h2⟩
    have e1 : det a b c * (p.x - a.x) = det c a p * (b.x - a.x) + det a b p * (c.x - a.x) := by unfold det; grind
    have e2 : det a b c * (p.y - a.y) = det c a p * (b.y - a.y) + det a b p * (c.y - a.y) := by unfold det; grind
    rw [h1, h2] at e1 e2
    simp only [Int.zero_mul, Int.add_zero] at e1 e2
    rw [Pt.eq_iff]
    rcases Int.mul_eq_zero.1 e1 with h | h
    · omega
    · rcases Int.mul_eq_zero.1 e2 with h' | h'
      · omega
      · omega
theorem scale_le {E x y D : Int} (hE : 0 < E) (hD : 0 < D) (h : E * x = y * D) : 0 ≤ x ↔ 0 ≤ y := by
  have := sgn_scale hE h
  rw [sgn_p hD, Int.mul_one] at this
  have h1 := sgn_cases x
  have h2 := sgn_cases y
  omega
theorem seg_iff {a b c p : Pt} (va : vld a = true) (vb : vld b = true) (vp : vld p = true) (hD : 0 < det a b c) (h : det a b p = 0) :
    onR p a b = true ↔ 0 ≤ det b c p ∧ 0 ≤ det c a p := by
  have hab : a ≠ b := by
    intro e; subst e
    have : det a a c = 0 := by unfold det; grind
    omega
  have hE := EE_pos hab
  obtain ⟨c1, c2⟩ := coll h
  obtain ⟨c3, c4⟩ := coll2 h
  have hb := btw_k hab h
  have e1 : EE a b * det b c p = (EE a b - kk a b p) * det a b c := by
    generalize EE a b = E at *
    generalize kk a b p = k at *
    unfold det at *; grind
  have e2 : EE a b * det c a p = kk a b p * det a b c := by
    generalize EE a b = E at *
    generalize kk a b p = k at *
    unfold det at *; grind
  have s1 := scale_le hE hD e1
  have s2 := scale_le hE hD e2
  unfold onR
  rw [vp, va, vb, h, decide_eq_true rfl, Bool.true_and, Bool.true_and, Bool.true_and, Bool.true_and, hb]
  omega
theorem on_det {p a b : Pt} (h : onR p a b = true) : det a b p = 0 := by
  unfold onR at h
  simp only [Bool.and_eq_true, decide_eq_true_eq] at h
  exact h.2.2.2.1
theorem on_vld {p a b : Pt} (h : onR p a b = true) : vld p = true := by
  unfold onR at h
  simp only [Bool.and_eq_true] at h
  exact h.1
theorem seg_on {a b c p : Pt} (va : vld a = true) (vb : vld b = true) (vp : vld p = true) (hD : 0 < det a b c) :
    onR p a b = true ↔ det a b p = 0 ∧ 0 ≤ det b c p ∧ 0 ≤ det c a p := by
  constructor
  · intro h; exact ⟨on_det h, (seg_iff va vb vp hD (on_det h)).1 h⟩
  · intro ⟨h, k⟩; exact (seg_iff va vb vp hD h).2 k
/-- How many edges have the point on their inside. -/
def cntN (T : Tri3) (p : Pt) : Nat → Int
  | 0 => 0
  | k + 1 => cntN T p k + (if 0 < ori (crn T k) (crn T (k + 1)) p then 1 else 0)
/-- How many edges have the point on them. -/
def cntS (T : Tri3) (p : Pt) : Nat → Int
  | 0 => 0
  | k + 1 => cntS T p k + (if onR p (crn T k) (crn T (k + 1)) = true then 1 else 0)
/-- How many edges make a triangle with the point. -/
def cntP (T : Tri3) (p : Pt) : Nat → Int
  | 0 => 0
  | k + 1 => cntP T p k + (if ori (crn T k) (crn T (k + 1)) p = 0 then 0 else 1)
def sumP (T : Tri3) (p : Pt) : Nat → Int
  | 0 => 0
  | k + 1 => sumP T p k + (if ori (crn T k) (crn T (k + 1)) p = 0 then 0 else twi (mk (crn T k) (crn T (k + 1)) p))
theorem cntN_bd (T : Tri3) (p : Pt) (k : Nat) : 0 ≤ cntN T p k ∧ cntN T p k ≤ k := by
  induction k with
  | zero => exact ⟨Int.le_refl 0, Int.le_refl 0⟩
  | succ k ih => unfold cntN; split <;> omega
theorem cntS_bd (T : Tri3) (p : Pt) (k : Nat) : 0 ≤ cntS T p k ∧ cntS T p k ≤ k := by
  induction k with
  | zero => exact ⟨Int.le_refl 0, Int.le_refl 0⟩
  | succ k ih => unfold cntS; split <;> omega
theorem cntP_bd (T : Tri3) (p : Pt) (k : Nat) : 0 ≤ cntP T p k ∧ cntP T p k ≤ k := by
  induction k with
  | zero => exact ⟨Int.le_refl 0, Int.le_refl 0⟩
  | succ k ih => unfold cntP; split <;> omega
theorem det_bd {a b c : Pt} (ha : vld a = true) (hb : vld b = true) (hc : vld c = true) : -562949886312450 ≤ det a b c ∧ det a b c ≤ 562949886312450 := by
  have := cr_bd (way_sm ha hb) (way_sm ha hc)
  exact this
theorem twi_bd (T : Tri3) : 0 ≤ twi T ∧ twi T ≤ 562949886312450 := by
  unfold twi
  split
  · rename_i h
    obtain ⟨va, vb, vc, hD⟩ := tri_signs h
    have := det_bd va vb vc
    omega
  · omega
theorem sumP_bd (T : Tri3) (p : Pt) (k : Nat) : 0 ≤ sumP T p k ∧ sumP T p k ≤ k * 562949886312450 := by
  induction k with
  | zero => exact ⟨Int.le_refl 0, by simp [sumP]⟩
  | succ k ih =>
    have := twi_bd (mk (crn T k) (crn T (k + 1)) p)
    unfold sumP; split <;> omega
theorem crns (T : Tri3) : crn T 0 = T.A ∧ crn T 1 = T.B ∧ crn T 2 = T.C ∧ crn T 3 = T.A := ⟨rfl, rfl, rfl, rfl⟩
theorem cntN3 (T : Tri3) (p : Pt) : cntN T p 3 = (if 0 < ori T.A T.B p then 1 else 0) + (if 0 < ori T.B T.C p then 1 else 0) + (if 0 < ori T.C T.A p then 1 else 0) := by
  show 0 + _ + _ + _ = _
  rw [Int.zero_add]; rfl
theorem cntS3 (T : Tri3) (p : Pt) : cntS T p 3 = (if onR p T.A T.B = true then 1 else 0) + (if onR p T.B T.C = true then 1 else 0) + (if onR p T.C T.A = true then 1 else 0) := by
  show 0 + _ + _ + _ = _
  rw [Int.zero_add]; rfl
theorem cntP3 (T : Tri3) (p : Pt) : cntP T p 3 = (if ori T.A T.B p = 0 then 0 else 1) + (if ori T.B T.C p = 0 then 0 else 1) + (if ori T.C T.A p = 0 then 0 else 1) := by
  show 0 + _ + _ + _ = _
  rw [Int.zero_add]; rfl
theorem sumP3 (T : Tri3) (p : Pt) : sumP T p 3 = (if ori T.A T.B p = 0 then 0 else twi (mk T.A T.B p)) + (if ori T.B T.C p = 0 then 0 else twi (mk T.B T.C p)) + (if ori T.C T.A p = 0 then 0 else twi (mk T.C T.A p)) := by
  show 0 + _ + _ + _ = _
  rw [Int.zero_add]; rfl
theorem ori_sg {a b p : Pt} (va : vld a = true) (vb : vld b = true) (vp : vld p = true) : (0 < ori a b p ↔ 0 < det a b p) ∧ (0 ≤ ori a b p ↔ 0 ≤ det a b p) ∧ (ori a b p = 0 ↔ det a b p = 0) := by
  rw [ori_v va vb vp]
  have := sgn_cases (det a b p)
  omega
theorem twi_mk {x y z : Pt} (h : ori x y z = 1) : twi (mk x y z) = det x y z := by
  have h0 : ¬ ori x y z = 0 := by omega
  obtain ⟨va, vb, vc, n1, n2, n3⟩ := mk_keys h0
  have e0 : mk x y z = mkT x y z := by unfold mk; rw [if_neg h0, if_pos h]
  unfold twi
  rw [if_pos (mk_ok h0).1, e0]
  rcases mkT_rot va vb vc n1 n2 n3 with ⟨_, _, e⟩ | ⟨_, _, e⟩ | ⟨_, _, e⟩ <;> rw [e] <;> simp only
  · rw [det_cyc]
  · rw [det_cyc, det_cyc]
end Go.Proofs.Ytnocdecimcpkfaa
