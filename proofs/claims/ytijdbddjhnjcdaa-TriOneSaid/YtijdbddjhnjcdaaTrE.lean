/- Package tri's Make is the document's own; the order of triangles. -/
import Derived.Test.YtijdbddjhnjcdaaRows
import Derived.Test.YtijdbddjhnjcdaaTrD
import Derived.Test.YtijdbddjhnjcdaaPost
import Derived.WalkKit
import Derived.WalkSpells
import Derived.WalkLawsBesides
import Derived.Laws.Externs
import Derived.Deep.QuietTactic
import Derived.BigQuiet
import Derived.Lib.Hide
import Derived.Handy
namespace Go.Proofs.Ytijdbddjhnjcdaa
open Go.RowKit Go.Sort
attribute [local go_sem] rOper rAt rUpon cell_set sg_i64 sg_u64 alloc_cell alloc_frozen
attribute [local go_sem 10000] pt_eql pt_neq
attribute [local irreducible] rWalk

theorem leq_iff {p q : Pt} : leq p q = true ↔ p.x < q.x ∨ (p.x = q.x ∧ p.y ≤ q.y) := by
  unfold leq cmpP cmpN sgn
  rw [decide_eq_true_eq]
  (repeat' split) <;> omega
theorem lds_iff {T : Tri3} : lds T = true ↔ (T.A.x < T.B.x ∨ (T.A.x = T.B.x ∧ T.A.y ≤ T.B.y)) ∧ (T.A.x < T.C.x ∨ (T.A.x = T.C.x ∧ T.A.y ≤ T.C.y)) := by
  unfold lds; rw [Bool.and_eq_true, leq_iff, leq_iff]
theorem lead_some (a b c : Pt) (h1 : lds ⟨a, b, c⟩ = false) (h2 : lds ⟨b, c, a⟩ = false) : lds ⟨c, a, b⟩ = true := by
  rw [← Bool.not_eq_true, lds_iff] at h1 h2
  rw [lds_iff]
  simp only at h1 h2 ⊢
  omega
theorem mkT_cyc {x y z : Pt} (hx : vld x = true) (hy : vld y = true) (hz : vld z = true) (n1 : key x ≠ key y) (n2 : key x ≠ key z) (n3 : key y ≠ key z) : mkT y z x = mkT x y z := by
  rcases mkT_rot hx hy hz n1 n2 n3 with ⟨u1, u2, e⟩ | ⟨u1, u2, e⟩ | ⟨u1, u2, e⟩ <;> rcases mkT_rot hy hz hx n3 n1.symm n2.symm with ⟨v1, v2, f⟩ | ⟨v1, v2, f⟩ | ⟨v1, v2, f⟩ <;> first | (exfalso; omega) | rw [e, f]
theorem mk_none {a b c : Pt} (h : ori a b c = 0) : mk a b c = ⟨⟨0, 0⟩, ⟨0, 0⟩, ⟨0, 0⟩⟩ := by unfold mk; rw [if_pos h]
theorem mk_keys {a b c : Pt} (h0 : ¬ ori a b c = 0) : vld a = true ∧ vld b = true ∧ vld c = true ∧ key a ≠ key b ∧ key a ≠ key c ∧ key b ≠ key c := by
  obtain ⟨va, vb, vc⟩ := ori_vld h0
  obtain ⟨d1, d2, d3⟩ := ori_distinct h0
  exact ⟨va, vb, vc, fun h => d1 (key_inj va vb h).symm, fun h => d2 (key_inj va vc h).symm, fun h => d3 (key_inj vb vc h).symm⟩
theorem mk_cyc (a b c : Pt) : mk b c a = mk a b c := by
  by_cases h0 : ori a b c = 0
  · rw [mk_none h0, mk_none (by rw [ori_cyc]; exact h0)]
  · obtain ⟨va, vb, vc, n1, n2, n3⟩ := mk_keys h0
    unfold mk
    rw [ori_cyc, if_neg h0, if_neg h0, mkT_cyc va vb vc n1 n2 n3, mkT_cyc vb va vc n1.symm n3 n2]
theorem mk_swap (a b c : Pt) : mk a c b = mk a b c := by
  have hb := ori_bd a b c
  unfold mk
  rw [ori_swap2]
  by_cases h0 : ori a b c = 0
  · simp [h0]
  · rw [if_neg h0, if_neg (by omega)]
    by_cases h1 : ori a b c = 1
    · rw [if_pos h1, if_neg (by omega)]
    · rw [if_neg h1, if_pos (by omega)]
theorem val_mk {x y z : Pt} (h : valT ⟨x, y, z⟩ = true) : mk x y z = ⟨x, y, z⟩ := by
  unfold valT at h
  simp only [Bool.and_eq_true, teq_iff] at h
  exact h.2
theorem val_of {x y z : Pt} (ho : 0 < ori x y z) (hl : lds ⟨x, y, z⟩ = true) : valT ⟨x, y, z⟩ = true := by
  rw [val_eq]; unfold valS; simp [ho, hl]
theorem val_none {x y z : Pt} (ho : ori x y z = 0) : valT ⟨x, y, z⟩ = false := by
  rw [val_eq]; unfold valS; simp [ho]
theorem lds_swap {x y z : Pt} (hl : lds ⟨x, y, z⟩ = true) : lds ⟨x, z, y⟩ = true := by
  unfold lds at hl ⊢; simp only at hl ⊢; rw [Bool.and_comm]; exact hl
theorem ori_swap2' (x y z : Pt) : ori x z y = -ori x y z := ori_swap2 x y z
theorem tmake_any (a b c : Pt) (w : World) :
    Calls Try.prog 4 #[.agg #[.int .i64 a.x, .int .i64 a.y], .agg #[.int .i64 b.x, .int .i64 b.y], .agg #[.int .i64 c.x, .int .i64 c.y]] w fun e w' => e = .returned (.tuple #[.agg #[.int .i64 (mk a b c).A.x, .int .i64 (mk a b c).A.y, .int .i64 (mk a b c).B.x, .int .i64 (mk a b c).B.y, .int .i64 (mk a b c).C.x, .int .i64 (mk a b c).C.y], .bool (!decide (ori a b c = 0))]) ∧ Below w.heap.size w w' := by
  have main : ∀ {x y z : Pt}, ori x y z = ori a b c → mk x y z = mk a b c → lds ⟨x, y, z⟩ = true →
      (ori x y z = 0 ∧ decide (ori x y z < 0) = false ∧ valT ⟨x, y, z⟩ = false ∧ mk a b c = ⟨⟨0, 0⟩, ⟨0, 0⟩, ⟨0, 0⟩⟩ ∧ (!decide (ori a b c = 0)) = false) ∨
      (decide (ori x y z < 0) = false ∧ valT ⟨x, y, z⟩ = true ∧ mk a b c = ⟨x, y, z⟩ ∧ (!decide (ori a b c = 0)) = true) ∨
      (decide (ori x y z < 0) = true ∧ valT ⟨x, z, y⟩ = true ∧ mk a b c = ⟨x, z, y⟩ ∧ (!decide (ori a b c = 0)) = true) := by
    intro x y z e1 e2 hl
    by_cases h0 : ori x y z = 0
    · left
      exact ⟨h0, by simp [h0], val_none h0, by rw [← e2]; exact mk_none h0, by rw [← e1]; simp [h0]⟩
    · right
      by_cases h1 : ori x y z < 0
      · right
        have hv : valT ⟨x, z, y⟩ = true := val_of (by rw [ori_swap2']; omega) (lds_swap hl)
        exact ⟨by simp [h1], hv, by rw [← e2, ← mk_swap]; exact val_mk hv, by rw [← e1]; simp [h0]⟩
      · left
        have hv : valT ⟨x, y, z⟩ = true := val_of (by omega) hl
        exact ⟨by simp; omega, hv, by rw [← e2]; exact val_mk hv, by rw [← e1]; simp [h0]⟩
  cases l0 : lds ⟨a, b, c⟩ with
  | true =>
    rcases main (x := a) (y := b) (z := c) rfl rfl l0 with ⟨_, p, q, e, f⟩ | ⟨p, q, e, f⟩ | ⟨p, q, e, f⟩ <;> rw [e, f]
    · exact tmake_z0 a b c l0 p q w
    · exact tmake_p0 a b c l0 p q w
    · exact tmake_n0 a b c l0 p q w
  | false => cases l1 : lds ⟨b, c, a⟩ with
    | true =>
      rcases main (x := b) (y := c) (z := a) (ori_cyc a b c) (mk_cyc a b c) l1 with ⟨_, p, q, e, f⟩ | ⟨p, q, e, f⟩ | ⟨p, q, e, f⟩ <;> rw [e, f]
      · exact tmake_z1 a b c l0 l1 p q w
      · exact tmake_p1 a b c l0 l1 p q w
      · exact tmake_n1 a b c l0 l1 p q w
    | false =>
      have l2 := lead_some a b c l0 l1
      rcases main (x := c) (y := a) (z := b) (by rw [ori_cyc, ori_cyc]) (by rw [mk_cyc, mk_cyc]) l2 with ⟨_, p, q, e, f⟩ | ⟨p, q, e, f⟩ | ⟨p, q, e, f⟩ <;> rw [e, f]
      · exact tmake_z2 a b c l0 l1 l2 p q w
      · exact tmake_p2 a b c l0 l1 l2 p q w
      · exact tmake_n2 a b c l0 l1 l2 p q w
end Go.Proofs.Ytijdbddjhnjcdaa
