/- Put together: ExI. -/
import Derived.Test.YtnocdecimcpkfaaRows
import Derived.Test.YtnocdecimcpkfaaPut3
import Derived.Test.YtnocdecimcpkfaaPut1
import Derived.Test.YtnocdecimcpkfaaPut5
import Derived.WalkKit
import Derived.WalkSpells
import Derived.WalkLawsBesides
import Derived.Laws.Externs
import Derived.Deep.QuietTactic
import Derived.BigQuiet
import Derived.Lib.Hide
import Derived.Handy
namespace Go.Proofs.Ytnocdecimcpkfaa
open Go.RowKit Go.Sort
attribute [local go_sem] rOper rAt rUpon cell_set sg_i64 sg_u64 alloc_cell alloc_frozen
attribute [local go_sem 10000] pt_eql pt_neq
attribute [local irreducible] rWalk

theorem meet_any (a b c d : Pt) (w : World) :
    Calls Try.prog 73 #[.agg #[.int .i64 a.x, .int .i64 a.y], .agg #[.int .i64 b.x, .int .i64 b.y], .agg #[.int .i64 c.x, .int .i64 c.y], .agg #[.int .i64 d.x, .int .i64 d.y]] w fun e w' => e = .returned (.int .i64 (meetS a b c d)) ∧ Below w.heap.size w w' := by
  cases ha : vld a with
  | false => rw [show meetS a b c d = 0 by unfold meetS; rw [if_pos ha]]; exact meet_v0 a b c d ha w
  | true =>
  have n_ha : ¬ vld a = false := by rw [ha]; simp
  cases hb : vld b with
  | false => rw [show meetS a b c d = 0 by unfold meetS; rw [if_neg n_ha, if_pos hb]]; exact meet_v1 a b c d ha hb w
  | true =>
  have n_hb : ¬ vld b = false := by rw [hb]; simp
  cases hc : vld c with
  | false => rw [show meetS a b c d = 0 by unfold meetS; rw [if_neg n_ha, if_neg n_hb, if_pos hc]]; exact meet_v2 a b c d ha hb hc w
  | true =>
  have n_hc : ¬ vld c = false := by rw [hc]; simp
  cases hd : vld d with
  | false => rw [show meetS a b c d = 0 by unfold meetS; rw [if_neg n_ha, if_neg n_hb, if_neg n_hc, if_pos hd]]; exact meet_v3 a b c d ha hb hc hd w
  | true =>
  have n_hd : ¬ vld d = false := by rw [hd]; simp
  cases e1 : peqI a.x a.y b.x b.y with
  | true => rw [show meetS a b c d = 0 by unfold meetS; rw [if_neg n_ha, if_neg n_hb, if_neg n_hc, if_neg n_hd, if_pos e1]]; exact meet_e1 a b c d ha hb hc hd e1 w
  | false =>
  have n_e1 : ¬ peqI a.x a.y b.x b.y = true := by rw [e1]; simp
  cases e2 : peqI c.x c.y d.x d.y with
  | true => rw [show meetS a b c d = 0 by unfold meetS; rw [if_neg n_ha, if_neg n_hb, if_neg n_hc, if_neg n_hd, if_neg n_e1, if_pos e2]]; exact meet_e2 a b c d ha hb hc hd e1 e2 w
  | false =>
  have n_e2 : ¬ peqI c.x c.y d.x d.y = true := by rw [e2]; simp
  by_cases z1 : ori a b c = 0
  · by_cases z2 : ori a b d = 0
    · rw [show meetS a b c d = mil a b c d by unfold meetS; rw [if_neg n_ha, if_neg n_hb, if_neg n_hc, if_neg n_hd, if_neg n_e1, if_neg n_e2, if_pos ⟨z1, z2⟩]]; exact meet_l a b c d ha hb hc hd e1 e2 z1 z2 w
    · have nz : ¬ (ori a b c = 0 ∧ ori a b d = 0) := fun h => z2 h.2
      cases q1 : peqI a.x a.y c.x c.y with
      | true => rw [show meetS a b c d = 0 by unfold meetS; rw [if_neg n_ha, if_neg n_hb, if_neg n_hc, if_neg n_hd, if_neg n_e1, if_neg n_e2, if_neg nz, if_pos q1]]; exact meet_z0 a b c d ha hb hc hd e1 e2 z1 z2 q1 w
      | false =>
      have k1 : ¬ peqI a.x a.y c.x c.y = true := by rw [q1]; simp
      cases q2 : peqI a.x a.y d.x d.y with
      | true => rw [show meetS a b c d = 0 by unfold meetS; rw [if_neg n_ha, if_neg n_hb, if_neg n_hc, if_neg n_hd, if_neg n_e1, if_neg n_e2, if_neg nz, if_neg k1, if_pos q2]]; exact meet_z1 a b c d ha hb hc hd e1 e2 z1 z2 q1 q2 w
      | false =>
      have k2 : ¬ peqI a.x a.y d.x d.y = true := by rw [q2]; simp
      cases q3 : peqI b.x b.y c.x c.y with
      | true => rw [show meetS a b c d = 0 by unfold meetS; rw [if_neg n_ha, if_neg n_hb, if_neg n_hc, if_neg n_hd, if_neg n_e1, if_neg n_e2, if_neg nz, if_neg k1, if_neg k2, if_pos q3]]; exact meet_z2 a b c d ha hb hc hd e1 e2 z1 z2 q1 q2 q3 w
      | false =>
      have k3 : ¬ peqI b.x b.y c.x c.y = true := by rw [q3]; simp
      cases q4 : peqI b.x b.y d.x d.y with
      | true => rw [show meetS a b c d = 0 by unfold meetS; rw [if_neg n_ha, if_neg n_hb, if_neg n_hc, if_neg n_hd, if_neg n_e1, if_neg n_e2, if_neg nz, if_neg k1, if_neg k2, if_neg k3, if_pos q4]]; exact meet_z3 a b c d ha hb hc hd e1 e2 z1 z2 q1 q2 q3 q4 w
      | false =>
      have k4 : ¬ peqI b.x b.y d.x d.y = true := by rw [q4]; simp
      rw [show meetS a b c d = fin (ori c d a) (ori c d b) (ori a b c) (ori a b d) by unfold meetS; rw [if_neg n_ha, if_neg n_hb, if_neg n_hc, if_neg n_hd, if_neg n_e1, if_neg n_e2, if_neg nz, if_neg k1, if_neg k2, if_neg k3, if_neg k4]]
      rw [z1]
      exact meet_z4 a b c d ha hb hc hd e1 e2 z1 z2 q1 q2 q3 q4 w
  · have nz : ¬ (ori a b c = 0 ∧ ori a b d = 0) := fun h => z1 h.1
    cases q1 : peqI a.x a.y c.x c.y with
    | true => rw [show meetS a b c d = 0 by unfold meetS; rw [if_neg n_ha, if_neg n_hb, if_neg n_hc, if_neg n_hd, if_neg n_e1, if_neg n_e2, if_neg nz, if_pos q1]]; exact meet_n0 a b c d ha hb hc hd e1 e2 z1 q1 w
    | false =>
    have k1 : ¬ peqI a.x a.y c.x c.y = true := by rw [q1]; simp
    cases q2 : peqI a.x a.y d.x d.y with
    | true => rw [show meetS a b c d = 0 by unfold meetS; rw [if_neg n_ha, if_neg n_hb, if_neg n_hc, if_neg n_hd, if_neg n_e1, if_neg n_e2, if_neg nz, if_neg k1, if_pos q2]]; exact meet_n1 a b c d ha hb hc hd e1 e2 z1 q1 q2 w
    | false =>
    have k2 : ¬ peqI a.x a.y d.x d.y = true := by rw [q2]; simp
    cases q3 : peqI b.x b.y c.x c.y with
    | true => rw [show meetS a b c d = 0 by unfold meetS; rw [if_neg n_ha, if_neg n_hb, if_neg n_hc, if_neg n_hd, if_neg n_e1, if_neg n_e2, if_neg nz, if_neg k1, if_neg k2, if_pos q3]]; exact meet_n2 a b c d ha hb hc hd e1 e2 z1 q1 q2 q3 w
    | false =>
    have k3 : ¬ peqI b.x b.y c.x c.y = true := by rw [q3]; simp
    cases q4 : peqI b.x b.y d.x d.y with
    | true => rw [show meetS a b c d = 0 by unfold meetS; rw [if_neg n_ha, if_neg n_hb, if_neg n_hc, if_neg n_hd, if_neg n_e1, if_neg n_e2, if_neg nz, if_neg k1, if_neg k2, if_neg k3, if_pos q4]]; exact meet_n3 a b c d ha hb hc hd e1 e2 z1 q1 q2 q3 q4 w
    | false =>
    have k4 : ¬ peqI b.x b.y d.x d.y = true := by rw [q4]; simp
    rw [show meetS a b c d = fin (ori c d a) (ori c d b) (ori a b c) (ori a b d) by unfold meetS; rw [if_neg n_ha, if_neg n_hb, if_neg n_hc, if_neg n_hd, if_neg n_e1, if_neg n_e2, if_neg nz, if_neg k1, if_neg k2, if_neg k3, if_neg k4]]
    exact meet_n4 a b c d ha hb hc hd e1 e2 z1 q1 q2 q3 q4 w
theorem rvalid_any (p : Pt) (w : World) :
    Calls Try.prog 29 #[.agg #[.int .i64 p.x, .int .i64 p.y]] w fun e w' => e = .returned (.bool (vld p)) ∧ Below w.heap.size w w' := by
  have Hv := Lib.hid (show vld p = (inG p.x && inG p.y) from rfl)
  go_enter Try.func29, Try.ntmps29
  go_wp2
  all_goals go_ret
  all_goals exact ⟨ret_bool (by rw [Hv.out, Bool.eq_iff_iff]; simp [inG]; omega), by go_grown⟩
theorem rcmp_pt (p q : Pt) (w : World) :
    Calls Try.prog 52 #[.agg #[.int .i64 p.x, .int .i64 p.y], .agg #[.int .i64 q.x, .int .i64 q.y]] w fun e w' => e = .returned (.int .i64 (cmpP p q)) ∧ Below w.heap.size w w' := by
  have H : Hid (∀ n : Int, (n = -1 ∧ (p.x < q.x ∨ p.x = q.x ∧ p.y < q.y) ∨ n = 0 ∧ p.x = q.x ∧ p.y = q.y ∨ n = 1 ∧ (q.x < p.x ∨ p.x = q.x ∧ q.y < p.y)) → n = cmpP p q) := Lib.hid (fun n h => by
    unfold cmpP cmpN sgn
    (repeat' split) <;> omega)
  rcases Int.lt_trichotomy p.x q.x with h | h | h
  · go_enter Try.func52, Try.ntmps52
    go_wp2
    go_ret
    exact ⟨ret_int (H.out _ (by omega)), by go_grown⟩
  · rcases Int.lt_trichotomy p.y q.y with k | k | k
    all_goals have e1 : (p.x == q.x) = true := by simpa using h
    all_goals have e2 : decide (p.x < q.x) = false := by simp; omega
    · have e3 : decide (p.y < q.y) = true := by simpa using k
      go_enter Try.func52, Try.ntmps52
      have h' := Lib.hid h; clear h
      go_wp2
      go_ret
      exact ⟨ret_int (H.out _ (by have := h'.out; omega)), by go_grown⟩
    · have e3 : decide (p.y < q.y) = false := by simp; omega
      have e4 : peqI p.x p.y q.x q.y = true := by rw [peqI_iff]; exact ⟨h, k⟩
      have h' := Lib.hid h; clear h
      have k' := Lib.hid k; clear k
      go_enter Try.func52, Try.ntmps52
      go_wp2
      go_ret
      exact ⟨ret_int (H.out _ (by have := h'.out; have := k'.out; omega)), by go_grown⟩
    · have e3 : decide (p.y < q.y) = false := by simp; omega
      have e4 : peqI p.x p.y q.x q.y = false := by rw [← Bool.not_eq_true, peqI_iff]; omega
      have h' := Lib.hid h; clear h
      go_enter Try.func52, Try.ntmps52
      go_wp2
      go_ret
      exact ⟨ret_int (H.out _ (by have := h'.out; omega)), by go_grown⟩
  · have e1 : (p.x == q.x) = false := by simp; omega
    have e2 : decide (p.x < q.x) = false := by simp; omega
    have e4 : peqI p.x p.y q.x q.y = false := by rw [← Bool.not_eq_true, peqI_iff]; omega
    go_enter Try.func52, Try.ntmps52
    go_wp2
    go_ret
    exact ⟨ret_int (H.out _ (by omega)), by go_grown⟩
theorem rsign_any (n : Int) (w : World) :
    Calls Try.prog 54 #[.int .i64 n] w fun e w' => e = .returned (.int .i64 (sgn n)) ∧ w = w' := by
  go_enter Try.func54, Try.ntmps54
  go_wp2
  all_goals go_ret
  all_goals exact ⟨ret_int (by unfold sgn; (repeat' split) <;> omega), rfl⟩
theorem rtwice_any (a b c : Pt) (ha : vld a = true) (hb : vld b = true) (hc : vld c = true) (w : World) :
    Calls Try.prog 69 #[.agg #[.int .i64 a.x, .int .i64 a.y], .agg #[.int .i64 b.x, .int .i64 b.y], .agg #[.int .i64 c.x, .int .i64 c.y]] w fun e w' => e = .returned (.int .i64 (det a b c)) ∧ Below w.heap.size w w' := by
  have s1 := way_sm ha hb
  have s2 := way_sm ha hc
  have h1 := mul_sm s1.1 s2.2
  have h2 := mul_sm s1.2 s2.1
  have e : wrap64 (wrap64 (wrap64 (b.x - a.x) * wrap64 (c.y - a.y)) - wrap64 (wrap64 (b.y - a.y) * wrap64 (c.x - a.x))) = det a b c := by
    rw [vld_iff] at ha hb hc
    rw [show wrap64 (b.x - a.x) = (way a b).x by rw [w64]; unfold way; simp only; omega, show wrap64 (c.y - a.y) = (way a c).y by rw [w64]; unfold way; simp only; omega, show wrap64 (b.y - a.y) = (way a b).y by rw [w64]; unfold way; simp only; omega, show wrap64 (c.x - a.x) = (way a c).x by rw [w64]; unfold way; simp only; omega]
    show _ = (way a b).x * (way a c).y - (way a b).y * (way a c).x
    generalize (way a b).x * (way a c).y = p at *
    generalize (way a b).y * (way a c).x = q at *
    simp only [w64]; omega
  have E := Lib.hid e; clear e h1 h2 s1 s2 ha hb hc
  go_enter Try.func69, Try.ntmps69
  go_wp2
  go_ret
  exact ⟨ret_int (by simpa using E.out), by go_grown⟩
end Go.Proofs.Ytnocdecimcpkfaa
