/- The contract of exact.Meet, whole; and the document's own Valid, order, sides and On. -/
import Derived.Test.YtijdbddjhnjcdaaRows
import Derived.Test.YtijdbddjhnjcdaaExD
import Derived.Test.YtijdbddjhnjcdaaPost
import Derived.Test.YtijdbddjhnjcdaaExH
import Derived.WalkKit
import Derived.WalkSpells
import Derived.WalkLawsBesides
import Derived.Laws.Externs
import Derived.Deep.QuietTactic
import Derived.BigQuiet
import Derived.Lib.Hide
import Derived.Handy
namespace Go.Proofs.Ytijdbddjhnjcdaa
open Go.RowKit Go.Sort
attribute [local go_sem] rOper rAt rUpon cell_set sg_i64 sg_u64 alloc_cell alloc_frozen
attribute [local go_sem 10000] pt_eql pt_neq
attribute [local irreducible] rWalk

theorem rvalid_any (p : Pt) (w : World) :
    Calls Try.prog 18 #[.agg #[.int .i64 p.x, .int .i64 p.y]] w fun e w' => e = .returned (.bool (vld p)) ∧ Below w.heap.size w w' := by
  have Hv := Lib.hid (show vld p = (inG p.x && inG p.y) from rfl)
  go_enter Try.func18, Try.ntmps18
  go_wp2
  all_goals go_ret
  all_goals exact ⟨ret_bool (by rw [Hv.out, Bool.eq_iff_iff]; simp [inG]; omega), by go_grown⟩
theorem rcmp_pt (p q : Pt) (w : World) :
    Calls Try.prog 22 #[.agg #[.int .i64 p.x, .int .i64 p.y], .agg #[.int .i64 q.x, .int .i64 q.y]] w fun e w' => e = .returned (.int .i64 (cmpP p q)) ∧ Below w.heap.size w w' := by
  have H : Hid (∀ n : Int, (n = -1 ∧ (p.x < q.x ∨ p.x = q.x ∧ p.y < q.y) ∨ n = 0 ∧ p.x = q.x ∧ p.y = q.y ∨ n = 1 ∧ (q.x < p.x ∨ p.x = q.x ∧ q.y < p.y)) → n = cmpP p q) := Lib.hid (fun n h => by
    unfold cmpP cmpN sgn
    (repeat' split) <;> omega)
  rcases Int.lt_trichotomy p.x q.x with h | h | h
  · go_enter Try.func22, Try.ntmps22
    go_wp2
    go_ret
    exact ⟨ret_int (H.out _ (by omega)), by go_grown⟩
  · rcases Int.lt_trichotomy p.y q.y with k | k | k
    all_goals have e1 : (p.x == q.x) = true := by simpa using h
    all_goals have e2 : decide (p.x < q.x) = false := by simp; omega
    · have e3 : decide (p.y < q.y) = true := by simpa using k
      go_enter Try.func22, Try.ntmps22
      have h' := Lib.hid h; clear h
      go_wp2
      go_ret
      exact ⟨ret_int (H.out _ (by have := h'.out; omega)), by go_grown⟩
    · have e3 : decide (p.y < q.y) = false := by simp; omega
      have e4 : peqI p.x p.y q.x q.y = true := by rw [peqI_iff]; exact ⟨h, k⟩
      have h' := Lib.hid h; clear h
      have k' := Lib.hid k; clear k
      go_enter Try.func22, Try.ntmps22
      go_wp2
      go_ret
      exact ⟨ret_int (H.out _ (by have := h'.out; have := k'.out; omega)), by go_grown⟩
    · have e3 : decide (p.y < q.y) = false := by simp; omega
      have e4 : peqI p.x p.y q.x q.y = false := by rw [← Bool.not_eq_true, peqI_iff]; omega
      have h' := Lib.hid h; clear h
      go_enter Try.func22, Try.ntmps22
      go_wp2
      go_ret
      exact ⟨ret_int (H.out _ (by have := h'.out; omega)), by go_grown⟩
  · have e1 : (p.x == q.x) = false := by simp; omega
    have e2 : decide (p.x < q.x) = false := by simp; omega
    have e4 : peqI p.x p.y q.x q.y = false := by rw [← Bool.not_eq_true, peqI_iff]; omega
    go_enter Try.func22, Try.ntmps22
    go_wp2
    go_ret
    exact ⟨ret_int (H.out _ (by omega)), by go_grown⟩
theorem rsign_any (n : Int) (w : World) :
    Calls Try.prog 19 #[.int .i64 n] w fun e w' => e = .returned (.int .i64 (sgn n)) ∧ w = w' := by
  go_enter Try.func19, Try.ntmps19
  go_wp2
  all_goals go_ret
  all_goals exact ⟨ret_int (by unfold sgn; (repeat' split) <;> omega), rfl⟩
theorem rtwice_any (a b c : Pt) (ha : vld a = true) (hb : vld b = true) (hc : vld c = true) (w : World) :
    Calls Try.prog 20 #[.agg #[.int .i64 a.x, .int .i64 a.y], .agg #[.int .i64 b.x, .int .i64 b.y], .agg #[.int .i64 c.x, .int .i64 c.y]] w fun e w' => e = .returned (.int .i64 (det a b c)) ∧ Below w.heap.size w w' := by
  have s1 := way_sm ha hb
  have s2 := way_sm ha hc
  have h1 := mul_sm s1.1 s2.2
  have h2 := mul_sm s1.2 s2.1
  have e : wrap64 (wrap64 (wrap64 (b.x - a.x) * wrap64 (c.y - a.y)) - wrap64 (wrap64 (b.y - a.y) * wrap64 (c.x - a.x))) = det a b c := by
    rw [vld_iff] at ha hb hc
    rw [show wrap64 (b.x - a.x) = (way a b).x by rw [w64]; unfold way; simp only; omega, show wrap64 (c.y - a.y) = (way a c).y by rw [w64]; unfold way; simp only; omega, show wrap64 (b.y - a.y) = (way a b).y by rw [w64]; unfold way; simp only; omega, show wrap64 (c.x - a.x) = (way a c).x by rw [w64]; unfold way; simp only; omega]
    show _ = (way a b).x * (way a c).y - (way a b).y * (way a c).x
    generalize (way a b).x * (way a c).y = p at *
    generalize (way a b).y * (way a c).x = q at *
    simp only [w64]; omega
  have E := Lib.hid e; clear e h1 h2 s1 s2 ha hb hc
  go_enter Try.func20, Try.ntmps20
  go_wp2
  go_ret
  exact ⟨ret_int (by simpa using E.out), by go_grown⟩
end Go.Proofs.Ytijdbddjhnjcdaa
