/- Plain mathematics of a triangle and a point: on which sides of its edges it lies, at which corner, on which edge. -/
import Derived.Test.YtijdbddjhnjcdaaTrE
namespace Go.Proofs.Ytijdbddjhnjcdaa
open Go.RowKit
theorem mk_ok {a b c : Pt} (h0 : ¬ ori a b c = 0) : valT (mk a b c) = true ∧
    (mk a b c = ⟨a, b, c⟩ ∨ mk a b c = ⟨b, c, a⟩ ∨ mk a b c = ⟨c, a, b⟩ ∨ mk a b c = ⟨a, c, b⟩ ∨ mk a b c = ⟨c, b, a⟩ ∨ mk a b c = ⟨b, a, c⟩) := by
  obtain ⟨va, vb, vc, n1, n2, n3⟩ := mk_keys h0
  have hb := ori_bd a b c
  rw [val_eq]; unfold valS lds
  by_cases h1 : ori a b c = 1
  · have e0 : mk a b c = mkT a b c := by unfold mk; rw [if_neg h0, if_pos h1]
    rw [e0]
    rcases mkT_rot va vb vc n1 n2 n3 with ⟨x1, x2, e⟩ | ⟨x1, x2, e⟩ | ⟨x1, x2, e⟩ <;> rw [e] <;> simp only
    · rw [leq_key va vb, leq_key va vc]; refine ⟨?_, by simp⟩; simp only [Bool.and_eq_true, decide_eq_true_eq]; omega
    · rw [ori_cyc, leq_key vb vc, leq_key vb va]; refine ⟨?_, by simp⟩; simp only [Bool.and_eq_true, decide_eq_true_eq]; omega
    · rw [ori_cyc, ori_cyc, leq_key vc va, leq_key vc vb]; refine ⟨?_, by simp⟩; simp only [Bool.and_eq_true, decide_eq_true_eq]; omega
  · have e0 : mk a b c = mkT a c b := by unfold mk; rw [if_neg h0, if_neg h1]
    have h2 : ori a c b = 1 := by rw [ori_swap2]; omega
    rw [e0]
    rcases mkT_rot va vc vb n2 n1 n3.symm with ⟨x1, x2, e⟩ | ⟨x1, x2, e⟩ | ⟨x1, x2, e⟩ <;> rw [e] <;> simp only
    · rw [leq_key va vb, leq_key va vc]; refine ⟨?_, by simp⟩; simp only [Bool.and_eq_true, decide_eq_true_eq]; omega
    · rw [ori_cyc, leq_key vc vb, leq_key vc va]; refine ⟨?_, by simp⟩; simp only [Bool.and_eq_true, decide_eq_true_eq]; omega
    · rw [ori_cyc, ori_cyc, leq_key vb va, leq_key vb vc]; refine ⟨?_, by simp⟩; simp only [Bool.and_eq_true, decide_eq_true_eq]; omega
theorem mk_corners {a b c : Pt} (h0 : ¬ ori a b c = 0) (p : Pt) : (p = a ∨ p = b ∨ p = c) ↔ (p = (mk a b c).A ∨ p = (mk a b c).B ∨ p = (mk a b c).C) := by
  obtain ⟨_, e | e | e | e | e | e⟩ := mk_ok h0 <;> rw [e] <;> simp only <;> constructor <;> rintro (h | h | h) <;> simp [h]
theorem tri_signs {T : Tri3} (h : valT T = true) : vld T.A = true ∧ vld T.B = true ∧ vld T.C = true ∧ 0 < det T.A T.B T.C := by
  obtain ⟨va, vb, vc⟩ := valT_vld h
  rw [val_eq] at h
  unfold valS at h
  simp only [Bool.and_eq_true, decide_eq_true_eq] at h
  have h1 := h.1
  rw [ori_v va vb vc] at h1
  have := sgn_cases (det T.A T.B T.C)
  exact ⟨va, vb, vc, by omega⟩
theorem det_sum (a b c p : Pt) : det a b p + det b c p + det c a p = det a b c := by unfold det; grind
theorem corner0 {a b c : Pt} (p : Pt) (hD : 0 < det a b c) : p = a ↔ det a b p = 0 ∧ det c a p = 0 := by
  constructor
  · intro h; subst h; constructor <;> (unfold det; grind)
  · intro ⟨h1, h2⟩
    have e1 : det a b c * (p.x - a.x) = det c a p * (b.x - a.x) + det a b p * (c.x - a.x) := by unfold det; grind
    have e2 : det a b c * (p.y - a.y) = det c a p * (b.y - a.y) + det a b p * (c.y - a.y) := by unfold det; grind
    rw [h1, h2] at e1 e2
    simp only [Int.zero_mul, Int.add_zero] at e1 e2
    rw [Pt.eq_iff]
    rcases Int.mul_eq_zero.1 e1 with h | h
    · omega
    · rcases Int.mul_eq_zero.1 e2 with h' | h'
      · omega
      · omega
theorem scale_le {E x y D : Int} (hE : 0 < E) (hD : 0 < D) (h : E * x = y * D) : 0 ≤ x ↔ 0 ≤ y := by
  have := sgn_scale hE h
  rw [sgn_p hD, Int.mul_one] at this
  have h1 := sgn_cases x
  have h2 := sgn_cases y
  omega
theorem seg_iff {a b c p : Pt} (va : vld a = true) (vb : vld b = true) (vp : vld p = true) (hD : 0 < det a b c) (h : det a b p = 0) :
    onR p a b = true ↔ 0 ≤ det b c p ∧ 0 ≤ det c a p := by
  have hab : a ≠ b := by
    intro e; subst e
    have : det a a c = 0 := by unfold det; grind
    omega
  have hE := EE_pos hab
  obtain ⟨c1, c2⟩ := coll h
  obtain ⟨c3, c4⟩ := coll2 h
  have hb := btw_k hab h
  have e1 : EE a b * det b c p = (EE a b - kk a b p) * det a b c := by
    generalize EE a b = E at *
    generalize kk a b p = k at *
    unfold det at *; grind
  have e2 : EE a b * det c a p = kk a b p * det a b c := by
    generalize EE a b = E at *
    generalize kk a b p = k at *
    unfold det at *; grind
  have s1 := scale_le hE hD e1
  have s2 := scale_le hE hD e2
  unfold onR
  rw [vp, va, vb, h, decide_eq_true rfl, Bool.true_and, Bool.true_and, Bool.true_and, Bool.true_and, hb]
  omega
theorem on_det {p a b : Pt} (h : onR p a b = true) : det a b p = 0 := by
  unfold onR at h
  simp only [Bool.and_eq_true, decide_eq_true_eq] at h
  exact h.2.2.2.1
theorem on_vld {p a b : Pt} (h : onR p a b = true) : vld p = true := by
  unfold onR at h
  simp only [Bool.and_eq_true] at h
  exact h.1
theorem seg_on {a b c p : Pt} (va : vld a = true) (vb : vld b = true) (vp : vld p = true) (hD : 0 < det a b c) :
    onR p a b = true ↔ det a b p = 0 ∧ 0 ≤ det b c p ∧ 0 ≤ det c a p := by
  constructor
  · intro h; exact ⟨on_det h, (seg_iff va vb vp hD (on_det h)).1 h⟩
  · intro ⟨h, k⟩; exact (seg_iff va vb vp hD h).2 k
/-- How many edges have the point on their inside. -/
def cntN (T : Tri3) (p : Pt) : Nat → Int
  | 0 => 0
  | k + 1 => cntN T p k + (if 0 < ori (crn T k) (crn T (k + 1)) p then 1 else 0)
/-- How many edges have the point on them. -/
def cntS (T : Tri3) (p : Pt) : Nat → Int
  | 0 => 0
  | k + 1 => cntS T p k + (if onR p (crn T k) (crn T (k + 1)) = true then 1 else 0)
/-- How many edges make a triangle with the point. -/
def cntP (T : Tri3) (p : Pt) : Nat → Int
  | 0 => 0
  | k + 1 => cntP T p k + (if ori (crn T k) (crn T (k + 1)) p = 0 then 0 else 1)
def sumP (T : Tri3) (p : Pt) : Nat → Int
  | 0 => 0
  | k + 1 => sumP T p k + (if ori (crn T k) (crn T (k + 1)) p = 0 then 0 else twi (mk (crn T k) (crn T (k + 1)) p))
theorem cntN_bd (T : Tri3) (p : Pt) (k : Nat) : 0 ≤ cntN T p k ∧ cntN T p k ≤ k := by
  induction k with
  | zero => exact ⟨Int.le_refl 0, Int.le_refl 0⟩
  | succ k ih => unfold cntN; split <;> omega
theorem cntS_bd (T : Tri3) (p : Pt) (k : Nat) : 0 ≤ cntS T p k ∧ cntS T p k ≤ k := by
  induction k with
  | zero => exact ⟨Int.le_refl 0, Int.le_refl 0⟩
  | succ k ih => unfold cntS; split <;> omega
theorem cntP_bd (T : Tri3) (p : Pt) (k : Nat) : 0 ≤ cntP T p k ∧ cntP T p k ≤ k := by
  induction k with
  | zero => exact ⟨Int.le_refl 0, Int.le_refl 0⟩
  | succ k ih => unfold cntP; split <;> omega
theorem det_bd {a b c : Pt} (ha : vld a = true) (hb : vld b = true) (hc : vld c = true) : -562949886312450 ≤ det a b c ∧ det a b c ≤ 562949886312450 := by
  have := cr_bd (way_sm ha hb) (way_sm ha hc)
  exact this
theorem twi_bd (T : Tri3) : 0 ≤ twi T ∧ twi T ≤ 562949886312450 := by
  unfold twi
  split
  · rename_i h
    obtain ⟨va, vb, vc, hD⟩ := tri_signs h
    have := det_bd va vb vc
    omega
  · omega
theorem sumP_bd (T : Tri3) (p : Pt) (k : Nat) : 0 ≤ sumP T p k ∧ sumP T p k ≤ k * 562949886312450 := by
  induction k with
  | zero => exact ⟨Int.le_refl 0, by simp [sumP]⟩
  | succ k ih =>
    have := twi_bd (mk (crn T k) (crn T (k + 1)) p)
    unfold sumP; split <;> omega
theorem crns (T : Tri3) : crn T 0 = T.A ∧ crn T 1 = T.B ∧ crn T 2 = T.C ∧ crn T 3 = T.A := ⟨rfl, rfl, rfl, rfl⟩
theorem cntN3 (T : Tri3) (p : Pt) : cntN T p 3 = (if 0 < ori T.A T.B p then 1 else 0) + (if 0 < ori T.B T.C p then 1 else 0) + (if 0 < ori T.C T.A p then 1 else 0) := by
  show 0 + _ + _ + _ = _
  rw [Int.zero_add]; rfl
theorem cntS3 (T : Tri3) (p : Pt) : cntS T p 3 = (if onR p T.A T.B = true then 1 else 0) + (if onR p T.B T.C = true then 1 else 0) + (if onR p T.C T.A = true then 1 else 0) := by
  show 0 + _ + _ + _ = _
  rw [Int.zero_add]; rfl
theorem cntP3 (T : Tri3) (p : Pt) : cntP T p 3 = (if ori T.A T.B p = 0 then 0 else 1) + (if ori T.B T.C p = 0 then 0 else 1) + (if ori T.C T.A p = 0 then 0 else 1) := by
  show 0 + _ + _ + _ = _
  rw [Int.zero_add]; rfl
theorem sumP3 (T : Tri3) (p : Pt) : sumP T p 3 = (if ori T.A T.B p = 0 then 0 else twi (mk T.A T.B p)) + (if ori T.B T.C p = 0 then 0 else twi (mk T.B T.C p)) + (if ori T.C T.A p = 0 then 0 else twi (mk T.C T.A p)) := by
  show 0 + _ + _ + _ = _
  rw [Int.zero_add]; rfl
theorem ori_sg {a b p : Pt} (va : vld a = true) (vb : vld b = true) (vp : vld p = true) : (0 < ori a b p ↔ 0 < det a b p) ∧ (0 ≤ ori a b p ↔ 0 ≤ det a b p) ∧ (ori a b p = 0 ↔ det a b p = 0) := by
  rw [ori_v va vb vp]
  have := sgn_cases (det a b p)
  omega
theorem twi_mk {x y z : Pt} (h : ori x y z = 1) : twi (mk x y z) = det x y z := by
  have h0 : ¬ ori x y z = 0 := by omega
  obtain ⟨va, vb, vc, n1, n2, n3⟩ := mk_keys h0
  have e0 : mk x y z = mkT x y z := by unfold mk; rw [if_neg h0, if_pos h]
  unfold twi
  rw [if_pos (mk_ok h0).1, e0]
  rcases mkT_rot va vb vc n1 n2 n3 with ⟨_, _, e⟩ | ⟨_, _, e⟩ | ⟨_, _, e⟩ <;> rw [e] <;> simp only
  · rw [det_cyc]
  · rw [det_cyc, det_cyc]
end Go.Proofs.Ytijdbddjhnjcdaa
