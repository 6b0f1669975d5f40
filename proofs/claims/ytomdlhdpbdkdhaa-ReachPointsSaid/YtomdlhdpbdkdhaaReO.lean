/- Plain mathematics of a window and a triangle: the two tests are one; a point of both; a window cut in two. -/
import Derived.Test.YtomdlhdpbdkdhaaReC
import Derived.Test.YtomdlhdpbdkdhaaReD
import Derived.Test.YtomdlhdpbdkdhaaTrN
namespace Go.Proofs.Ytomdlhdpbdkdhaa
open Go.RowKit

theorem pos_iff0 {D o x : Int} (hD : 0 < D) (e : D * o = x) : (0 < o → 0 < x) ∧ (0 < x → 0 < o) := by
  subst e
  rcases Int.lt_trichotomy o 0 with h | h | h
  · have := Int.mul_neg_of_pos_of_neg hD h; omega
  · subst h; simp
  · have := Int.mul_pos hD h; omega
theorem mn_le (a b c t : Int) : mnA a b c ≤ t ↔ a ≤ t ∨ b ≤ t ∨ c ≤ t := by unfold mnA; (repeat' split) <;> omega
theorem le_mx (a b c t : Int) : t ≤ mxA a b c ↔ t ≤ a ∨ t ≤ b ∨ t ≤ c := by unfold mxA; (repeat' split) <;> omega
theorem lm4_nn (p q a b c d : Pt) : 0 ≤ lm4 p q a b c d ↔ 0 ≤ ori p q a ∨ 0 ≤ ori p q b ∨ 0 ≤ ori p q c ∨ 0 ≤ ori p q d := by
  unfold lm4 mx2; (repeat' split) <;> omega
theorem ls4_nn (T : Tri3) (a b c d : Pt) : 0 ≤ ls4 T a b c d ↔ 0 ≤ lm4 T.A T.B a b c d ∧ 0 ≤ lm4 T.B T.C a b c d ∧ 0 ≤ lm4 T.C T.A a b c d := by
  unfold ls4 mn2; (repeat' split) <;> omega
theorem win_iff (r : Rc) : win r = true ↔ (0 ≤ r.x0 ∧ r.x0 ≤ r.x1 ∧ r.x1 < 16777216) ∧ (0 ≤ r.y0 ∧ r.y0 ≤ r.y1 ∧ r.y1 < 16777216) := by
  unfold win spn; simp only [Bool.and_eq_true, decide_eq_true_eq]
/-- Some corner of the window is not beyond the line. -/
def sepE (X Y : Pt) (r : Rc) : Prop := 0 ≤ det X Y ⟨r.x0, r.y0⟩ ∨ 0 ≤ det X Y ⟨r.x1, r.y0⟩ ∨ 0 ≤ det X Y ⟨r.x1, r.y1⟩ ∨ 0 ≤ det X Y ⟨r.x0, r.y1⟩
def OV (T : Tri3) (r : Rc) : Prop :=
  ((T.A.x ≤ r.x1 ∨ T.B.x ≤ r.x1 ∨ T.C.x ≤ r.x1) ∧ (r.x0 ≤ T.A.x ∨ r.x0 ≤ T.B.x ∨ r.x0 ≤ T.C.x)) ∧
  ((T.A.y ≤ r.y1 ∨ T.B.y ≤ r.y1 ∨ T.C.y ≤ r.y1) ∧ (r.y0 ≤ T.A.y ∨ r.y0 ≤ T.B.y ∨ r.y0 ≤ T.C.y)) ∧
  sepE T.A T.B r ∧ sepE T.B T.C r ∧ sepE T.C T.A r
theorem cw_vld {r : Rc} (h : win r = true) : vld ⟨r.x0, r.y0⟩ = true ∧ vld ⟨r.x1, r.y0⟩ = true ∧ vld ⟨r.x1, r.y1⟩ = true ∧ vld ⟨r.x0, r.y1⟩ = true := by
  rw [win_iff] at h
  refine ⟨?_, ?_, ?_, ?_⟩ <;> rw [vld_iff] <;> simp only <;> omega
theorem ovl_iff {T : Tri3} {r : Rc} (hT : valT T = true) (hr : win r = true) : ovl T r = true ↔ OV T r := by
  obtain ⟨uA, uB, uC, hD⟩ := tri_signs hT
  obtain ⟨v0, v1, v2, v3⟩ := cw_vld hr
  unfold ovl OV sepE mts
  rw [hT, hr]
  simp only [Bool.true_and, Bool.and_eq_true, decide_eq_true_eq, mn_le, le_mx, ls4_nn, lm4_nn, (ori_sg uA uB v0).2.1, (ori_sg uA uB v1).2.1, (ori_sg uA uB v2).2.1, (ori_sg uA uB v3).2.1,
    (ori_sg uB uC v0).2.1, (ori_sg uB uC v1).2.1, (ori_sg uB uC v2).2.1, (ori_sg uB uC v3).2.1, (ori_sg uC uA v0).2.1, (ori_sg uC uA v1).2.1, (ori_sg uC uA v2).2.1, (ori_sg uC uA v3).2.1]
theorem far_iff (T : Tri3) (r : Rc) (i : Nat) : farO T r i = false ↔ 0 ≤ lm4 (crn T i) (crn T (i + 1)) ⟨r.x0, r.y0⟩ ⟨r.x1, r.y0⟩ ⟨r.x1, r.y1⟩ ⟨r.x0, r.y1⟩ := by
  rw [lm4_nn]
  unfold farO
  rw [← Bool.not_eq_true, beq_iff_eq]
  simp only [cntO]
  rw [show cw r 0 = ⟨r.x0, r.y0⟩ from rfl, show cw r 1 = ⟨r.x1, r.y0⟩ from rfl, show cw r 2 = ⟨r.x1, r.y1⟩ from rfl, show cw r 3 = ⟨r.x0, r.y1⟩ from rfl]
  (repeat' split) <;> omega
theorem ovl_eq (T : Tri3) (r : Rc) : ovl T r = rovl T r := by
  unfold ovl rovl
  cases hT : valT T with
  | false => rfl
  | true => cases hr : win r with
    | false => rfl
    | true =>
      simp only [Bool.true_and]
      rw [Bool.eq_iff_iff]
      unfold mts sov
      simp only [Bool.and_eq_true, Bool.not_eq_true', decide_eq_true_eq, decide_eq_false_iff_not, ls4_nn, far_iff]
      rw [show crn T ((0 : Nat) : Int) = T.A from rfl, show crn T (((0 : Nat) : Int) + 1) = T.B from rfl, show crn T ((1 : Nat) : Int) = T.B from rfl, show crn T (((1 : Nat) : Int) + 1) = T.C from rfl, show crn T ((2 : Nat) : Int) = T.C from rfl, show crn T (((2 : Nat) : Int) + 1) = T.A from rfl]
      omega
/-- A point of the window that is not beyond the line: then some corner isn't. -/
theorem box_max {X Y p : Pt} {r : Rc} (hx : r.x0 ≤ p.x ∧ p.x ≤ r.x1) (hy : r.y0 ≤ p.y ∧ p.y ≤ r.y1) (h : 0 ≤ det X Y p) : sepE X Y r := by
  have e : ∀ x y : Int, det X Y ⟨x, y⟩ = det X Y p + (Y.x - X.x) * (y - p.y) - (Y.y - X.y) * (x - p.x) := fun x y => by unfold det; simp only; grind
  unfold sepE
  rw [e r.x0 r.y0, e r.x1 r.y0, e r.x1 r.y1, e r.x0 r.y1]
  rcases Int.le_total 0 (Y.x - X.x) with b | b <;> rcases Int.le_total 0 (Y.y - X.y) with c | c
  · have := Int.mul_nonneg b (show 0 ≤ r.y1 - p.y by omega)
    have := Int.mul_nonpos_of_nonneg_of_nonpos c (show r.x0 - p.x ≤ 0 by omega)
    omega
  · have := Int.mul_nonneg b (show 0 ≤ r.y1 - p.y by omega)
    have := Int.mul_nonpos_of_nonpos_of_nonneg c (show 0 ≤ r.x1 - p.x by omega)
    omega
  · have := Int.mul_nonneg_of_nonpos_of_nonpos b (show r.y0 - p.y ≤ 0 by omega)
    have := Int.mul_nonpos_of_nonneg_of_nonpos c (show r.x0 - p.x ≤ 0 by omega)
    omega
  · have := Int.mul_nonneg_of_nonpos_of_nonpos b (show r.y0 - p.y ≤ 0 by omega)
    have := Int.mul_nonpos_of_nonpos_of_nonneg c (show 0 ≤ r.x1 - p.x by omega)
    omega
theorem sepE_mono {X Y : Pt} {r r' : Rc} (h : sepE X Y r) (hx : r'.x0 ≤ r.x0 ∧ r.x0 ≤ r.x1 ∧ r.x1 ≤ r'.x1) (hy : r'.y0 ≤ r.y0 ∧ r.y0 ≤ r.y1 ∧ r.y1 ≤ r'.y1) : sepE X Y r' := by
  rcases h with h | h | h | h
  · exact box_max (p := ⟨r.x0, r.y0⟩) (by simp only; omega) (by simp only; omega) h
  · exact box_max (p := ⟨r.x1, r.y0⟩) (by simp only; omega) (by simp only; omega) h
  · exact box_max (p := ⟨r.x1, r.y1⟩) (by simp only; omega) (by simp only; omega) h
  · exact box_max (p := ⟨r.x0, r.y1⟩) (by simp only; omega) (by simp only; omega) h
theorem OV_mono {T : Tri3} {r r' : Rc} (h : OV T r) (hx : r'.x0 ≤ r.x0 ∧ r.x0 ≤ r.x1 ∧ r.x1 ≤ r'.x1) (hy : r'.y0 ≤ r.y0 ∧ r.y0 ≤ r.y1 ∧ r.y1 ≤ r'.y1) : OV T r' := by
  obtain ⟨h1, h2, h3, h4, h5⟩ := h
  exact ⟨by omega, by omega, sepE_mono h3 hx hy, sepE_mono h4 hx hy, sepE_mono h5 hx hy⟩
/-- Weights from 0 on that sum to more than 0: some number that they weigh is not above 0 if the sum isn't. -/
theorem some_le {u v w x y z : Int} (hu : 0 ≤ u) (hv : 0 ≤ v) (hw : 0 ≤ w) (hs : 0 < u + v + w) (e : u * x + v * y + w * z = 0) : x ≤ 0 ∨ y ≤ 0 ∨ z ≤ 0 := by
  refine Decidable.byContradiction fun k => ?_
  have h1 : u * 1 ≤ u * x := Int.mul_le_mul_of_nonneg_left (by omega) hu
  have h2 : v * 1 ≤ v * y := Int.mul_le_mul_of_nonneg_left (by omega) hv
  have h3 : w * 1 ≤ w * z := Int.mul_le_mul_of_nonneg_left (by omega) hw
  omega
theorem in_span {T : Tri3} {p : Pt} (hD : 0 < det T.A T.B T.C) (h0 : 0 ≤ det T.A T.B p) (h1 : 0 ≤ det T.B T.C p) (h2 : 0 ≤ det T.C T.A p) :
    ((T.A.x ≤ p.x ∨ T.B.x ≤ p.x ∨ T.C.x ≤ p.x) ∧ (p.x ≤ T.A.x ∨ p.x ≤ T.B.x ∨ p.x ≤ T.C.x)) ∧ ((T.A.y ≤ p.y ∨ T.B.y ≤ p.y ∨ T.C.y ≤ p.y) ∧ (p.y ≤ T.A.y ∨ p.y ≤ T.B.y ∨ p.y ≤ T.C.y)) := by
  have hs := det_sum T.A T.B T.C p
  have ex : det T.B T.C p * (T.A.x - p.x) + det T.C T.A p * (T.B.x - p.x) + det T.A T.B p * (T.C.x - p.x) = 0 := by unfold det; grind
  have ey : det T.B T.C p * (T.A.y - p.y) + det T.C T.A p * (T.B.y - p.y) + det T.A T.B p * (T.C.y - p.y) = 0 := by unfold det; grind
  have a1 := some_le h1 h2 h0 (by omega) ex
  have a2 := some_le (x := p.x - T.A.x) (y := p.x - T.B.x) (z := p.x - T.C.x) h1 h2 h0 (by omega) (by grind)
  have a3 := some_le h1 h2 h0 (by omega) ey
  have a4 := some_le (x := p.y - T.A.y) (y := p.y - T.B.y) (z := p.y - T.C.y) h1 h2 h0 (by omega) (by grind)
  omega
theorem has_ov {T : Tri3} {p : Pt} {r : Rc} (hT : valT T = true) (hp : vld p = true) (hr : win r = true) (h : hasP T p = true) (hx : r.x0 ≤ p.x ∧ p.x ≤ r.x1) (hy : r.y0 ≤ p.y ∧ p.y ≤ r.y1) : ovl T r = true := by
  obtain ⟨uA, uB, uC, hD⟩ := tri_signs hT
  obtain ⟨h0, h1, h2⟩ := (hasP_iff hT hp).1 h
  rw [ovl_iff hT hr]
  obtain ⟨s1, s2⟩ := in_span hD h0 h1 h2
  exact ⟨by omega, by omega, box_max hx hy h0, box_max hx hy h1, box_max hx hy h2⟩
theorem one_has {T : Tri3} {p : Pt} (hT : valT T = true) (hp : vld p = true) : ovl T ⟨p.x, p.y, p.x, p.y⟩ = hasP T p := by
  have hr : win ⟨p.x, p.y, p.x, p.y⟩ = true := by
    rw [win_iff]; rw [vld_iff] at hp; simp only; omega
  rw [Bool.eq_iff_iff]
  constructor
  · intro h
    rw [ovl_iff hT hr] at h
    obtain ⟨_, _, h1, h2, h3⟩ := h
    unfold sepE at h1 h2 h3
    simp only at h1 h2 h3
    have e : (⟨p.x, p.y⟩ : Pt) = p := rfl
    rw [e] at h1 h2 h3
    exact (hasP_iff hT hp).2 ⟨by omega, by omega, by omega⟩
  · intro h
    exact has_ov hT hp hr h (by simp only; omega) (by simp only; omega)
theorem corner_has {T : Tri3} (hT : valT T = true) : hasP T T.A = true ∧ hasP T T.B = true ∧ hasP T T.C = true := by
  obtain ⟨uA, uB, uC, hD⟩ := tri_signs hT
  have z1 : ∀ x y : Pt, det x y x = 0 := fun x y => by unfold det; grind
  have z2 : ∀ x y : Pt, det x y y = 0 := fun x y => by unfold det; grind
  refine ⟨(hasP_iff hT uA).2 ?_, (hasP_iff hT uB).2 ?_, (hasP_iff hT uC).2 ?_⟩
  · rw [z1, z2, det_cyc]; omega
  · rw [z1, z2, det_cyc, det_cyc]; omega
  · rw [z1, z2]; omega
/-- A point of the plane, by weights: where a line has it. -/
def dW (X Y : Pt) (zx zy W : Int) : Int := (Y.x - X.x) * (zy - X.y * W) - (Y.y - X.y) * (zx - X.x * W)
theorem dW_of (X Y P Q : Pt) (u v : Int) : dW X Y (u * P.x + v * Q.x) (u * P.y + v * Q.y) (u + v) = u * det X Y P + v * det X Y Q := by unfold dW det; grind
theorem dW_edge {X Y : Pt} {k zy W y0 y1 : Int} (hW : 0 < W) (h0 : y0 * W ≤ zy) (h1 : zy ≤ y1 * W) (n0 : det X Y ⟨k, y0⟩ < 0) (n1 : det X Y ⟨k, y1⟩ < 0) : dW X Y (k * W) zy W < 0 := by
  have e0 : dW X Y (k * W) zy W = W * det X Y ⟨k, y0⟩ + (Y.x - X.x) * (zy - y0 * W) := by unfold dW det; simp only; grind
  have e1 : dW X Y (k * W) zy W = W * det X Y ⟨k, y1⟩ + (Y.x - X.x) * (zy - y1 * W) := by unfold dW det; simp only; grind
  have p0 := Int.mul_neg_of_pos_of_neg hW n0
  have p1 := Int.mul_neg_of_pos_of_neg hW n1
  rcases Int.le_total 0 (Y.x - X.x) with b | b
  · have := Int.mul_nonpos_of_nonneg_of_nonpos b (show zy - y1 * W ≤ 0 by omega)
    omega
  · have := Int.mul_nonpos_of_nonpos_of_nonneg b (show 0 ≤ zy - y0 * W by omega)
    omega
theorem dW_move (X Y : Pt) (zx zx' zy W : Int) : dW X Y zx zy W - dW X Y zx' zy W = -(Y.y - X.y) * (zx - zx') := by unfold dW; grind
/-- Beyond the line all over the left part, but not over all: the point lies right of the part. -/
theorem go_right {X Y : Pt} {zx zy W x0 x1 k y0 y1 : Int} (hW : 0 < W) (h0 : y0 * W ≤ zy) (h1 : zy ≤ y1 * W) (hz : 0 ≤ dW X Y zx zy W) (hk : k ≤ x1)
    (hn : ¬ sepE X Y ⟨x0, y0, k, y1⟩) (hs : sepE X Y ⟨x0, y0, x1, y1⟩) : k * W < zx := by
  unfold sepE at hn hs
  simp only at hn hs
  have hd := dW_edge hW h0 h1 (k := k) (show det X Y ⟨k, y0⟩ < 0 by omega) (by omega)
  have hm := dW_move X Y zx (k * W) zy W
  have ha : 0 < -(Y.y - X.y) := by
    have e0 : det X Y ⟨x1, y0⟩ - det X Y ⟨k, y0⟩ = -(Y.y - X.y) * (x1 - k) := by unfold det; simp only; grind
    have e1 : det X Y ⟨x1, y1⟩ - det X Y ⟨k, y1⟩ = -(Y.y - X.y) * (x1 - k) := by unfold det; simp only; grind
    rcases Int.lt_or_le 0 (-(Y.y - X.y)) with c | c
    · exact c
    · have := Int.mul_nonpos_of_nonpos_of_nonneg c (show 0 ≤ x1 - k by omega)
      omega
  have := (pos_iff0 ha (rfl : -(Y.y - X.y) * (zx - k * W) = _)).2 (by omega)
  omega
theorem go_left {X Y : Pt} {zx zy W x0 x1 k y0 y1 : Int} (hW : 0 < W) (h0 : y0 * W ≤ zy) (h1 : zy ≤ y1 * W) (hz : 0 ≤ dW X Y zx zy W) (hk : x0 ≤ k)
    (hn : ¬ sepE X Y ⟨k, y0, x1, y1⟩) (hs : sepE X Y ⟨x0, y0, x1, y1⟩) : zx < k * W := by
  unfold sepE at hn hs
  simp only at hn hs
  have hd := dW_edge hW h0 h1 (k := k) (show det X Y ⟨k, y0⟩ < 0 by omega) (by omega)
  have hm := dW_move X Y zx (k * W) zy W
  have ha : 0 < Y.y - X.y := by
    have e0 : det X Y ⟨x0, y0⟩ - det X Y ⟨k, y0⟩ = (Y.y - X.y) * (k - x0) := by unfold det; simp only; grind
    have e1 : det X Y ⟨x0, y1⟩ - det X Y ⟨k, y1⟩ = (Y.y - X.y) * (k - x0) := by unfold det; simp only; grind
    rcases Int.lt_or_le 0 (Y.y - X.y) with c | c
    · exact c
    · have := Int.mul_nonpos_of_nonpos_of_nonneg c (show 0 ≤ k - x0 by omega)
      omega
  have := (pos_iff0 ha (show (Y.y - X.y) * (k * W - zx) = -(Y.y - X.y) * (zx - k * W) by grind)).2 (by omega)
  omega
/-- Some point of the triangle lies at a height of the window. -/
theorem at_height {T : Tri3} {y0 y1 : Int} (hy : y0 ≤ y1) (h1 : T.A.y ≤ y1 ∨ T.B.y ≤ y1 ∨ T.C.y ≤ y1) (h0 : y0 ≤ T.A.y ∨ y0 ≤ T.B.y ∨ y0 ≤ T.C.y) :
    ∃ (P Q : Pt) (u v : Int), (P = T.A ∨ P = T.B ∨ P = T.C) ∧ (Q = T.A ∨ Q = T.B ∨ Q = T.C) ∧ 0 ≤ u ∧ 0 ≤ v ∧ 0 < u + v ∧ y0 * (u + v) ≤ u * P.y + v * Q.y ∧ u * P.y + v * Q.y ≤ y1 * (u + v) := by
  obtain ⟨P, hP, p1⟩ : ∃ P, (P = T.A ∨ P = T.B ∨ P = T.C) ∧ P.y ≤ y1 := by
    rcases h1 with h | h | h
    · exact ⟨_, .inl rfl, h⟩
    · exact ⟨_, .inr (.inl rfl), h⟩
    · exact ⟨_, .inr (.inr rfl), h⟩
  obtain ⟨Q, hQ, q0⟩ : ∃ Q, (Q = T.A ∨ Q = T.B ∨ Q = T.C) ∧ y0 ≤ Q.y := by
    rcases h0 with h | h | h
    · exact ⟨_, .inl rfl, h⟩
    · exact ⟨_, .inr (.inl rfl), h⟩
    · exact ⟨_, .inr (.inr rfl), h⟩
  by_cases k1 : y0 ≤ P.y
  · exact ⟨P, P, 1, 0, hP, hP, by omega, by omega, by omega, by omega, by omega⟩
  by_cases k2 : Q.y ≤ y1
  · exact ⟨Q, Q, 1, 0, hQ, hQ, by omega, by omega, by omega, by omega, by omega⟩
  have e : (Q.y - y0) * P.y + (y0 - P.y) * Q.y = y0 * (Q.y - y0 + (y0 - P.y)) := by grind
  refine ⟨P, Q, Q.y - y0, y0 - P.y, hP, hQ, by omega, by omega, by omega, by omega, ?_⟩
  rw [e]
  exact Int.mul_le_mul_of_nonneg_right hy (by omega)
theorem all_in {T : Tri3} (hD : 0 < det T.A T.B T.C) {P : Pt} (hP : P = T.A ∨ P = T.B ∨ P = T.C) : 0 ≤ det T.A T.B P ∧ 0 ≤ det T.B T.C P ∧ 0 ≤ det T.C T.A P := by
  have z1 : ∀ x y : Pt, det x y x = 0 := fun x y => by unfold det; grind
  have z2 : ∀ x y : Pt, det x y y = 0 := fun x y => by unfold det; grind
  rcases hP with rfl | rfl | rfl
  · rw [z1, z2, det_cyc]; omega
  · rw [z1, z2, det_cyc, det_cyc]; omega
  · rw [z1, z2]; omega
theorem cut_ov {T : Tri3} {x0 y0 x1 y1 m : Int} (hT : valT T = true) (hr : win ⟨x0, y0, x1, y1⟩ = true) (h0 : x0 ≤ m) (h1 : m < x1) : ovl T ⟨x0, y0, x1, y1⟩ = (ovl T ⟨x0, y0, m + 1, y1⟩ || ovl T ⟨m, y0, x1, y1⟩) := by
  have hr' := (win_iff _).1 hr
  simp only at hr'
  have hl : win ⟨x0, y0, m + 1, y1⟩ = true := by rw [win_iff]; simp only; omega
  have ho : win ⟨m, y0, x1, y1⟩ = true := by rw [win_iff]; simp only; omega
  rw [Bool.eq_iff_iff, Bool.or_eq_true, ovl_iff hT hr, ovl_iff hT hl, ovl_iff hT ho]
  obtain ⟨uA, uB, uC, hD⟩ := tri_signs hT
  constructor
  · intro h
    refine Classical.byContradiction fun hc => ?_
    obtain ⟨⟨a1, a2⟩, ⟨a3, a4⟩, e1, e2, e3⟩ := h
    simp only at a1 a2 a3 a4
    obtain ⟨P, Q, u, v, hP, hQ, hu, hv, hW, z0, z1⟩ := at_height (show y0 ≤ y1 by omega) a3 a4
    obtain ⟨p1, p2, p3⟩ := all_in hD hP
    obtain ⟨q1, q2, q3⟩ := all_in hD hQ
    have dn : ∀ {X Y : Pt}, 0 ≤ det X Y P → 0 ≤ det X Y Q → 0 ≤ dW X Y (u * P.x + v * Q.x) (u * P.y + v * Q.y) (u + v) := fun {X Y} k1 k2 => by
      rw [dW_of]
      have := Int.mul_nonneg hu k1
      have := Int.mul_nonneg hv k2
      omega
    have d1 := dn p1 q1
    have d2 := dn p2 q2
    have d3 := dn p3 q3
    have R : (m + 1) * (u + v) < u * P.x + v * Q.x := by
      by_cases f1 : sepE T.A T.B ⟨x0, y0, m + 1, y1⟩
      · by_cases f2 : sepE T.B T.C ⟨x0, y0, m + 1, y1⟩
        · by_cases f3 : sepE T.C T.A ⟨x0, y0, m + 1, y1⟩
          · have hb : ¬ (T.A.x ≤ m + 1 ∨ T.B.x ≤ m + 1 ∨ T.C.x ≤ m + 1) := fun k => hc (.inl ⟨⟨k, a2⟩, ⟨a3, a4⟩, f1, f2, f3⟩)
            have b1 : m + 1 + 1 ≤ P.x := by rcases hP with rfl | rfl | rfl <;> omega
            have b2 : m + 1 + 1 ≤ Q.x := by rcases hQ with rfl | rfl | rfl <;> omega
            have c1 := Int.mul_le_mul_of_nonneg_left b1 hu
            have c2 := Int.mul_le_mul_of_nonneg_left b2 hv
            grind
          · exact go_right hW z0 z1 d3 (by omega) f3 e3
        · exact go_right hW z0 z1 d2 (by omega) f2 e2
      · exact go_right hW z0 z1 d1 (by omega) f1 e1
    have L : u * P.x + v * Q.x < m * (u + v) := by
      by_cases f1 : sepE T.A T.B ⟨m, y0, x1, y1⟩
      · by_cases f2 : sepE T.B T.C ⟨m, y0, x1, y1⟩
        · by_cases f3 : sepE T.C T.A ⟨m, y0, x1, y1⟩
          · have hb : ¬ (m ≤ T.A.x ∨ m ≤ T.B.x ∨ m ≤ T.C.x) := fun k => hc (.inr ⟨⟨a1, k⟩, ⟨a3, a4⟩, f1, f2, f3⟩)
            have b1 : P.x ≤ m - 1 := by rcases hP with rfl | rfl | rfl <;> omega
            have b2 : Q.x ≤ m - 1 := by rcases hQ with rfl | rfl | rfl <;> omega
            have c1 := Int.mul_le_mul_of_nonneg_left b1 hu
            have c2 := Int.mul_le_mul_of_nonneg_left b2 hv
            grind
          · exact go_left hW z0 z1 d3 (by omega) f3 e3
        · exact go_left hW z0 z1 d2 (by omega) f2 e2
      · exact go_left hW z0 z1 d1 (by omega) f1 e1
    have : m * (u + v) ≤ (m + 1) * (u + v) := Int.mul_le_mul_of_nonneg_right (by omega) (by omega)
    omega
  · rintro (h | h)
    · exact OV_mono h (by simp only; omega) (by simp only; omega)
    · exact OV_mono h (by simp only; omega) (by simp only; omega)
end Go.Proofs.Ytomdlhdpbdkdhaa
