/- Plain mathematics of segments of the grid: who is on one, and how two meet. -/
import Derived.Test.YtijdbddjhnjcdaaExN
import Derived.Test.YtijdbddjhnjcdaaExO
namespace Go.Proofs.Ytijdbddjhnjcdaa
open Go.RowKit

def kk (a b p : Pt) : Int := (p.x - a.x) * (b.x - a.x) + (p.y - a.y) * (b.y - a.y)
def EE (a b : Pt) : Int := (b.x - a.x) * (b.x - a.x) + (b.y - a.y) * (b.y - a.y)
theorem EE_pos {a b : Pt} (h : a ≠ b) : 0 < EE a b := by
  have h1 := sq_pos (b.x - a.x)
  have h2 := sq_pos (b.y - a.y)
  have h3 : EE a b ≠ 0 := fun h0 => by
    unfold EE at h0
    have g1 : (b.x - a.x) * (b.x - a.x) = 0 := by omega
    have g2 : (b.y - a.y) * (b.y - a.y) = 0 := by omega
    apply h; rw [Pt.eq_iff]
    have k1 : b.x - a.x = 0 := by rcases Int.mul_eq_zero.1 g1 with k | k <;> exact k
    have k2 : b.y - a.y = 0 := by rcases Int.mul_eq_zero.1 g2 with k | k <;> exact k
    omega
  have : 0 ≤ EE a b := by unfold EE; omega
  omega
theorem coll {a b p : Pt} (h : det a b p = 0) : EE a b * (p.x - a.x) = kk a b p * (b.x - a.x) ∧ EE a b * (p.y - a.y) = kk a b p * (b.y - a.y) := by
  have e1 : EE a b * (p.x - a.x) = kk a b p * (b.x - a.x) - (b.y - a.y) * det a b p := by unfold EE kk det; grind
  have e2 : EE a b * (p.y - a.y) = kk a b p * (b.y - a.y) + (b.x - a.x) * det a b p := by unfold EE kk det; grind
  rw [h] at e1 e2
  simp only [Int.mul_zero, Int.sub_zero, Int.add_zero] at e1 e2
  exact ⟨e1, e2⟩
theorem coll2 {a b p : Pt} (h : det a b p = 0) : EE a b * (p.x - b.x) = (kk a b p - EE a b) * (b.x - a.x) ∧ EE a b * (p.y - b.y) = (kk a b p - EE a b) * (b.y - a.y) := by
  obtain ⟨h1, h2⟩ := coll h
  generalize EE a b = E at *
  generalize kk a b p = k at *
  exact ⟨by grind, by grind⟩
def lexs (u v : Int) : Int := if u = 0 then sgn v else sgn u
theorem cmpP_lexs (p q : Pt) : cmpP p q = lexs (p.x - q.x) (p.y - q.y) := by
  unfold cmpP lexs cmpN
  by_cases h : p.x = q.x
  · rw [if_pos h, if_pos (by omega)]
  · rw [if_neg h, if_neg (by omega)]
theorem sgn_scale {E x y z : Int} (hE : 0 < E) (h : E * x = y * z) : sgn x = sgn y * sgn z := by
  have h1 := sgn_mul E x
  rw [sgn_p hE, h, sgn_mul] at h1
  omega
theorem lexs_scale {E k u1 v1 u2 v2 : Int} (hE : 0 < E) (h1 : E * u1 = k * u2) (h2 : E * v1 = k * v2) : lexs u1 v1 = sgn k * lexs u2 v2 := by
  have s1 := sgn_scale hE h1
  have s2 := sgn_scale hE h2
  unfold lexs
  by_cases hu : u1 = 0
  · rw [if_pos hu, s2]
    by_cases hu2 : u2 = 0
    · rw [if_pos hu2]
    · rw [if_neg hu2]
      rw [hu] at h1
      have : k = 0 := by
        rcases Int.mul_eq_zero.1 (show k * u2 = 0 by rw [← h1]; simp) with h | h
        · exact h
        · exact absurd h hu2
      rw [this]; simp [sgn]
  · rw [if_neg hu, s1]
    have hu2 : u2 ≠ 0 := fun h => by
      rw [h] at h1; simp only [Int.mul_zero] at h1
      rcases Int.mul_eq_zero.1 h1 with h | h
      · omega
      · exact hu h
    rw [if_neg hu2]
theorem lexs_ne {u v : Int} (h : ¬ (u = 0 ∧ v = 0)) : lexs u v = 1 ∨ lexs u v = -1 := by
  unfold lexs
  have h1 := sgn_cases u
  have h2 := sgn_cases v
  split <;> omega
theorem one_sq {x : Int} (h : x = 1 ∨ x = -1) (a b : Int) : -(a * x) * (b * x) = -(a * b) := by
  rcases h with rfl | rfl <;> grind
theorem on_k {a b p : Pt} (hab : a ≠ b) (h : det a b p = 0) : (0 ≤ cmpP a p * cmpP p b) ↔ (0 ≤ kk a b p ∧ kk a b p ≤ EE a b) := by
  have hE := EE_pos hab
  obtain ⟨c1, c2⟩ := coll h
  obtain ⟨c3, c4⟩ := coll2 h
  have l1 := lexs_scale hE c1 c2
  have l2 := lexs_scale hE c3 c4
  have l3 : cmpP a p = -cmpP p a := by unfold cmpP cmpN sgn; (repeat' split) <;> omega
  rw [← cmpP_lexs, ← cmpP_lexs] at l1
  rw [← cmpP_lexs, ← cmpP_lexs] at l2
  have l4 : cmpP b a = 1 ∨ cmpP b a = -1 := by
    rw [cmpP_lexs]; refine lexs_ne (fun k => hab ?_); rw [Pt.eq_iff]; omega
  rw [l3, l1, l2, one_sq l4]
  have h1 := sgn_cases (kk a b p)
  have h2 := sgn_cases (kk a b p - EE a b)
  rcases h1 with ⟨s1, t1⟩ | ⟨s1, t1⟩ | ⟨s1, t1⟩ <;> rcases h2 with ⟨s2, t2⟩ | ⟨s2, t2⟩ | ⟨s2, t2⟩ <;> rw [s1, s2] <;> omega
theorem btw_t {n a b : Int} (h : btw n a b = true) : 0 ≤ (n - a) * (b - a) ∧ (n - a) * (b - a) ≤ (b - a) * (b - a) := by
  simp only [btw, decide_eq_true_eq] at h
  rcases Int.le_total a b with k | k
  · exact ⟨Int.mul_nonneg (by omega) (by omega), Int.mul_le_mul_of_nonneg_right (by omega) (by omega)⟩
  · exact ⟨Int.mul_nonneg_of_nonpos_of_nonpos (by omega) (by omega), Int.mul_le_mul_of_nonpos_right (by omega) (by omega)⟩
theorem btw_of {E k n a b : Int} (hE : 0 < E) (k0 : 0 ≤ k) (k1 : k ≤ E) (h : E * (n - a) = k * (b - a)) : btw n a b = true := by
  simp only [btw, decide_eq_true_eq]
  rcases Int.le_total a b with c | c
  · have h1 : E * 0 ≤ E * (n - a) := by rw [h, Int.mul_zero]; exact Int.mul_nonneg k0 (by omega)
    have h2 : E * (n - a) ≤ E * (b - a) := by rw [h]; exact Int.mul_le_mul_of_nonneg_right k1 (by omega)
    have g1 := Int.le_of_mul_le_mul_left h1 hE
    have g2 := Int.le_of_mul_le_mul_left h2 hE
    omega
  · have h1 : E * (n - a) ≤ E * 0 := by rw [h, Int.mul_zero]; exact Int.mul_nonpos_of_nonneg_of_nonpos k0 (by omega)
    have h2 : E * (b - a) ≤ E * (n - a) := by rw [h]; exact Int.mul_le_mul_of_nonpos_right k1 (by omega)
    have g1 := Int.le_of_mul_le_mul_left h1 hE
    have g2 := Int.le_of_mul_le_mul_left h2 hE
    omega
theorem btw_k {a b p : Pt} (hab : a ≠ b) (h : det a b p = 0) : (btw p.x a.x b.x && btw p.y a.y b.y) = true ↔ (0 ≤ kk a b p ∧ kk a b p ≤ EE a b) := by
  have hE := EE_pos hab
  obtain ⟨c1, c2⟩ := coll h
  rw [Bool.and_eq_true]
  constructor
  · rintro ⟨h1, h2⟩
    have t1 := btw_t h1
    have t2 := btw_t h2
    unfold kk EE; omega
  · rintro ⟨h1, h2⟩
    exact ⟨btw_of hE h1 h2 c1, btw_of hE h1 h2 c2⟩
theorem on_eq (p a b : Pt) : onS p a b = onR p a b := by
  unfold onS onR
  cases hp : vld p with
  | false => rfl
  | true => cases ha : vld a with
    | false => rfl
    | true => cases hb : vld b with
      | false => rfl
      | true =>
        simp only [Bool.true_and]
        have ho : decide (ori a b p = 0) = decide (det a b p = 0) := by
          rw [ori_v ha hb hp, decide_eq_decide]; exact sgn_zero
        rw [ho]
        by_cases hd : det a b p = 0
        · rw [show decide (det a b p = 0) = true by simpa using hd]
          simp only [Bool.true_and]
          by_cases hab : a = b
          · subst hab
            rw [Bool.eq_iff_iff, decide_eq_true_eq, Bool.and_eq_true]
            simp only [btw, decide_eq_true_eq]
            have l3 : cmpP a p = -cmpP p a := by unfold cmpP cmpN sgn; (repeat' split) <;> omega
            have l4 : cmpP p a = 0 ↔ p.x = a.x ∧ p.y = a.y := by unfold cmpP cmpN sgn; (repeat' split) <;> omega
            have l5 := cmpP_bd p a
            rw [l3]
            have l6 : cmpP p a = 0 ∨ cmpP p a = 1 ∨ cmpP p a = -1 := by omega
            rcases l6 with l | l | l <;> rw [l] at l4 ⊢ <;> omega
          · rw [Bool.eq_iff_iff, decide_eq_true_eq, btw_k hab hd]; exact on_k hab hd
        · rw [show decide (det a b p = 0) = false by simpa using hd]; rfl
/-- A touch, by the place along the segment. -/
theorem tch_k {p a b : Pt} (hp : vld p = true) (ha : vld a = true) (hb : vld b = true) (hab : a ≠ b) :
    tch p a b = if det a b p = 0 ∧ 0 < kk a b p ∧ kk a b p < EE a b then 2 else 0 := by
  have hE := EE_pos hab
  unfold tch onR
  rw [hp, ha, hb]
  simp only [Bool.true_and]
  by_cases hd : det a b p = 0
  · rw [show decide (det a b p = 0) = true by simpa using hd]
    simp only [Bool.true_and]
    obtain ⟨c1, c2⟩ := coll hd
    obtain ⟨c3, c4⟩ := coll2 hd
    have z1 : p = a ↔ kk a b p = 0 := by
      constructor
      · rintro rfl; unfold kk; simp
      · intro h; rw [h] at c1 c2; simp only [Int.zero_mul] at c1 c2
        rw [Pt.eq_iff]
        rcases Int.mul_eq_zero.1 c1 with h1 | h1 <;> rcases Int.mul_eq_zero.1 c2 with h2 | h2 <;> omega
    have z2 : p = b ↔ kk a b p - EE a b = 0 := by
      constructor
      · rintro rfl; unfold kk EE; omega
      · intro h; rw [h] at c3 c4; simp only [Int.zero_mul] at c3 c4
        rw [Pt.eq_iff]
        rcases Int.mul_eq_zero.1 c3 with h1 | h1 <;> rcases Int.mul_eq_zero.1 c4 with h2 | h2 <;> omega
    by_cases hk : 0 ≤ kk a b p ∧ kk a b p ≤ EE a b
    · rw [(btw_k hab hd).2 hk, if_neg (by simp)]
      by_cases h1 : p = a
      · have := z1.1 h1; rw [if_pos (pp h1), if_neg (by omega)]
      · rw [if_neg (np h1)]
        by_cases h2 : p = b
        · have := z2.1 h2; rw [if_pos (pp h2), if_neg (by omega)]
        · have k1 : kk a b p ≠ 0 := fun k => h1 (z1.2 k)
          have k2 : kk a b p - EE a b ≠ 0 := fun k => h2 (z2.2 k)
          rw [if_neg (np h2), if_pos (by omega)]
    · have : (btw p.x a.x b.x && btw p.y a.y b.y) = false := by rw [← Bool.not_eq_true, btw_k hab hd]; exact hk
      rw [if_pos this, if_neg (by omega)]
  · rw [show decide (det a b p = 0) = false by simpa using hd, if_pos (by simp), if_neg (fun k => hd k.1)]
theorem I1 (a b c d : Pt) : EE a b * det c d a = kk a b c * det a b d - det a b c * kk a b d := by unfold EE kk det; grind
theorem I2 (a b c d : Pt) : EE a b * det c d b = (kk a b c - EE a b) * det a b d - det a b c * (kk a b d - EE a b) := by unfold EE kk det; grind
end Go.Proofs.Ytijdbddjhnjcdaa
