/- Plain mathematics of a way and a triangle: the clipped part of the way, and the program's own test. -/
import Derived.Test.YtomdlhdpbdkdhaaReB
import Derived.Test.YtomdlhdpbdkdhaaReE
import Derived.Test.YtomdlhdpbdkdhaaTrN
import Derived.Lib.Hide
namespace Go.Proofs.Ytomdlhdpbdkdhaa
open Go.RowKit

theorem frle {a b c d e f : Int} (hd : 0 < d) (hb : 0 < b) (hf : 0 < f) (h1 : a * d ≤ c * b) (h2 : c * f ≤ e * d) : a * f ≤ e * b := by
  have e1 : a * d * f ≤ c * b * f := Int.mul_le_mul_of_nonneg_right h1 (by omega)
  have e2 : c * f * b ≤ e * d * b := Int.mul_le_mul_of_nonneg_right h2 (by omega)
  have e3 : d * (a * f) ≤ d * (e * b) := by grind
  exact Int.le_of_mul_le_mul_left e3 hd
theorem frlt {a b c d e f : Int} (hd : 0 < d) (hb : 0 < b) (hf : 0 < f) (h1 : a * d ≤ c * b) (h2 : c * f < e * d) : a * f < e * b := by
  have e1 : a * d * f ≤ c * b * f := Int.mul_le_mul_of_nonneg_right h1 (by omega)
  have e2 : c * f * b < e * d * b := Int.mul_lt_mul_of_pos_right h2 hb
  have e3 : d * (a * f) < d * (e * b) := by grind
  exact Int.lt_of_mul_lt_mul_left e3 (by omega)
theorem frlt2 {a b c d e f : Int} (hd : 0 < d) (hb : 0 < b) (hf : 0 < f) (h1 : a * d < c * b) (h2 : c * f ≤ e * d) : a * f < e * b := by
  have e1 : a * d * f < c * b * f := Int.mul_lt_mul_of_pos_right h1 hf
  have e2 : c * f * b ≤ e * d * b := Int.mul_le_mul_of_nonneg_right h2 (by omega)
  have e3 : d * (a * f) < d * (e * b) := by grind
  exact Int.lt_of_mul_lt_mul_left e3 (by omega)
/-- What the clipped part is: the greatest lower end, the least upper end. -/
structure ClpInv (F G : Nat → Int) (n : Nat) (s : Clp) : Prop where
  ln0 : 0 ≤ s.ln
  ld0 : 0 < s.ld
  hd0 : 0 < s.hd
  hn1 : s.hn ≤ s.hd
  lo : ∀ i, i < n → F i < 0 → -F i * s.ld ≤ s.ln * (G i - F i)
  loE : (s.ln = 0 ∧ s.ld = 1) ∨ ∃ i, i < n ∧ F i < 0 ∧ s.ln = -F i ∧ s.ld = G i - F i
  hi : ∀ i, i < n → G i < 0 → s.hn * (F i - G i) ≤ F i * s.hd
  hiE : (s.hn = 1 ∧ s.hd = 1) ∨ ∃ i, i < n ∧ G i < 0 ∧ s.hn = F i ∧ s.hd = F i - G i
theorem stp_inv {F G : Nat → Int} {n : Nat} {s : Clp} (h : ClpInv F G n s) (hb : ∀ i, i < n + 1 → ¬ (F i < 0 ∧ G i < 0)) : ClpInv F G (n + 1) (stp (F n) (G n) s) := by
  obtain ⟨ln0, ld0, hd0, hn1, lo, loE, hi, hiE⟩ := h
  have hbn := hb n (by omega)
  obtain ⟨ln, ld, hn, hd⟩ := s
  simp only at *
  have LE := Lib.hid loE
  have HE := Lib.hid hiE
  clear loE hiE
  have A : ∃ x y, (stp (F n) (G n) ⟨ln, ld, hn, hd⟩).ln = x ∧ (stp (F n) (G n) ⟨ln, ld, hn, hd⟩).ld = y ∧ 0 ≤ x ∧ 0 < y ∧ (∀ i, i < n + 1 → F i < 0 → -F i * y ≤ x * (G i - F i)) ∧ ((x = 0 ∧ y = 1) ∨ ∃ i, i < n + 1 ∧ F i < 0 ∧ x = -F i ∧ y = G i - F i) := by
    by_cases hc : F n < 0 ∧ 0 < -F n * ld - ln * (G n - F n)
    · refine ⟨-F n, G n - F n, if_pos hc, if_pos hc, by omega, by omega, fun i hi hF => ?_, .inr ⟨n, by omega, hc.1, rfl, rfl⟩⟩
      by_cases e : i = n
      · rw [e]; exact Int.le_refl _
      · have := hb i hi
        exact frle ld0 (by omega) (by omega) (lo i (by omega) hF) (by omega)
    · refine ⟨ln, ld, if_neg hc, if_neg hc, ln0, ld0, fun i hi hF => ?_, ?_⟩
      · by_cases e : i = n
        · rw [e] at hF ⊢
          have : ¬ 0 < -F n * ld - ln * (G n - F n) := fun k => hc ⟨hF, k⟩
          omega
        · exact lo i (by omega) hF
      · rcases LE.out with h | ⟨i, h1, h2⟩
        · exact .inl h
        · exact .inr ⟨i, by omega, h2⟩
  have AA := Lib.hid A
  clear A
  have B : ∃ x y, (stp (F n) (G n) ⟨ln, ld, hn, hd⟩).hn = x ∧ (stp (F n) (G n) ⟨ln, ld, hn, hd⟩).hd = y ∧ 0 < y ∧ x ≤ y ∧ (∀ i, i < n + 1 → G i < 0 → x * (F i - G i) ≤ F i * y) ∧ ((x = 1 ∧ y = 1) ∨ ∃ i, i < n + 1 ∧ G i < 0 ∧ x = F i ∧ y = F i - G i) := by
    by_cases hc : G n < 0 ∧ F n * hd - hn * (F n - G n) < 0
    · refine ⟨F n, F n - G n, if_pos hc, if_pos hc, by omega, by omega, fun i hi' hF => ?_, .inr ⟨n, by omega, hc.1, rfl, rfl⟩⟩
      by_cases e : i = n
      · rw [e]; exact Int.le_refl _
      · have := hb i hi'
        exact frle hd0 (by omega) (by omega) (by omega) (hi i (by omega) hF)
    · refine ⟨hn, hd, if_neg hc, if_neg hc, hd0, hn1, fun i hi' hF => ?_, ?_⟩
      · by_cases e : i = n
        · rw [e] at hF ⊢
          have : ¬ F n * hd - hn * (F n - G n) < 0 := fun k => hc ⟨hF, k⟩
          omega
        · exact hi i (by omega) hF
      · rcases HE.out with h | ⟨i, h1, h2⟩
        · exact .inl h
        · exact .inr ⟨i, by omega, h2⟩
  obtain ⟨x, y, ex, ey, a1, a2, a3, a4⟩ := AA.out
  obtain ⟨x', y', ex', ey', b1, b2, b3, b4⟩ := B
  generalize stp (F n) (G n) ⟨ln, ld, hn, hd⟩ = s at *
  subst ex ey ex' ey'
  exact ⟨a1, a2, b1, b2, a3, a4, b3, b4⟩
theorem clp_inv (T : Tri3) (a b : Pt) : ∀ n, (∀ i, i < n → ¬ (edF T a i < 0 ∧ edF T b i < 0)) → ClpInv (edF T a) (edF T b) n (clp T a b n)
  | 0, _ => ⟨by simp [clp], by simp [clp], by simp [clp], by simp [clp], fun i h => absurd h (by omega), .inl ⟨rfl, rfl⟩, fun i h => absurd h (by omega), .inl ⟨rfl, rfl⟩⟩
  | n + 1, h => by
    have := clp_inv T a b n (fun i hi => h i (by omega))
    exact stp_inv this h
/-- A way with ends f, g over an edge is not all beyond it. -/
def PPr (f g : Int) : Prop := 0 < f ∨ 0 < g ∨ (f = 0 ∧ g = 0)
/-- It comes in over the one edge ahead of going out over the other. -/
def QQr (f g f' g' : Int) : Prop := f < 0 → g' < 0 → 0 < f' * g - f * g'
structure AL (f0 f1 f2 g0 g1 g2 : Int) : Prop where
  p0 : PPr f0 g0
  p1 : PPr f1 g1
  p2 : PPr f2 g2
  q01 : QQr f0 g0 f1 g1
  q02 : QQr f0 g0 f2 g2
  q10 : QQr f1 g1 f0 g0
  q12 : QQr f1 g1 f2 g2
  q20 : QQr f2 g2 f0 g0
  q21 : QQr f2 g2 f1 g1
theorem lst_iff (s : Clp) : lst s = true ↔ s.ln * s.hd < s.hn * s.ld := by
  unfold lst
  have := sgn_cases (s.ln * s.hd - s.hn * s.ld)
  rw [decide_eq_true_eq]; omega
theorem bth_iff (T : Tri3) (a b : Pt) (n : Nat) : bth T a b n = false ↔ ¬ (edF T a n < 0 ∧ edF T b n < 0) := by
  unfold bth; rw [← Bool.not_eq_true, Bool.and_eq_true, decide_eq_true_eq, decide_eq_true_eq]
theorem sal_split (T : Tri3) (a b : Pt) : sal T a b = true ↔ (∀ i, i < 3 → ¬ (edF T a i < 0 ∧ edF T b i < 0)) ∧ (clp T a b 3).ln * (clp T a b 3).hd < (clp T a b 3).hn * (clp T a b 3).ld := by
  unfold sal
  simp only [Bool.and_eq_true, Bool.not_eq_true', bth_iff, lst_iff]
  constructor
  · rintro ⟨h0, h1, h2, h3⟩
    refine ⟨fun i hi => ?_, h3⟩
    have : i = 0 ∨ i = 1 ∨ i = 2 := by omega
    rcases this with rfl | rfl | rfl
    · exact h0
    · exact h1
    · exact h2
  · rintro ⟨h, h3⟩
    exact ⟨h 0 (by omega), h 1 (by omega), h 2 (by omega), h3⟩
theorem al_pq {F G : Nat → Int} (hp : ∀ i, i < 3 → PPr (F i) (G i)) (hq : ∀ i j, i < 3 → j < 3 → i ≠ j → QQr (F i) (G i) (F j) (G j)) : AL (F 0) (F 1) (F 2) (G 0) (G 1) (G 2) :=
  ⟨hp 0 (by omega), hp 1 (by omega), hp 2 (by omega), hq 0 1 (by omega) (by omega) (by omega), hq 0 2 (by omega) (by omega) (by omega), hq 1 0 (by omega) (by omega) (by omega), hq 1 2 (by omega) (by omega) (by omega), hq 2 0 (by omega) (by omega) (by omega), hq 2 1 (by omega) (by omega) (by omega)⟩
theorem AL.p {F G : Nat → Int} (h : AL (F 0) (F 1) (F 2) (G 0) (G 1) (G 2)) (i : Nat) (hi : i < 3) : PPr (F i) (G i) := by
  have : i = 0 ∨ i = 1 ∨ i = 2 := by omega
  rcases this with rfl | rfl | rfl
  · exact h.p0
  · exact h.p1
  · exact h.p2
theorem AL.q {F G : Nat → Int} (h : AL (F 0) (F 1) (F 2) (G 0) (G 1) (G 2)) (i j : Nat) (hi : i < 3) (hj : j < 3) : F i < 0 → G j < 0 → i ≠ j ∧ 0 < F j * G i - F i * G j := by
  intro hF hG
  have hn : i ≠ j := by
    intro e; subst e
    have := h.p i hi
    unfold PPr at this; omega
  refine ⟨hn, ?_⟩
  have h1 : i = 0 ∨ i = 1 ∨ i = 2 := by omega
  have h2 : j = 0 ∨ j = 1 ∨ j = 2 := by omega
  rcases h1 with rfl | rfl | rfl <;> rcases h2 with rfl | rfl | rfl <;> first
    | exact absurd rfl hn
    | exact h.q01 hF hG
    | exact h.q02 hF hG
    | exact h.q10 hF hG
    | exact h.q12 hF hG
    | exact h.q20 hF hG
    | exact h.q21 hF hG
theorem al_iff (T : Tri3) (a b : Pt) : sal T a b = true ↔ AL (edF T a 0) (edF T a 1) (edF T a 2) (edF T b 0) (edF T b 1) (edF T b 2) := by
  rw [sal_split]
  constructor
  · rintro ⟨hb, hl⟩
    have I := clp_inv T a b 3 hb
    generalize clp T a b 3 = s at *
    obtain ⟨ln0, ld0, hd0, hn1, lo, loE, hi, hiE⟩ := I
    generalize edF T a = F at *
    generalize edF T b = G at *
    refine al_pq (fun i hi3 => ?_) (fun i j hi3 hj3 hij => ?_)
    · have hbi := hb i hi3
      unfold PPr
      rcases Int.lt_trichotomy (F i) 0 with hF | hF | hF
      · rcases Int.lt_trichotomy (G i) 0 with hG | hG | hG
        · omega
        · exfalso
          have h1 := lo i hi3 hF
          rw [hG] at h1
          have h2 : s.ld ≤ s.ln := by
            have e : -F i * s.ld ≤ -F i * s.ln := by rw [Int.mul_comm (-F i) s.ln]; simpa using h1
            exact Int.le_of_mul_le_mul_left e (by omega)
          have h3 : s.ld * s.hd ≤ s.ln * s.hd := Int.mul_le_mul_of_nonneg_right h2 (by omega)
          have h4 : s.hn * s.ld ≤ s.hd * s.ld := Int.mul_le_mul_of_nonneg_right hn1 (by omega)
          rw [Int.mul_comm s.hd s.ld] at h4
          omega
        · omega
      · rcases Int.lt_trichotomy (G i) 0 with hG | hG | hG
        · exfalso
          have h1 := hi i hi3 hG
          rw [hF] at h1
          simp only [Int.zero_mul, Int.zero_sub] at h1
          have h2 : s.hn ≤ 0 := by
            rcases Int.lt_or_le 0 s.hn with k | k
            · have := Int.mul_pos k (show 0 < -G i by omega)
              omega
            · exact k
          have h3 : 0 ≤ s.ln * s.hd := Int.mul_nonneg ln0 (by omega)
          have h4 : s.hn * s.ld ≤ 0 := Int.mul_nonpos_of_nonpos_of_nonneg h2 (by omega)
          omega
        · omega
        · omega
      · omega
    · intro hF hG
      have hbi := hb i hi3
      have hbj := hb j hj3
      have h1 := frlt ld0 (show 0 < G i - F i by omega) hd0 (lo i hi3 hF) hl
      have h2 := frlt2 hd0 (show 0 < G i - F i by omega) (show 0 < F j - G j by omega) h1 (hi j hj3 hG)
      grind
  · intro h
    have hb : ∀ i, i < 3 → ¬ (edF T a i < 0 ∧ edF T b i < 0) := fun i hi => by
      have := AL.p (F := edF T a) (G := edF T b) h i hi
      unfold PPr at this; omega
    refine ⟨hb, ?_⟩
    have I := clp_inv T a b 3 hb
    generalize clp T a b 3 = s at *
    obtain ⟨ln0, ld0, hd0, hn1, lo, loE, hi, hiE⟩ := I
    have P := AL.p (F := edF T a) (G := edF T b) h
    have Q := AL.q (F := edF T a) (G := edF T b) h
    clear h
    generalize edF T a = F at *
    generalize edF T b = G at *
    rcases loE with ⟨e1, e2⟩ | ⟨i, i3, hF, e1, e2⟩ <;> rcases hiE with ⟨e3, e4⟩ | ⟨j, j3, hG, e3, e4⟩ <;> rw [e1, e2, e3, e4]
    · omega
    · have := P j j3
      unfold PPr at this; omega
    · have := P i i3
      unfold PPr at this; omega
    · have := (Q i j i3 j3 hF hG).2
      grind
/-- Where some of the way is left, a point of it is inside all edges that the way does not lie on. -/
theorem al_mid {T : Tri3} {a b : Pt} (h : sal T a b = true) : ∃ r s : Int, 0 < r ∧ 0 < s ∧ ∀ i, i < 3 → ¬ (edF T a i = 0 ∧ edF T b i = 0) → 0 < r * edF T a i + s * edF T b i := by
  obtain ⟨hb, hl⟩ := (sal_split T a b).1 h
  have I := clp_inv T a b 3 hb
  generalize clp T a b 3 = s at *
  obtain ⟨ln0, ld0, hd0, hn1, lo, _, hi, _⟩ := I
  generalize edF T a = F at *
  generalize edF T b = G at *
  clear h
  obtain ⟨ln, ld, hn, hd⟩ := s
  simp only at *
  have k1 : 0 ≤ ln * hd := Int.mul_nonneg ln0 (by omega)
  have k2 : hn * ld ≤ hd * ld := Int.mul_le_mul_of_nonneg_right hn1 (by omega)
  refine ⟨2 * (hd * ld) - (ln * hd + hn * ld), ln * hd + hn * ld, by omega, by omega, fun i i3 hn0 => ?_⟩
  have hbi := hb i i3
  have lo := lo i i3
  have hi := hi i i3
  generalize F i = f at *
  generalize G i = g at *
  rcases Int.lt_or_le f 0 with hF | hF
  · have h1 := lo hF
    have h2 : -f * ld * hd ≤ ln * (g - f) * hd := Int.mul_le_mul_of_nonneg_right h1 (by omega)
    have h3 : ln * hd * (g - f) < hn * ld * (g - f) := Int.mul_lt_mul_of_pos_right hl (by omega)
    grind
  · rcases Int.lt_or_le g 0 with hG | hG
    · have h1 := hi hG
      have h2 : hn * (f - g) * ld ≤ f * hd * ld := Int.mul_le_mul_of_nonneg_right h1 (by omega)
      have h3 : ln * hd * (f - g) < hn * ld * (f - g) := Int.mul_lt_mul_of_pos_right hl (by omega)
      grind
    · have hr : 0 < 2 * (hd * ld) - (ln * hd + hn * ld) := by omega
      have hs : 0 < ln * hd + hn * ld := by omega
      generalize 2 * (hd * ld) - (ln * hd + hn * ld) = r at *
      generalize ln * hd + hn * ld = s at *
      rcases Int.lt_or_le 0 f with k | k
      · have := Int.mul_pos hr k
        have := Int.mul_nonneg (show 0 ≤ s by omega) hG
        omega
      · have hf0 : f = 0 := by omega
        have := Int.mul_pos hs (show 0 < g by omega)
        rw [hf0, Int.mul_zero]; omega
end Go.Proofs.Ytomdlhdpbdkdhaa
