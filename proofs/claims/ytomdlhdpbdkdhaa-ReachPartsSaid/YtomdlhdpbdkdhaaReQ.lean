/- Plain mathematics: a way goes along a triangle just if one of its two parts does; from either end; along an edge, through the inside, past a corner. -/
import Derived.Test.YtomdlhdpbdkdhaaReN
namespace Go.Proofs.Ytomdlhdpbdkdhaa
open Go.RowKit

def AF (F G : Nat → Int) : Prop := (∀ i, i < 3 → PPr (F i) (G i)) ∧ (∀ i j, i < 3 → j < 3 → F i < 0 → G j < 0 → 0 < F j * G i - F i * G j)
theorem al_AF {F G : Nat → Int} : AL (F 0) (F 1) (F 2) (G 0) (G 1) (G 2) ↔ AF F G :=
  ⟨fun h => ⟨h.p, fun i j hi hj x y => (h.q i j hi hj x y).2⟩, fun h => al_pq h.1 (fun i j hi hj _ x y => h.2 i j hi hj x y)⟩
theorem AF.swap {F G : Nat → Int} (h : AF F G) : AF G F := by
  refine ⟨fun i hi => ?_, fun i j hi hj x y => ?_⟩
  · have := h.1 i hi
    unfold PPr at *; omega
  · have := h.2 j i hj hi y x
    have e1 := Int.mul_comm (F i) (G j)
    have e2 := Int.mul_comm (F j) (G i)
    omega
section
variable {F H G d : Nat → Int} {k : Int} (hk : 2 ≤ k) (hH : ∀ i, H i = F i + d i) (hG : ∀ i, G i = H i + (k - 1) * d i)
include hk hH hG
theorem sg_d (i : Nat) : (0 < d i → 0 < (k - 1) * d i) ∧ (d i < 0 → (k - 1) * d i < 0) ∧ (d i = 0 → (k - 1) * d i = 0) := by
  have _h := hH
  have _g := hG
  exact ⟨fun h => Int.mul_pos (by omega) h, fun h => Int.mul_neg_of_pos_of_neg (by omega) h, fun h => by rw [h, Int.mul_zero]⟩
theorem om_fh (i j : Nat) : F j * H i - F i * H j = F j * d i - F i * d j := by
  have _h := hk
  have _g := hG
  rw [hH, hH]; grind
theorem om_fg (i j : Nat) : F j * G i - F i * G j = k * (F j * d i - F i * d j) := by
  have _h := hk
  rw [hG, hG, hH, hH]; grind
theorem om_hg (i j : Nat) : H j * G i - H i * G j = (k - 1) * (F j * d i - F i * d j) := by
  have _h := hk
  rw [hG, hG, hH, hH]; grind
theorem om_fg_pos (i j : Nat) : 0 < F j * G i - F i * G j ↔ 0 < F j * d i - F i * d j := by
  rw [om_fg hk hH hG i j]; exact (pos_iff (show 0 < k by omega) rfl).1.symm
theorem om_hg_pos (i j : Nat) : 0 < H j * G i - H i * G j ↔ 0 < F j * d i - F i * d j := by
  rw [om_hg hk hH hG i j]; exact (pos_iff (show 0 < k - 1 by omega) rfl).1.symm
theorem first_whole (h : AF F H) : AF F G := by
  refine ⟨fun i hi => ?_, fun i j hi hj x y => ?_⟩
  · have h1 := h.1 i hi
    have h2 := hH i
    have h3 := hG i
    have h4 := sg_d hk hH hG i
    unfold PPr at *; omega
  · rw [om_fg_pos hk hH hG]
    by_cases hj0 : H j < 0
    · have := h.2 i j hi hj x hj0
      rw [om_fh hk hH hG] at this; exact this
    · have a1 := h.1 i hi
      have a2 := hH j
      have a3 := hG j
      have a4 := sg_d hk hH hG j
      unfold PPr at a1
      have p1 := Int.mul_pos (show 0 < F j by omega) (show 0 < H i by omega)
      have p2 := Int.mul_nonneg (show 0 ≤ -F i by omega) (show 0 ≤ H j by omega)
      rw [← om_fh hk hH hG i j]
      rw [Int.neg_mul] at p2
      omega
theorem second_whole (h : AF H G) : AF F G := by
  refine ⟨fun i hi => ?_, fun i j hi hj x y => ?_⟩
  · have h1 := h.1 i hi
    have h2 := hH i
    have h3 := hG i
    have h4 := sg_d hk hH hG i
    unfold PPr at *; omega
  · rw [om_fg_pos hk hH hG]
    by_cases hi0 : H i < 0
    · have := h.2 i j hi hj hi0 y
      rw [om_hg_pos hk hH hG] at this; exact this
    · have a1 := h.1 j hj
      have a2 := hH i
      have a3 := hG i
      have a4 := sg_d hk hH hG i
      unfold PPr at a1
      have p1 := Int.mul_pos (show 0 < H j by omega) (show 0 < G i by omega)
      have p2 := Int.mul_nonneg (show 0 ≤ H i by omega) (show 0 ≤ -G j by omega)
      rw [← om_hg_pos hk hH hG i j]
      rw [Int.mul_neg] at p2
      omega
theorem whole_part (h : AF F G) : AF F H ∨ AF H G := by
  by_cases hn : ∃ m, m < 3 ∧ H m < 0
  · obtain ⟨m, m3, hm⟩ := hn
    have b1 := h.1 m m3
    have b2 := hH m
    have b3 := hG m
    have b4 := sg_d hk hH hG m
    unfold PPr at b1
    by_cases fm : 0 < F m
    · left
      have P : ∀ i, i < 3 → PPr (F i) (H i) := fun i hi => by
        have c1 := h.1 i hi
        have c2 := hH i
        have c3 := hG i
        have c4 := sg_d hk hH hG i
        unfold PPr at *
        by_cases g : F i < 0 ∧ H i ≤ 0
        · exfalso
          have q := (om_fg_pos hk hH hG i m).1 (h.2 i m hi m3 g.1 (by omega))
          have p1 : F m * d i ≤ F m * -F i := Int.mul_le_mul_of_nonneg_left (by omega) (by omega)
          have p2 : -F i * d m < -F i * -F m := Int.mul_lt_mul_of_pos_left (by omega) (by omega)
          rw [Int.neg_mul, Int.neg_mul_neg] at p2
          rw [Int.mul_neg, Int.mul_comm (F m) (F i)] at p1
          omega
        · omega
      refine ⟨P, fun i j hi hj x y => ?_⟩
      by_cases gj : G j < 0
      · have := h.2 i j hi hj x gj
        rw [om_fg_pos hk hH hG] at this
        rw [om_fh hk hH hG]; exact this
      · exfalso
        have c1 := P j hj
        have c2 := hH j
        have c3 := hG j
        have c4 := sg_d hk hH hG j
        unfold PPr at c1
        omega
    · right
      have P : ∀ i, i < 3 → PPr (H i) (G i) := fun i hi => by
        have c1 := h.1 i hi
        have c2 := hH i
        have c3 := hG i
        have c4 := sg_d hk hH hG i
        unfold PPr at *
        by_cases g : G i < 0 ∧ H i ≤ 0
        · exfalso
          have q := (om_hg_pos hk hH hG m i).2 ((om_fg_pos hk hH hG m i).1 (h.2 m i m3 hi (by omega) g.1))
          have p1 := Int.mul_nonpos_of_nonpos_of_nonneg g.2 (show 0 ≤ G m by omega)
          have p2 := Int.mul_pos_of_neg_of_neg hm g.1
          omega
        · omega
      refine ⟨P, fun i j hi hj x y => ?_⟩
      by_cases fi : F i < 0
      · have := h.2 i j hi hj fi y
        rw [om_fg_pos hk hH hG] at this
        rw [om_hg_pos hk hH hG]; exact this
      · exfalso
        have c1 := P i hi
        have c2 := hH i
        have c3 := hG i
        have c4 := sg_d hk hH hG i
        unfold PPr at c1
        omega
  · have hn : ∀ m, m < 3 → 0 ≤ H m := fun m m3 => by
      rcases Int.lt_or_le (H m) 0 with g | g
      · exact absurd ⟨m, m3, g⟩ hn
      · exact g
    by_cases h1 : ∀ i, i < 3 → PPr (F i) (H i)
    · left; exact ⟨h1, fun i j hi hj x y => by have := hn j hj; omega⟩
    by_cases h2 : ∀ i, i < 3 → PPr (H i) (G i)
    · right; exact ⟨h2, fun i j hi hj x y => by have := hn i hi; omega⟩
    exfalso
    obtain ⟨i, h1⟩ := Classical.not_forall.1 h1
    obtain ⟨hi, h1⟩ := Classical.not_imp.1 h1
    obtain ⟨j, h2⟩ := Classical.not_forall.1 h2
    obtain ⟨hj, h2⟩ := Classical.not_imp.1 h2
    have ni := hn i hi
    have nj := hn j hj
    unfold PPr at h1 h2
    have c2 := hH j
    have c3 := hG j
    have c4 := sg_d hk hH hG j
    have e2 := hH i
    have q := (om_fg_pos hk hH hG i j).1 (h.2 i j hi hj (by omega) (by omega))
    rw [show d i = -F i by omega, show d j = -F j by omega, Int.mul_neg, Int.mul_neg, Int.mul_comm (F j) (F i)] at q
    omega
end
theorem sal_AF (T : Tri3) (a b : Pt) : sal T a b = true ↔ AF (edF T a) (edF T b) := by rw [al_iff]; exact al_AF (F := edF T a) (G := edF T b)
theorem sal_swap (T : Tri3) (a b : Pt) : sal T a b = sal T b a := by
  rw [Bool.eq_iff_iff, sal_AF, sal_AF]; exact ⟨AF.swap, AF.swap⟩
theorem alg_swap (T : Tri3) (a b : Pt) : alg T a b = alg T b a := by
  rw [alg_eq, alg_eq]; unfold ralg
  rw [sal_swap T a b]
  have e : peqI a.x a.y b.x b.y = peqI b.x b.y a.x a.y := by
    rw [Bool.eq_iff_iff, peqI_eq, peqI_eq]; exact ⟨Eq.symm, Eq.symm⟩
  rw [e]
  cases vld a <;> cases vld b <;> simp
theorem alg_sal {T : Tri3} {a b : Pt} (hT : valT T = true) (va : vld a = true) (vb : vld b = true) (n : a ≠ b) : alg T a b = sal T a b := by
  rw [alg_eq]; unfold ralg
  rw [hT, va, vb, peqI_ne.2 n]; simp
theorem alg_parts {T : Tri3} {p : Pt} {x y k : Int} (hT : valT T = true) (vp : vld p = true) (vq : vld ⟨p.x + x, p.y + y⟩ = true) (vr : vld ⟨p.x + k * x, p.y + k * y⟩ = true) (hk : 2 ≤ k) (n : ¬ (x = 0 ∧ y = 0)) :
    alg T p ⟨p.x + k * x, p.y + k * y⟩ = (alg T p ⟨p.x + x, p.y + y⟩ || alg T ⟨p.x + x, p.y + y⟩ ⟨p.x + k * x, p.y + k * y⟩) := by
  have ne : ∀ {m z : Int}, 0 < m → m * z = 0 → z = 0 := fun hm h => by
    rcases Int.mul_eq_zero.1 h with g | g
    · omega
    · exact g
  have n1 : p ≠ ⟨p.x + x, p.y + y⟩ := fun e => by
    rw [Pt.eq_iff] at e; simp only at e; omega
  have n2 : p ≠ ⟨p.x + k * x, p.y + k * y⟩ := fun e => by
    rw [Pt.eq_iff] at e; simp only at e
    exact n ⟨ne (show 0 < k by omega) (by omega), ne (show 0 < k by omega) (by omega)⟩
  have n3 : (⟨p.x + x, p.y + y⟩ : Pt) ≠ ⟨p.x + k * x, p.y + k * y⟩ := fun e => by
    rw [Pt.eq_iff] at e; simp only at e
    refine n ⟨ne (show 0 < k - 1 by omega) ?_, ne (show 0 < k - 1 by omega) ?_⟩
    · rw [Int.sub_mul]; omega
    · rw [Int.sub_mul]; omega
  rw [alg_sal hT vp vr n2, alg_sal hT vp vq n1, alg_sal hT vq vr n3, Bool.eq_iff_iff, Bool.or_eq_true, sal_AF, sal_AF, sal_AF]
  have hH : ∀ i, edF T ⟨p.x + x, p.y + y⟩ i = edF T p i + (fun i : Nat => ((crn T (i + 1)).x - (crn T i).x) * y - ((crn T (i + 1)).y - (crn T i).y) * x) i := fun i => by
    unfold edF det; simp only; grind
  have hG : ∀ i, edF T ⟨p.x + k * x, p.y + k * y⟩ i = edF T ⟨p.x + x, p.y + y⟩ i + (k - 1) * (fun i : Nat => ((crn T (i + 1)).x - (crn T i).x) * y - ((crn T (i + 1)).y - (crn T i).y) * x) i := fun i => by
    unfold edF det; simp only; grind
  constructor
  · exact whole_part hk hH hG
  · rintro (h | h)
    · exact first_whole hk hH hG h
    · exact second_whole hk hH hG h
/-- The corners at three places in a row. -/
theorem crn_row (T : Tri3) (i : Int) : (crn T i = T.A ∧ crn T (i + 1) = T.B ∧ crn T (i + 2) = T.C) ∨ (crn T i = T.B ∧ crn T (i + 1) = T.C ∧ crn T (i + 2) = T.A) ∨ (crn T i = T.C ∧ crn T (i + 1) = T.A ∧ crn T (i + 2) = T.B) := by
  have h : i % 3 = 0 ∧ (i + 1) % 3 = 1 ∧ (i + 2) % 3 = 2 ∨ i % 3 = 1 ∧ (i + 1) % 3 = 2 ∧ (i + 2) % 3 = 0 ∨ i % 3 = 2 ∧ (i + 1) % 3 = 0 ∧ (i + 2) % 3 = 1 := by omega
  unfold crn plc
  rcases h with ⟨a, b, c⟩ | ⟨a, b, c⟩ | ⟨a, b, c⟩ <;> rw [a, b, c] <;> simp
theorem AF_of {T : Tri3} {a b : Pt} {X Y Z : Pt} (hr : (X = T.A ∧ Y = T.B ∧ Z = T.C) ∨ (X = T.B ∧ Y = T.C ∧ Z = T.A) ∨ (X = T.C ∧ Y = T.A ∧ Z = T.B)) :
    sal T a b = true ↔ AL (det X Y a) (det Y Z a) (det Z X a) (det X Y b) (det Y Z b) (det Z X b) := by
  rw [al_iff, edF0, edF1, edF2, edF0, edF1, edF2]
  rcases hr with ⟨rfl, rfl, rfl⟩ | ⟨rfl, rfl, rfl⟩ | ⟨rfl, rfl, rfl⟩
  · rfl
  · exact AL.rot_iff
  · rw [AL.rot_iff]; exact AL.rot_iff
theorem z1 (x y : Pt) : det x y x = 0 := by unfold det; grind
theorem z2 (x y : Pt) : det x y y = 0 := by unfold det; grind
/-- Along an edge; past a corner; through the inside. -/
theorem edges_fin {T : Tri3} (hT : valT T = true) {X Y Z : Pt} (hr : (X = T.A ∧ Y = T.B ∧ Z = T.C) ∨ (X = T.B ∧ Y = T.C ∧ Z = T.A) ∨ (X = T.C ∧ Y = T.A ∧ Z = T.B)) :
    alg T X Y = true ∧ alg T Y X = true ∧ (∀ p, vld p = true → p ≠ X → ori Y X p = 1 → ori X Z p = 1 → alg T X p = false) ∧ (∀ p q, insP T p = true → vld p = true → vld q = true → p ≠ q → alg T p q = true) := by
  obtain ⟨uA, uB, uC, hD0⟩ := tri_signs hT
  have hx : vld X = true ∧ vld Y = true ∧ vld Z = true ∧ 0 < det X Y Z := by
    rcases hr with ⟨rfl, rfl, rfl⟩ | ⟨rfl, rfl, rfl⟩ | ⟨rfl, rfl, rfl⟩
    · exact ⟨uA, uB, uC, hD0⟩
    · exact ⟨uB, uC, uA, by rw [det_cyc]; exact hD0⟩
    · exact ⟨uC, uA, uB, by rw [det_cyc, det_cyc]; exact hD0⟩
  obtain ⟨vX, vY, vZ, hD⟩ := hx
  have nXY : X ≠ Y := fun e => by
    subst e
    have : det X X Z = 0 := by unfold det; grind
    omega
  have c1 : det Y Z X = det X Y Z := det_cyc X Y Z
  have c2 : det Z X Y = det X Y Z := by rw [det_cyc, det_cyc]
  have e1 : alg T X Y = true := by
    rw [alg_sal hT vX vY nXY, AF_of hr, z1, z2, z2, c1, c2, z1]
    refine ⟨?_, ?_, ?_, ?_, ?_, ?_, ?_, ?_, ?_⟩ <;> first
      | (unfold PPr; omega)
      | (intro k1 k2; omega)
  refine ⟨e1, by rw [alg_swap]; exact e1, fun p vp nX o1 o2 => ?_, fun p q hi vp vq n => ?_⟩
  · rw [← Bool.not_eq_true, alg_sal hT vX vp (fun e => nX e.symm), AF_of hr]
    intro h
    have := h.p0
    rw [z1] at this
    have s1 : 0 < det Y X p := (ori_sg vY vX vp).1.1 (by omega)
    rw [det_swap X Y p] at s1
    unfold PPr at this
    omega
  · rw [alg_sal hT vp vq n, al_iff, edF0, edF1, edF2, edF0, edF1, edF2]
    obtain ⟨i0, i1, i2⟩ := (insP_iff hT vp).1 hi
    refine ⟨.inl i0, .inl i1, .inl i2, ?_, ?_, ?_, ?_, ?_, ?_⟩ <;> (intro k1 k2; omega)
end Go.Proofs.Ytomdlhdpbdkdhaa
