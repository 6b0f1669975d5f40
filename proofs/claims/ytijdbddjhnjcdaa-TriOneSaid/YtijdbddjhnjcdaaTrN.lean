/- What the counts over a triangle's three edges come to. -/
import Derived.Test.YtijdbddjhnjcdaaTrM
namespace Go.Proofs.Ytijdbddjhnjcdaa
open Go.RowKit
def InsFin (M : Tri3) (a b c p : Pt) : Prop :=
  (insP M p = true ∧ hasP M p = true ∧ (cntN M p 3 == 3) = true ∧ (cntS M p 3 == 2) = false ∧ (cntS M p 3 == 0) = true ∧ peqI p.x p.y a.x a.y = false ∧ peqI p.x p.y b.x b.y = false ∧ peqI p.x p.y c.x c.y = false) ∨
  (insP M p = false ∧ hasP M p = true ∧ (cntN M p 3 == 3) = false ∧ decide (0 < cntS M p 3) = true ∧ (cntS M p 3 == 2) = true ∧ peqI p.x p.y a.x a.y = true) ∨
  (insP M p = false ∧ hasP M p = true ∧ (cntN M p 3 == 3) = false ∧ decide (0 < cntS M p 3) = true ∧ (cntS M p 3 == 2) = true ∧ peqI p.x p.y a.x a.y = false ∧ peqI p.x p.y b.x b.y = true) ∨
  (insP M p = false ∧ hasP M p = true ∧ (cntN M p 3 == 3) = false ∧ decide (0 < cntS M p 3) = true ∧ (cntS M p 3 == 2) = true ∧ peqI p.x p.y a.x a.y = false ∧ peqI p.x p.y b.x b.y = false ∧ peqI p.x p.y c.x c.y = true) ∨
  (insP M p = false ∧ hasP M p = true ∧ (cntN M p 3 == 3) = false ∧ decide (0 < cntS M p 3) = true ∧ (cntS M p 3 == 2) = false ∧ peqI p.x p.y a.x a.y = false ∧ peqI p.x p.y b.x b.y = false ∧ peqI p.x p.y c.x c.y = false) ∨
  (insP M p = false ∧ hasP M p = false ∧ (cntN M p 3 == 3) = false ∧ decide (0 < cntS M p 3) = false ∧ (cntS M p 3 == 2) = false ∧ peqI p.x p.y a.x a.y = false ∧ peqI p.x p.y b.x b.y = false ∧ peqI p.x p.y c.x c.y = false)
theorem insP_iff {M : Tri3} {p : Pt} (hM : valT M = true) (vp : vld p = true) : insP M p = true ↔ 0 < det M.A M.B p ∧ 0 < det M.B M.C p ∧ 0 < det M.C M.A p := by
  obtain ⟨va, vb, vc, hD⟩ := tri_signs hM
  unfold insP
  rw [hM, Bool.true_and]
  simp only [Bool.and_eq_true, decide_eq_true_eq, (ori_sg va vb vp).1, (ori_sg vb vc vp).1, (ori_sg vc va vp).1]
theorem hasP_iff {M : Tri3} {p : Pt} (hM : valT M = true) (vp : vld p = true) : hasP M p = true ↔ 0 ≤ det M.A M.B p ∧ 0 ≤ det M.B M.C p ∧ 0 ≤ det M.C M.A p := by
  obtain ⟨va, vb, vc, hD⟩ := tri_signs hM
  unfold hasP
  rw [hM, vp, Bool.true_and, Bool.true_and]
  simp only [Bool.and_eq_true, decide_eq_true_eq, (ori_sg va vb vp).2.1, (ori_sg vb vc vp).2.1, (ori_sg vc va vp).2.1]
theorem at_corner {M : Tri3} (p : Pt) (hD : 0 < det M.A M.B M.C) : (p = M.A ↔ det M.A M.B p = 0 ∧ det M.C M.A p = 0) ∧ (p = M.B ↔ det M.B M.C p = 0 ∧ det M.A M.B p = 0) ∧ (p = M.C ↔ det M.C M.A p = 0 ∧ det M.B M.C p = 0) :=
  ⟨corner0 p hD, corner0 p (by rw [det_cyc]; exact hD), corner0 p (by rw [det_cyc, det_cyc]; exact hD)⟩
theorem beq_of {n m : Int} {b : Bool} (h : n = m ↔ b = true) : (n == m) = b := by
  rw [Bool.eq_iff_iff]; simpa using h
theorem ori_nv {a b p : Pt} (h : vld p = false) : ori a b p = 0 := by unfold ori; rw [if_neg]; simp [h]
theorem on_nv {a b p : Pt} (h : vld p = false) : onR p a b = false := by unfold onR; rw [h]; rfl
theorem inside_fin {a b c : Pt} (p : Pt) (h0 : ¬ ori a b c = 0) : InsFin (mk a b c) a b c p := by
  have hM := (mk_ok h0).1
  have hc := mk_corners h0 p
  obtain ⟨va, vb, vc⟩ := ori_vld h0
  obtain ⟨uA, uB, uC, hD⟩ := tri_signs hM
  generalize mk a b c = M at *
  unfold InsFin
  cases vp : vld p with
  | false =>
    have e1 : ¬ p = a := fun h => by rw [h, va] at vp; cases vp
    have e2 : ¬ p = b := fun h => by rw [h, vb] at vp; cases vp
    have e3 : ¬ p = c := fun h => by rw [h, vc] at vp; cases vp
    have n3 : cntN M p 3 = 0 := by rw [cntN3, ori_nv vp, ori_nv vp, ori_nv vp]; rfl
    have s3 : cntS M p 3 = 0 := by rw [cntS3, on_nv vp, on_nv vp, on_nv vp]; rfl
    have hi : insP M p = false := by unfold insP; rw [ori_nv vp]; simp
    have hh : hasP M p = false := by unfold hasP; rw [vp]; simp
    right; right; right; right; right
    exact ⟨hi, hh, by rw [n3]; rfl, by rw [s3]; rfl, by rw [s3]; rfl, peqI_ne.2 e1, peqI_ne.2 e2, peqI_ne.2 e3⟩
  | true =>
    have hI := insP_iff hM vp
    have hH := hasP_iff hM vp
    obtain ⟨k1, k2, k3⟩ := at_corner p hD
    have hs := det_sum M.A M.B M.C p
    have o1 := seg_on uA uB vp hD
    have o2 := seg_on (c := M.A) uB uC vp (by rw [det_cyc]; exact hD)
    have o3 := seg_on (c := M.B) uC uA vp (by rw [det_cyc, det_cyc]; exact hD)
    have n3 := cntN3 M p
    have s3 := cntS3 M p
    rw [k1, k2, k3] at hc
    simp only [(ori_sg uA uB vp).1, (ori_sg uB uC vp).1, (ori_sg uC uA vp).1] at n3
    simp only [o1, o2, o3] at s3
    generalize det M.A M.B p = u at *
    generalize det M.B M.C p = v at *
    generalize det M.C M.A p = w at *
    generalize det M.A M.B M.C = D at *
    generalize cntN M p 3 = n at *
    generalize cntS M p 3 = s at *
    have f1 : n = 3 ↔ 0 < u ∧ 0 < v ∧ 0 < w := by
      rw [n3]; (repeat' split) <;> omega
    have f2 : (0 < s ↔ (u = 0 ∧ 0 ≤ v ∧ 0 ≤ w) ∨ (v = 0 ∧ 0 ≤ w ∧ 0 ≤ u) ∨ (w = 0 ∧ 0 ≤ u ∧ 0 ≤ v)) := by
      rw [s3]; (repeat' split) <;> omega
    have f3 : s = 2 ↔ (u = 0 ∧ w = 0) ∨ (v = 0 ∧ u = 0) ∨ (w = 0 ∧ v = 0) := by
      rw [s3]; (repeat' split) <;> omega
    have f4 : 0 ≤ s := by rw [s3]; (repeat' split) <;> omega
    clear n3 s3 o1 o2 o3 k1 k2 k3
    by_cases hi : 0 < u ∧ 0 < v ∧ 0 < w
    · left
      have ha : ¬ p = a := fun h => by have := hc.1 (Or.inl h); omega
      have hb : ¬ p = b := fun h => by have := hc.1 (Or.inr (Or.inl h)); omega
      have hc' : ¬ p = c := fun h => by have := hc.1 (Or.inr (Or.inr h)); omega
      exact ⟨hI.2 hi, hH.2 (by omega), by simpa using f1.2 hi, by simp; omega, by simp; omega, peqI_ne.2 ha, peqI_ne.2 hb, peqI_ne.2 hc'⟩
    · have iF : insP M p = false := by rw [← Bool.not_eq_true, hI]; exact hi
      have nF : (n == 3) = false := by simp; omega
      right
      by_cases hh : 0 ≤ u ∧ 0 ≤ v ∧ 0 ≤ w
      · have hT := hH.2 hh
        have sT : decide (0 < s) = true := decide_eq_true (f2.2 (by omega))
        by_cases e1 : p = a
        · left; exact ⟨iF, hT, nF, sT, by simpa using f3.2 (hc.1 (Or.inl e1)), pp e1⟩
        by_cases e2 : p = b
        · right; left; exact ⟨iF, hT, nF, sT, by simpa using f3.2 (hc.1 (Or.inr (Or.inl e2))), peqI_ne.2 e1, pp e2⟩
        by_cases e3 : p = c
        · right; right; left; exact ⟨iF, hT, nF, sT, by simpa using f3.2 (hc.1 (Or.inr (Or.inr e3))), peqI_ne.2 e1, peqI_ne.2 e2, pp e3⟩
        right; right; right; left
        have ns : ¬ s = 2 := fun h => by
          rcases hc.2 (f3.1 h) with h | h | h
          · exact e1 h
          · exact e2 h
          · exact e3 h
        exact ⟨iF, hT, nF, sT, by simpa using ns, peqI_ne.2 e1, peqI_ne.2 e2, peqI_ne.2 e3⟩
      · right; right; right; right
        have hF : hasP M p = false := by rw [← Bool.not_eq_true, hH]; exact hh
        have ha : ¬ p = a := fun h => by have := hc.1 (Or.inl h); omega
        have hb : ¬ p = b := fun h => by have := hc.1 (Or.inr (Or.inl h)); omega
        have hc' : ¬ p = c := fun h => by have := hc.1 (Or.inr (Or.inr h)); omega
        exact ⟨iF, hF, nF, decide_eq_false (by omega), by simp; omega, peqI_ne.2 ha, peqI_ne.2 hb, peqI_ne.2 hc'⟩
def PartsFin (M : Tri3) (p : Pt) : Prop :=
  (insP M p = true ∧ (cntP M p 3 == 3) = true ∧ peqI p.x p.y M.A.x M.A.y = false ∧ peqI p.x p.y M.B.x M.B.y = false ∧ peqI p.x p.y M.C.x M.C.y = false) ∨
  (insP M p = false ∧ (cntP M p 3 == 2) = true ∧ peqI p.x p.y M.A.x M.A.y = false ∧ peqI p.x p.y M.B.x M.B.y = false ∧ peqI p.x p.y M.C.x M.C.y = false) ∨
  (insP M p = false ∧ (cntP M p 3 == 1) = true ∧ peqI p.x p.y M.A.x M.A.y = true) ∨
  (insP M p = false ∧ (cntP M p 3 == 1) = true ∧ peqI p.x p.y M.A.x M.A.y = false ∧ peqI p.x p.y M.B.x M.B.y = true) ∨
  (insP M p = false ∧ (cntP M p 3 == 1) = true ∧ peqI p.x p.y M.A.x M.A.y = false ∧ peqI p.x p.y M.B.x M.B.y = false ∧ peqI p.x p.y M.C.x M.C.y = true)
theorem twi_part {x y p : Pt} (vx : vld x = true) (vy : vld y = true) (vp : vld p = true) (h : 0 ≤ det x y p) : (if ori x y p = 0 then 0 else twi (mk x y p)) = det x y p := by
  have o := ori_sg vx vy vp
  have hb := ori_bd x y p
  split
  · omega
  · rw [twi_mk (by omega)]
theorem parts_fin {M : Tri3} {p : Pt} (hh : hasP M p = true) : PartsFin M p ∧ sumP M p 3 = twi M := by
  have h' := hh
  unfold hasP at h'
  simp only [Bool.and_eq_true] at h'
  have hM := h'.1
  have vp := h'.2.1
  clear h'
  obtain ⟨uA, uB, uC, hD⟩ := tri_signs hM
  have hI := insP_iff hM vp
  have hH := (hasP_iff hM vp).1 hh
  obtain ⟨k1, k2, k3⟩ := at_corner p hD
  have hs := det_sum M.A M.B M.C p
  have p3 := cntP3 M p
  have s3 := sumP3 M p
  rw [twi_part uA uB vp hH.1, twi_part uB uC vp hH.2.1, twi_part uC uA vp hH.2.2] at s3
  simp only [(ori_sg uA uB vp).2.2, (ori_sg uB uC vp).2.2, (ori_sg uC uA vp).2.2] at p3
  have tw : twi M = det M.A M.B M.C := by unfold twi; rw [if_pos hM]
  refine ⟨?_, by rw [s3, tw]; exact hs⟩
  clear s3 tw
  unfold PartsFin
  generalize det M.A M.B p = u at *
  generalize det M.B M.C p = v at *
  generalize det M.C M.A p = w at *
  generalize det M.A M.B M.C = D at *
  generalize cntP M p 3 = n at *
  by_cases hi : 0 < u ∧ 0 < v ∧ 0 < w
  · left
    have n3 : n = 3 := by rw [p3, if_neg (by omega), if_neg (by omega), if_neg (by omega)]; rfl
    exact ⟨hI.2 hi, by simpa using n3, peqI_ne.2 (fun h => by have := k1.1 h; omega), peqI_ne.2 (fun h => by have := k2.1 h; omega), peqI_ne.2 (fun h => by have := k3.1 h; omega)⟩
  · have iF : insP M p = false := by rw [← Bool.not_eq_true, hI]; exact hi
    right
    by_cases e1 : p = M.A
    · have := k1.1 e1
      right; left
      have n1 : n = 1 := by rw [p3, if_pos this.1, if_pos this.2, if_neg (by omega)]; rfl
      exact ⟨iF, by simpa using n1, pp e1⟩
    by_cases e2 : p = M.B
    · have := k2.1 e2
      right; right; left
      have n1 : n = 1 := by rw [p3, if_pos this.1, if_pos this.2, if_neg (by omega)]; rfl
      exact ⟨iF, by simpa using n1, peqI_ne.2 e1, pp e2⟩
    by_cases e3 : p = M.C
    · have := k3.1 e3
      right; right; right
      have n1 : n = 1 := by rw [p3, if_pos this.1, if_pos this.2, if_neg (by omega)]; rfl
      exact ⟨iF, by simpa using n1, peqI_ne.2 e1, peqI_ne.2 e2, pp e3⟩
    left
    rw [k1] at e1
    rw [k2] at e2
    rw [k3] at e3
    have n2 : n = 2 := by rw [p3]; (repeat' split) <;> omega
    exact ⟨iF, by simpa using n2, peqI_ne.2 (fun h => e1 (k1.1 h)), peqI_ne.2 (fun h => e2 (k2.1 h)), peqI_ne.2 (fun h => e3 (k3.1 h))⟩
end Go.Proofs.Ytijdbddjhnjcdaa
