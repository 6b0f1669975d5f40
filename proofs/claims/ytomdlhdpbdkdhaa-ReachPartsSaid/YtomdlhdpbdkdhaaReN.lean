/- Plain mathematics: the program's test of a way along a triangle is the document's. -/
import Derived.Test.YtomdlhdpbdkdhaaReM
namespace Go.Proofs.Ytomdlhdpbdkdhaa
open Go.RowKit

theorem lm3_pos (p q a b c : Pt) : 0 < lm3 p q a b c ↔ 0 < ori p q a ∨ 0 < ori p q b ∨ 0 < ori p q c := by
  unfold lm3 mx2; (repeat' split) <;> omega
theorem lm2_pos (p q a b : Pt) : 0 < lm2 p q a b ↔ 0 < ori p q a ∨ 0 < ori p q b := by
  unfold lm2 mx2; (repeat' split) <;> omega
theorem ls2_pos (T : Tri3) (a b : Pt) : 0 < ls2 T a b ↔ 0 < lm2 T.A T.B a b ∧ 0 < lm2 T.B T.C a b ∧ 0 < lm2 T.C T.A a b := by
  unfold ls2 mn2; (repeat' split) <;> omega
theorem edF0 (T : Tri3) (p : Pt) : edF T p 0 = det T.A T.B p := rfl
theorem edF1 (T : Tri3) (p : Pt) : edF T p 1 = det T.B T.C p := rfl
theorem edF2 (T : Tri3) (p : Pt) : edF T p 2 = det T.C T.A p := rfl
theorem det_back (a b c : Pt) : det b a c = -det a b c := by unfold det; grind
theorem thr_iff {T : Tri3} {a b : Pt} (hT : valT T = true) (ha : vld a = true) (hb : vld b = true) : thr T a b = true ↔
    (0 < det a b T.A ∨ 0 < det a b T.B ∨ 0 < det a b T.C) ∧ (det a b T.A < 0 ∨ det a b T.B < 0 ∨ det a b T.C < 0) ∧
    (0 < det T.A T.B a ∨ 0 < det T.A T.B b) ∧ (0 < det T.B T.C a ∨ 0 < det T.B T.C b) ∧ (0 < det T.C T.A a ∨ 0 < det T.C T.A b) := by
  obtain ⟨uA, uB, uC, hD⟩ := tri_signs hT
  unfold thr
  simp only [Bool.and_eq_true, decide_eq_true_eq, lm3_pos, ls2_pos, lm2_pos, (ori_sg ha hb uA).1, (ori_sg ha hb uB).1, (ori_sg ha hb uC).1, (ori_sg hb ha uA).1, (ori_sg hb ha uB).1, (ori_sg hb ha uC).1,
    (ori_sg uA uB ha).1, (ori_sg uA uB hb).1, (ori_sg uB uC ha).1, (ori_sg uB uC hb).1, (ori_sg uC uA ha).1, (ori_sg uC uA hb).1, det_back a b]
  omega
theorem cross_A (A B C a b : Pt) : det A B C * det a b A = det C A a * det A B b - det A B a * det C A b := by unfold det; grind
theorem cross_B (A B C a b : Pt) : det A B C * det a b B = det A B a * det B C b - det B C a * det A B b := by unfold det; grind
theorem cross_C (A B C a b : Pt) : det A B C * det a b C = det B C a * det C A b - det C A a * det B C b := by unfold det; grind
theorem pos_iff {D o x : Int} (hD : 0 < D) (e : D * o = x) : (0 < o ↔ 0 < x) ∧ (o < 0 ↔ x < 0) := by
  subst e
  rcases Int.lt_trichotomy o 0 with h | h | h
  · have := Int.mul_neg_of_pos_of_neg hD h; omega
  · subst h; simp
  · have := Int.mul_pos hD h; omega
theorem S1 {fi fj fk gi gj gk D : Int} (h1 : fi < 0) (h2 : 0 < gi) (h3 : gj < 0) (h4 : 0 < fj) (hD : 0 < D) (sf : fi + fj + fk = D) (sg : gi + gj + gk = D) (h : ¬ 0 < fj * gi - fi * gj) :
    0 ≤ fi * gj - fj * gi ∧ 0 < fk * gi - fi * gk ∧ 0 < fj * gk - fk * gj := by
  have e1 : fk * gi - fi * gk = D * (gi - fi) + (fi * gj - fj * gi) := by
    have k1 : fk = D - fi - fj := by omega
    have k2 : gk = D - gi - gj := by omega
    subst k1 k2; grind
  have e2 : fj * gk - fk * gj = D * (fj - gj) + (fi * gj - fj * gi) := by
    have k1 : fk = D - fi - fj := by omega
    have k2 : gk = D - gi - gj := by omega
    subst k1 k2; grind
  have p1 := Int.mul_pos hD (show 0 < gi - fi by omega)
  have p2 := Int.mul_pos hD (show 0 < fj - gj by omega)
  omega
/-- The program's test of a way through, then the document's. -/
theorem thr_al {D f0 f1 f2 g0 g1 g2 oA oB oC : Int} (hD : 0 < D) (sf : f0 + f1 + f2 = D) (sg : g0 + g1 + g2 = D)
    (eA : D * oA = f2 * g0 - f0 * g2) (eB : D * oB = f0 * g1 - f1 * g0) (eC : D * oC = f1 * g2 - f2 * g1)
    (hp : 0 < oA ∨ 0 < oB ∨ 0 < oC) (hn : oA < 0 ∨ oB < 0 ∨ oC < 0) (h0 : 0 < f0 ∨ 0 < g0) (h1 : 0 < f1 ∨ 0 < g1) (h2 : 0 < f2 ∨ 0 < g2) : AL f0 f1 f2 g0 g1 g2 := by
  obtain ⟨pA, nA⟩ := pos_iff hD eA
  obtain ⟨pB, nB⟩ := pos_iff hD eB
  obtain ⟨pC, nC⟩ := pos_iff hD eC
  rw [pA, pB, pC] at hp
  rw [nA, nB, nC] at hn
  clear eA eB eC pA nA pB nB pC nC
  refine ⟨?_, ?_, ?_, ?_, ?_, ?_, ?_, ?_, ?_⟩
  · unfold PPr; omega
  · unfold PPr; omega
  · unfold PPr; omega
  all_goals intro x y; refine Decidable.byContradiction fun k => ?_
  · obtain ⟨a1, a2, a3⟩ := S1 (fk := f2) (gk := g2) x (by omega) y (by omega) hD (by omega) (by omega) k; omega
  · obtain ⟨a1, a2, a3⟩ := S1 (fk := f1) (gk := g1) x (by omega) y (by omega) hD (by omega) (by omega) k; omega
  · obtain ⟨a1, a2, a3⟩ := S1 (fk := f2) (gk := g2) x (by omega) y (by omega) hD (by omega) (by omega) k; omega
  · obtain ⟨a1, a2, a3⟩ := S1 (fk := f0) (gk := g0) x (by omega) y (by omega) hD (by omega) (by omega) k; omega
  · obtain ⟨a1, a2, a3⟩ := S1 (fk := f1) (gk := g1) x (by omega) y (by omega) hD (by omega) (by omega) k; omega
  · obtain ⟨a1, a2, a3⟩ := S1 (fk := f0) (gk := g0) x (by omega) y (by omega) hD (by omega) (by omega) k; omega
theorem det_inj {A B C a b : Pt} (hD : 0 < det A B C) (h0 : det A B a = det A B b) (h2 : det C A a = det C A b) : a = b := by
  have e1 : det A B C * (a.x - b.x) = (det C A a - det C A b) * (B.x - A.x) + (det A B a - det A B b) * (C.x - A.x) := by unfold det; grind
  have e2 : det A B C * (a.y - b.y) = (det C A a - det C A b) * (B.y - A.y) + (det A B a - det A B b) * (C.y - A.y) := by unfold det; grind
  rw [h0, h2] at e1 e2
  simp only [Int.sub_self, Int.zero_mul, Int.add_zero] at e1 e2
  rw [Pt.eq_iff]
  rcases Int.mul_eq_zero.1 e1 with h | h
  · omega
  · rcases Int.mul_eq_zero.1 e2 with h' | h'
    · omega
    · omega
/-- Of a row that sums to nothing with weights above 0, not all 0, some is above and some below. -/
theorem both_signs {m0 m1 m2 x y z : Int} (h0 : 0 < m0) (h1 : 0 < m1) (h2 : 0 < m2) (e : m0 * x + m1 * y + m2 * z = 0) (hn : ¬ (x = 0 ∧ y = 0 ∧ z = 0)) : (0 < x ∨ 0 < y ∨ 0 < z) ∧ (x < 0 ∨ y < 0 ∨ z < 0) := by
  have s : ∀ {m x : Int}, 0 < m → (0 < x → 0 < m * x) ∧ (x < 0 → m * x < 0) ∧ (x = 0 → m * x = 0) := fun hm => ⟨fun h => Int.mul_pos hm h, fun h => Int.mul_neg_of_pos_of_neg hm h, fun h => by rw [h, Int.mul_zero]⟩
  have a1 := s (x := x) h0
  have a2 := s (x := y) h1
  have a3 := s (x := z) h2
  omega
theorem key_lin {X Y Z p : Pt} (h : det X Y p = 0) : det X Y Z * (key p - key X) = det Z X p * (key Y - key X) := by
  have e1 : det X Y Z * (p.x - X.x) = det Z X p * (Y.x - X.x) + det X Y p * (Z.x - X.x) := by unfold det; grind
  have e2 : det X Y Z * (p.y - X.y) = det Z X p * (Y.y - X.y) + det X Y p * (Z.y - X.y) := by unfold det; grind
  rw [h] at e1 e2
  unfold key
  grind
theorem lin_cmp {D k al v : Int} (hD : 0 < D) (hk : 0 < k) (e : D * al = v * k) : (al < k ↔ v < D) ∧ (0 < al ↔ 0 < v) := by
  constructor
  · constructor
    · intro h
      have : v * k < D * k := by rw [← e]; exact Int.mul_lt_mul_of_pos_left h hD
      exact Int.lt_of_mul_lt_mul_right this (by omega)
    · intro h
      have : D * al < D * k := by rw [e]; exact Int.mul_lt_mul_of_pos_right h hk
      exact Int.lt_of_mul_lt_mul_left this (by omega)
  · constructor
    · intro h
      have : 0 < v * k := by rw [← e]; exact Int.mul_pos hD h
      exact (pos_iff hk (Int.mul_comm k v)).1.2 this
    · intro h
      have : 0 < D * al := by rw [e]; exact Int.mul_pos h hk
      exact (pos_iff hD (rfl : D * al = D * al)).1.2 this
/-- A way on an edge's line: it shares a piece of the edge just if it is not all beyond one of the others. -/
theorem edge_al {X Y Z a b : Pt} (hD : 0 < det X Y Z) (vX : vld X = true) (vY : vld Y = true) (nXY : X ≠ Y) (ha : det X Y a = 0) (hb : det X Y b = 0) :
    (min (key a) (key b) < max (key X) (key Y) ∧ min (key X) (key Y) < max (key a) (key b)) ↔ (0 < det Y Z a ∨ 0 < det Y Z b) ∧ (0 < det Z X a ∨ 0 < det Z X b) := by
  have ea := key_lin (Z := Z) ha
  have eb := key_lin (Z := Z) hb
  have sa := det_sum X Y Z a
  have sb := det_sum X Y Z b
  have hk : key X ≠ key Y := fun h => nXY (key_inj vX vY h)
  rw [ha] at sa
  rw [hb] at sb
  generalize det X Y Z = D at *
  generalize det Z X a = v at *
  generalize det Z X b = v' at *
  generalize det Y Z a = u at *
  generalize det Y Z b = u' at *
  rcases Int.lt_trichotomy (key X) (key Y) with h | h | h
  · obtain ⟨a1, a2⟩ := lin_cmp hD (show 0 < key Y - key X by omega) ea
    obtain ⟨b1, b2⟩ := lin_cmp hD (show 0 < key Y - key X by omega) eb
    omega
  · exact absurd h hk
  · obtain ⟨a1, a2⟩ := lin_cmp (al := -(key a - key X)) (v := v) hD (show 0 < -(key Y - key X) by omega) (by grind)
    obtain ⟨b1, b2⟩ := lin_cmp (al := -(key b - key X)) (v := v') hD (show 0 < -(key Y - key X) by omega) (by grind)
    omega
theorem line_swap {a b c d : Pt} (hab : a ≠ b) (h1 : det a b c = 0) (h2 : det a b d = 0) : det c d a = 0 ∧ det c d b = 0 := by
  have hE := EE_pos hab
  have e1 := I1 a b c d
  have e2 := I2 a b c d
  rw [h1, h2] at e1 e2
  simp only [Int.mul_zero, Int.zero_mul, Int.sub_zero] at e1 e2
  constructor
  · rcases Int.mul_eq_zero.1 e1 with h | h
    · omega
    · exact h
  · rcases Int.mul_eq_zero.1 e2 with h | h
    · omega
    · exact h
theorem fin_lt (sA sB sC sD : Int) : fin sA sB sC sD ≠ 3 := by unfold fin; (repeat' split) <;> omega
theorem meet3 (a b c d : Pt) : meetS a b c d = 3 ↔ Seg2 a b c d ∧ det c d a = 0 ∧ det c d b = 0 ∧ (min (key a) (key b) < max (key c) (key d) ∧ min (key c) (key d) < max (key a) (key b)) := by
  by_cases s : Seg2 a b c d
  · by_cases h : det a b c = 0 ∧ det a b d = 0
    · rw [meetS_line s h, mil_key s]
      obtain ⟨h1, h2⟩ := line_swap s.nab h.1 h.2
      constructor
      · intro k; split at k
        · next g => exact ⟨s, h1, h2, g⟩
        · cases k
      · rintro ⟨_, _, _, g⟩; rw [if_pos g]
    · have n1 : ¬ meetS a b c d = 3 := by
        by_cases e : a = c ∨ a = d ∨ b = c ∨ b = d
        · rw [meetS_end s h e]; decide
        · rw [meetS_fin s h e]; exact fin_lt _ _ _ _
      constructor
      · intro k; exact absurd k n1
      · rintro ⟨_, h1, h2, _⟩
        exact absurd (line_swap s.ncd h1 h2) h
  · constructor
    · intro k; rw [meetS_none s] at k; cases k
    · rintro ⟨k, _⟩; exact absurd k s

theorem oed_iff (T : Tri3) (a b : Pt) : oed T a b = true ↔ meetS a b T.A T.B = 3 ∨ meetS a b T.B T.C = 3 ∨ meetS a b T.C T.A = 3 := by
  unfold oed
  simp only [Bool.or_eq_true, beq_iff_eq]
theorem AL.rot {f0 f1 f2 g0 g1 g2 : Int} (h : AL f0 f1 f2 g0 g1 g2) : AL f1 f2 f0 g1 g2 g0 := ⟨h.p1, h.p2, h.p0, h.q12, h.q10, h.q21, h.q20, h.q01, h.q02⟩
theorem AL.rot_iff {f0 f1 f2 g0 g1 g2 : Int} : AL f0 f1 f2 g0 g1 g2 ↔ AL f1 f2 f0 g1 g2 g0 := ⟨AL.rot, fun h => h.rot.rot⟩
/-- On the line of the first edge. -/
theorem al_line {X Y Z a b : Pt} (hD : 0 < det X Y Z) (vX : vld X = true) (vY : vld Y = true) (va : vld a = true) (vb : vld b = true) (nab : a ≠ b) (ha : det X Y a = 0) (hb : det X Y b = 0) :
    (meetS a b X Y = 3 ↔ AL (det X Y a) (det Y Z a) (det Z X a) (det X Y b) (det Y Z b) (det Z X b)) ∧ meetS a b Y Z ≠ 3 ∧ meetS a b Z X ≠ 3 := by
  have nXY : X ≠ Y := fun e => by
    subst e
    have : det X X Z = 0 := by unfold det; grind
    omega
  have sa := det_sum X Y Z a
  have sb := det_sum X Y Z b
  refine ⟨?_, ?_, ?_⟩
  · rw [meet3]
    have he := edge_al hD vX vY nXY ha hb
    have ht : ¬ (det Y Z a = 0 ∧ det Y Z b = 0) := fun ⟨k1, k2⟩ => by
      refine nab (det_inj (A := Y) (B := Z) (C := X) (by rw [det_cyc]; exact hD) ?_ ?_) <;> omega
    have ht2 : ¬ (det Z X a = 0 ∧ det Z X b = 0) := fun ⟨k1, k2⟩ => by
      refine nab (det_inj hD ?_ ?_) <;> omega
    rw [he, ha, hb]
    generalize det Y Z a = u at *
    generalize det Y Z b = u' at *
    generalize det Z X a = v at *
    generalize det Z X b = v' at *
    constructor
    · rintro ⟨_, _, _, h1, h2⟩
      refine ⟨.inr (.inr ⟨rfl, rfl⟩), ?_, ?_, fun k => absurd k (by omega), fun k => absurd k (by omega), fun _ k => absurd k (by omega), ?_, fun _ k => absurd k (by omega), ?_⟩
      · unfold PPr; omega
      · unfold PPr; omega
      · intro x y
        have e : v * u' - u * v' = det X Y Z * (u' - u) := by
          have k1 : v = det X Y Z - u := by omega
          have k2 : v' = det X Y Z - u' := by omega
          rw [k1, k2]; grind
        rw [e]; exact Int.mul_pos hD (by omega)
      · intro x y
        have e : u * v' - v * u' = det X Y Z * (v' - v) := by
          have k1 : u = det X Y Z - v := by omega
          have k2 : u' = det X Y Z - v' := by omega
          rw [k1, k2]; grind
        rw [e]; exact Int.mul_pos hD (by omega)
    · intro h
      have h1 := h.p1
      have h2 := h.p2
      unfold PPr at h1 h2
      refine ⟨⟨va, vb, vX, vY, nab, nXY⟩, rfl, rfl, ?_, ?_⟩ <;> omega
  · rw [Ne, meet3]
    rintro ⟨_, k1, k2, _⟩
    refine nab (det_inj (A := Y) (B := Z) (C := X) (by rw [det_cyc]; exact hD) ?_ ?_) <;> omega
  · rw [Ne, meet3]
    rintro ⟨_, k1, k2, _⟩
    refine nab (det_inj hD ?_ ?_) <;> omega
theorem alg_main {T : Tri3} {a b : Pt} (hT : valT T = true) (va : vld a = true) (vb : vld b = true) (nab : a ≠ b) : (thr T a b || oed T a b) = sal T a b := by
  rw [Bool.eq_iff_iff, Bool.or_eq_true, oed_iff, thr_iff hT va vb, al_iff, edF0, edF1, edF2, edF0, edF1, edF2]
  obtain ⟨uA, uB, uC, hD⟩ := tri_signs hT
  by_cases l0 : det T.A T.B a = 0 ∧ det T.A T.B b = 0
  · obtain ⟨h, n1, n2⟩ := al_line hD uA uB va vb nab l0.1 l0.2
    rw [← h]
    constructor
    · rintro (k | k | k | k)
      · omega
      · exact k
      · exact absurd k n1
      · exact absurd k n2
    · intro k; exact .inr (.inl k)
  by_cases l1 : det T.B T.C a = 0 ∧ det T.B T.C b = 0
  · obtain ⟨h, n1, n2⟩ := al_line (Z := T.A) (by rw [det_cyc]; exact hD) uB uC va vb nab l1.1 l1.2
    rw [AL.rot_iff, ← h]
    constructor
    · rintro (k | k | k | k)
      · omega
      · exact absurd k n2
      · exact k
      · exact absurd k n1
    · intro k; exact .inr (.inr (.inl k))
  by_cases l2 : det T.C T.A a = 0 ∧ det T.C T.A b = 0
  · obtain ⟨h, n1, n2⟩ := al_line (Z := T.B) (by rw [det_cyc, det_cyc]; exact hD) uC uA va vb nab l2.1 l2.2
    rw [AL.rot_iff, AL.rot_iff, ← h]
    constructor
    · rintro (k | k | k | k)
      · omega
      · exact absurd k n1
      · exact absurd k n2
      · exact k
    · intro k; exact .inr (.inr (.inr k))
  have sf := det_sum T.A T.B T.C a
  have sg := det_sum T.A T.B T.C b
  have eA := cross_A T.A T.B T.C a b
  have eB := cross_B T.A T.B T.C a b
  have eC := cross_C T.A T.B T.C a b
  constructor
  · rintro (⟨hp, hn, h0, h1, h2⟩ | h)
    · exact thr_al hD sf sg eA eB eC hp hn h0 h1 h2
    · exfalso
      rcases h with h | h | h
      · obtain ⟨_, k1, k2, _⟩ := (meet3 _ _ _ _).1 h; exact l0 ⟨k1, k2⟩
      · obtain ⟨_, k1, k2, _⟩ := (meet3 _ _ _ _).1 h; exact l1 ⟨k1, k2⟩
      · obtain ⟨_, k1, k2, _⟩ := (meet3 _ _ _ _).1 h; exact l2 ⟨k1, k2⟩
  · intro h
    left
    have hs : sal T a b = true := (al_iff T a b).2 h
    obtain ⟨r, s, hr, hs, hm⟩ := al_mid hs
    have m0 := hm 0 (by omega) l0
    have m1 := hm 1 (by omega) l1
    have m2 := hm 2 (by omega) l2
    rw [edF0, edF0] at m0
    rw [edF1, edF1] at m1
    rw [edF2, edF2] at m2
    clear hm h
    have fne : ¬ (det a b T.A = 0 ∧ det a b T.B = 0 ∧ det a b T.C = 0) := by
      rintro ⟨z1, z2, z3⟩
      rw [z1] at eA
      rw [z2] at eB
      rw [z3] at eC
      simp only [Int.mul_zero] at eA eB eC
      refine nab (det_inj hD ?_ ?_)
      · have e : det T.A T.B T.C * (det T.A T.B a - det T.A T.B b) = 0 := by grind
        rcases Int.mul_eq_zero.1 e with k | k <;> omega
      · have e : det T.A T.B T.C * (det T.C T.A a - det T.C T.A b) = 0 := by grind
        rcases Int.mul_eq_zero.1 e with k | k <;> omega
    have pf : ∀ {f g : Int}, 0 < r * f + s * g → 0 < f ∨ 0 < g := fun {f g} k => by
      rcases Int.lt_or_le 0 f with hf | hf
      · exact .inl hf
      · rcases Int.lt_or_le 0 g with hg | hg
        · exact .inr hg
        · have := Int.mul_nonpos_of_nonneg_of_nonpos (show 0 ≤ r by omega) hf
          have := Int.mul_nonpos_of_nonneg_of_nonpos (show 0 ≤ s by omega) hg
          omega
    have bs := both_signs (x := det a b T.A) (y := det a b T.B) (z := det a b T.C) m1 m2 m0 (by
      have e : det T.A T.B T.C * ((r * det T.B T.C a + s * det T.B T.C b) * det a b T.A + (r * det T.C T.A a + s * det T.C T.A b) * det a b T.B + (r * det T.A T.B a + s * det T.A T.B b) * det a b T.C) = 0 := by grind
      rcases Int.mul_eq_zero.1 e with k | k
      · omega
      · exact k) fne
    exact ⟨bs.1, bs.2, pf m0, pf m1, pf m2⟩
theorem alg_eq (T : Tri3) (a b : Pt) : alg T a b = ralg T a b := by
  unfold alg ralg
  cases hT : valT T with
  | false => rfl
  | true => cases va : vld a with
    | false => rfl
    | true => cases vb : vld b with
      | false => rfl
      | true =>
        simp only [Bool.true_and]
        by_cases e : a = b
        · rw [pp e]
          simp only [Bool.not_true, Bool.false_and]
          rw [← Bool.not_eq_true, Bool.or_eq_true, thr_iff hT va vb, oed_iff]
          have hz : ∀ p : Pt, det a b p = 0 := fun p => by rw [e]; unfold det; grind
          have hm : ∀ p q : Pt, meetS a b p q = 0 := fun p q => meetS_none (fun s => s.nab e)
          rw [hz, hz, hz, hm, hm, hm]
          omega
        · rw [peqI_ne.2 e]
          simp only [Bool.not_false, Bool.true_and]
          exact alg_main hT va vb e
end Go.Proofs.Ytomdlhdpbdkdhaa
