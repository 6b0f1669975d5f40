/- Put together: ReN, ReQ, WlkG1, WlkS1. -/
import Derived.Test.YtmobnmjjmafibaaGreatPut14
import Derived.Test.YtmobnmjjmafibaaGreatRows
import Derived.Test.YtmobnmjjmafibaaGreatPut5
import Derived.Test.YtmobnmjjmafibaaGreatPut13
import Derived.Test.YtmobnmjjmafibaaGreatPut6
import Derived.Test.YtmobnmjjmafibaaGreatPut8
import Derived.Test.YtmobnmjjmafibaaGreatPut0
import Derived.WalkKit
import Derived.WalkSpells
import Derived.WalkLawsBesides
import Derived.Laws.Externs
import Derived.Deep.QuietTactic
import Derived.BigQuiet
import Derived.Lib.Hide
import Derived.Handy
import Derived.OwnWalk
import Derived.Deep.Light
import Derived.LoopN
import Derived.RegionTactic
import Derived.Test.YtmobnmjjmafibaaGreatPut11
import Derived.Deep.Cut
import Derived.Deep.CutBlock
import Derived.Deep.CutRange
set_option maxRecDepth 100000
set_option maxHeartbeats 8000000
namespace Go.Proofs.YtmobnmjjmafibaaGreat
open Go.RowKit
theorem lm3_pos (p q a b c : Pt) : 0 < lm3 p q a b c ↔ 0 < ori p q a ∨ 0 < ori p q b ∨ 0 < ori p q c := by
 unfold lm3 mx2; (repeat' split) <;> omega
theorem lm2_pos (p q a b : Pt) : 0 < lm2 p q a b ↔ 0 < ori p q a ∨ 0 < ori p q b := by
 unfold lm2 mx2; (repeat' split) <;> omega
theorem ls2_pos (T : Tri3) (a b : Pt) : 0 < ls2 T a b ↔ 0 < lm2 T.A T.B a b ∧ 0 < lm2 T.B T.C a b ∧ 0 < lm2 T.C T.A a b := by
 unfold ls2 mn2; (repeat' split) <;> omega
theorem edF0 (T : Tri3) (p : Pt) : edF T p 0 = det T.A T.B p := rfl
theorem edF1 (T : Tri3) (p : Pt) : edF T p 1 = det T.B T.C p := rfl
theorem edF2 (T : Tri3) (p : Pt) : edF T p 2 = det T.C T.A p := rfl
theorem det_back (a b c : Pt) : det b a c = -det a b c := by unfold det; grind
theorem zJr {T : Tri3} {a b : Pt} (hT : valT T = true) (ha : vld a = true) (hb : vld b = true) : thr T a b = true ↔
    (0 < det a b T.A ∨ 0 < det a b T.B ∨ 0 < det a b T.C) ∧ (det a b T.A < 0 ∨ det a b T.B < 0 ∨ det a b T.C < 0) ∧
    (0 < det T.A T.B a ∨ 0 < det T.A T.B b) ∧ (0 < det T.B T.C a ∨ 0 < det T.B T.C b) ∧ (0 < det T.C T.A a ∨ 0 < det T.C T.A b) := by
 obtain ⟨uA, uB, uC, hD⟩ := zCo hT
 unfold thr
 simp only [Bool.and_eq_true, decide_eq_true_eq, lm3_pos, ls2_pos, lm2_pos, (zCc ha hb uA).1, (zCc ha hb uB).1, (zCc ha hb uC).1, (zCc hb ha uA).1, (zCc hb ha uB).1, (zCc hb ha uC).1,
  (zCc uA uB ha).1, (zCc uA uB hb).1, (zCc uB uC ha).1, (zCc uB uC hb).1, (zCc uC uA ha).1, (zCc uC uA hb).1, det_back a b]
 omega
theorem cross_A (A B C a b : Pt) : det A B C * det a b A = det C A a * det A B b - det A B a * det C A b := by unfold det; grind
theorem cross_B (A B C a b : Pt) : det A B C * det a b B = det A B a * det B C b - det B C a * det A B b := by unfold det; grind
theorem cross_C (A B C a b : Pt) : det A B C * det a b C = det B C a * det C A b - det C A a * det B C b := by unfold det; grind
theorem zGh {D o x : Int} (hD : 0 < D) (e : D * o = x) : (0 < o ↔ 0 < x) ∧ (o < 0 ↔ x < 0) := by
 subst e
 rcases Int.lt_trichotomy o 0 with h | h | h
 ·have := Int.mul_neg_of_pos_of_neg hD h; omega
 ·subst h; simp
 ·have := Int.mul_pos hD h; omega
theorem S1 {fi fj fk gi gj gk D : Int} (h1 : fi < 0) (h2 : 0 < gi) (h3 : gj < 0) (h4 : 0 < fj) (hD : 0 < D) (sf : fi + fj + fk = D) (sg : gi + gj + gk = D) (h : ¬ 0 < fj * gi - fi * gj) :
    0 ≤ fi * gj - fj * gi ∧ 0 < fk * gi - fi * gk ∧ 0 < fj * gk - fk * gj := by
 have e1 : fk * gi - fi * gk = D * (gi - fi) + (fi * gj - fj * gi) := by
  have k1 : fk = D - fi - fj := by omega
  have k2 : gk = D - gi - gj := by omega
  subst k1 k2; grind
 have e2 : fj * gk - fk * gj = D * (fj - gj) + (fi * gj - fj * gi) := by
  have k1 : fk = D - fi - fj := by omega
  have k2 : gk = D - gi - gj := by omega
  subst k1 k2; grind
 have p1 := Int.mul_pos hD (show 0 < gi - fi by omega)
 have p2 := Int.mul_pos hD (show 0 < fj - gj by omega)
 omega
theorem thr_al {D f0 f1 f2 g0 g1 g2 oA oB oC : Int} (hD : 0 < D) (sf : f0 + f1 + f2 = D) (sg : g0 + g1 + g2 = D)
    (eA : D * oA = f2 * g0 - f0 * g2) (eB : D * oB = f0 * g1 - f1 * g0) (eC : D * oC = f1 * g2 - f2 * g1)
    (hp : 0 < oA ∨ 0 < oB ∨ 0 < oC) (hn : oA < 0 ∨ oB < 0 ∨ oC < 0) (h0 : 0 < f0 ∨ 0 < g0) (h1 : 0 < f1 ∨ 0 < g1) (h2 : 0 < f2 ∨ 0 < g2) : AL f0 f1 f2 g0 g1 g2 := by
 obtain ⟨pA, nA⟩ := zGh hD eA
 obtain ⟨pB, nB⟩ := zGh hD eB
 obtain ⟨pC, nC⟩ := zGh hD eC
 rw [pA, pB, pC] at hp
 rw [nA, nB, nC] at hn
 clear eA eB eC pA nA pB nB pC nC
 refine ⟨?_, ?_, ?_, ?_, ?_, ?_, ?_, ?_, ?_⟩
 ·unfold PPr; omega
 ·unfold PPr; omega
 ·unfold PPr; omega
 all_goals intro x y; refine Decidable.byContradiction fun k => ?_
 ·obtain ⟨a1, a2, a3⟩ := S1 (fk := f2) (gk := g2) x (by omega) y (by omega) hD (by omega) (by omega) k; omega
 ·obtain ⟨a1, a2, a3⟩ := S1 (fk := f1) (gk := g1) x (by omega) y (by omega) hD (by omega) (by omega) k; omega
 ·obtain ⟨a1, a2, a3⟩ := S1 (fk := f2) (gk := g2) x (by omega) y (by omega) hD (by omega) (by omega) k; omega
 ·obtain ⟨a1, a2, a3⟩ := S1 (fk := f0) (gk := g0) x (by omega) y (by omega) hD (by omega) (by omega) k; omega
 ·obtain ⟨a1, a2, a3⟩ := S1 (fk := f1) (gk := g1) x (by omega) y (by omega) hD (by omega) (by omega) k; omega
 ·obtain ⟨a1, a2, a3⟩ := S1 (fk := f0) (gk := g0) x (by omega) y (by omega) hD (by omega) (by omega) k; omega
theorem zGp {A B C a b : Pt} (hD : 0 < det A B C) (h0 : det A B a = det A B b) (h2 : det C A a = det C A b) : a = b := by
 have e1 : det A B C * (a.x - b.x) = (det C A a - det C A b) * (B.x - A.x) + (det A B a - det A B b) * (C.x - A.x) := by unfold det; grind
 have e2 : det A B C * (a.y - b.y) = (det C A a - det C A b) * (B.y - A.y) + (det A B a - det A B b) * (C.y - A.y) := by unfold det; grind
 rw [h0, h2] at e1 e2
 simp only [Int.sub_self, Int.zero_mul, Int.add_zero] at e1 e2
 rw [Pt.eq_iff]
 rcases Int.mul_eq_zero.1 e1 with h | h
 ·omega
 ·rcases Int.mul_eq_zero.1 e2 with h' | h'
  ·omega
  ·omega
theorem both_signs {m0 m1 m2 x y z : Int} (h0 : 0 < m0) (h1 : 0 < m1) (h2 : 0 < m2) (e : m0 * x + m1 * y + m2 * z = 0) (hn : ¬ (x = 0 ∧ y = 0 ∧ z = 0)) : (0 < x ∨ 0 < y ∨ 0 < z) ∧ (x < 0 ∨ y < 0 ∨ z < 0) := by
 have s : ∀ {m x : Int}, 0 < m → (0 < x → 0 < m * x) ∧ (x < 0 → m * x < 0) ∧ (x = 0 → m * x = 0) := fun hm => ⟨fun h => Int.mul_pos hm h, fun h => Int.mul_neg_of_pos_of_neg hm h, fun h => by rw [h, Int.mul_zero]⟩
 have a1 := s (x := x) h0
 have a2 := s (x := y) h1
 have a3 := s (x := z) h2
 omega
theorem zK2 {X Y Z p : Pt} (h : det X Y p = 0) : det X Y Z * (key p - key X) = det Z X p * (key Y - key X) := by
 have e1 : det X Y Z * (p.x - X.x) = det Z X p * (Y.x - X.x) + det X Y p * (Z.x - X.x) := by unfold det; grind
 have e2 : det X Y Z * (p.y - X.y) = det Z X p * (Y.y - X.y) + det X Y p * (Z.y - X.y) := by unfold det; grind
 rw [h] at e1 e2
 unfold key
 grind
theorem zHi {D k al v : Int} (hD : 0 < D) (hk : 0 < k) (e : D * al = v * k) : (al < k ↔ v < D) ∧ (0 < al ↔ 0 < v) := by
 constructor
 ·constructor
  ·intro h
   have : v * k < D * k := by rw [← e]; exact Int.mul_lt_mul_of_pos_left h hD
   exact Int.lt_of_mul_lt_mul_right this (by omega)
  ·intro h
   have : D * al < D * k := by rw [e]; exact Int.mul_lt_mul_of_pos_right h hk
   exact Int.lt_of_mul_lt_mul_left this (by omega)
 ·constructor
  ·intro h
   have : 0 < v * k := by rw [← e]; exact Int.mul_pos hD h
   exact (zGh hk (Int.mul_comm k v)).1.2 this
  ·intro h
   have : 0 < D * al := by rw [e]; exact Int.mul_pos h hk
   exact (zGh hD (rfl : D * al = D * al)).1.2 this
theorem edge_al {X Y Z a b : Pt} (hD : 0 < det X Y Z) (vX : vld X = true) (vY : vld Y = true) (nXY : X ≠ Y) (ha : det X Y a = 0) (hb : det X Y b = 0) :
    (min (key a) (key b) < max (key X) (key Y) ∧ min (key X) (key Y) < max (key a) (key b)) ↔ (0 < det Y Z a ∨ 0 < det Y Z b) ∧ (0 < det Z X a ∨ 0 < det Z X b) := by
 have ea := zK2 (Z := Z) ha
 have eb := zK2 (Z := Z) hb
 have sa := zBy X Y Z a
 have sb := zBy X Y Z b
 have hk : key X ≠ key Y := fun h => nXY (zBo vX vY h)
 rw [ha] at sa
 rw [hb] at sb
 generalize det X Y Z = D at *
 generalize det Z X a = v at *
 generalize det Z X b = v' at *
 generalize det Y Z a = u at *
 generalize det Y Z b = u' at *
 rcases Int.lt_trichotomy (key X) (key Y) with h | h | h
 ·obtain ⟨a1, a2⟩ := zHi hD (show 0 < key Y - key X by omega) ea
  obtain ⟨b1, b2⟩ := zHi hD (show 0 < key Y - key X by omega) eb
  omega
 ·exact absurd h hk
 ·obtain ⟨a1, a2⟩ := zHi (al := -(key a - key X)) (v := v) hD (show 0 < -(key Y - key X) by omega) (by grind)
  obtain ⟨b1, b2⟩ := zHi (al := -(key b - key X)) (v := v') hD (show 0 < -(key Y - key X) by omega) (by grind)
  omega
theorem zHh {a b c d : Pt} (hab : a ≠ b) (h1 : det a b c = 0) (h2 : det a b d = 0) : det c d a = 0 ∧ det c d b = 0 := by
 have hE := EE_pos hab
 have e1 := I1 a b c d
 have e2 := I2 a b c d
 rw [h1, h2] at e1 e2
 simp only [Int.mul_zero, Int.zero_mul, Int.sub_zero] at e1 e2
 constructor
 ·rcases Int.mul_eq_zero.1 e1 with h | h
  ·omega
  ·exact h
 ·rcases Int.mul_eq_zero.1 e2 with h | h
  ·omega
  ·exact h
theorem fin_lt (sA sB sC sD : Int) : fin sA sB sC sD ≠ 3 := by unfold fin; (repeat' split) <;> omega
theorem meet3 (a b c d : Pt) : meetS a b c d = 3 ↔ Seg2 a b c d ∧ det c d a = 0 ∧ det c d b = 0 ∧ (min (key a) (key b) < max (key c) (key d) ∧ min (key c) (key d) < max (key a) (key b)) := by
 by_cases s : Seg2 a b c d
 ·by_cases h : det a b c = 0 ∧ det a b d = 0
  ·rw [meetS_line s h, mil_key s]
   obtain ⟨h1, h2⟩ := zHh s.nab h.1 h.2
   constructor
   ·intro k; split at k
    ·next g => exact ⟨s, h1, h2, g⟩
    ·cases k
   ·rintro ⟨_, _, _, g⟩; rw [if_pos g]
  ·have n1 : ¬ meetS a b c d = 3 := by
      by_cases e : a = c ∨ a = d ∨ b = c ∨ b = d
      ·rw [meetS_end s h e]; decide
      ·rw [meetS_fin s h e]; exact fin_lt _ _ _ _
   constructor
   ·intro k; exact absurd k n1
   ·rintro ⟨_, h1, h2, _⟩
    exact absurd (zHh s.ncd h1 h2) h
 ·constructor
  ·intro k; rw [zGk s] at k; cases k
  ·rintro ⟨k, _⟩; exact absurd k s
theorem zJv (T : Tri3) (a b : Pt) : oed T a b = true ↔ meetS a b T.A T.B = 3 ∨ meetS a b T.B T.C = 3 ∨ meetS a b T.C T.A = 3 := by
 unfold oed
 simp only [Bool.or_eq_true, beq_iff_eq]
theorem AL.rot {f0 f1 f2 g0 g1 g2 : Int} (h : AL f0 f1 f2 g0 g1 g2) : AL f1 f2 f0 g1 g2 g0 := ⟨h.p1, h.p2, h.p0, h.q12, h.q10, h.q21, h.q20, h.q01, h.q02⟩
theorem AL.rot_iff {f0 f1 f2 g0 g1 g2 : Int} : AL f0 f1 f2 g0 g1 g2 ↔ AL f1 f2 f0 g1 g2 g0 := ⟨AL.rot, fun h => h.rot.rot⟩
theorem zJj {X Y Z a b : Pt} (hD : 0 < det X Y Z) (vX : vld X = true) (vY : vld Y = true) (va : vld a = true) (vb : vld b = true) (nab : a ≠ b) (ha : det X Y a = 0) (hb : det X Y b = 0) :
    (meetS a b X Y = 3 ↔ AL (det X Y a) (det Y Z a) (det Z X a) (det X Y b) (det Y Z b) (det Z X b)) ∧ meetS a b Y Z ≠ 3 ∧ meetS a b Z X ≠ 3 := by
 have nXY : X ≠ Y := fun e => by
  subst e
  have : det X X Z = 0 := by unfold det; grind
  omega
 have sa := zBy X Y Z a
 have sb := zBy X Y Z b
 refine ⟨?_, ?_, ?_⟩
 ·rw [meet3]
  have he := edge_al hD vX vY nXY ha hb
  have ht : ¬ (det Y Z a = 0 ∧ det Y Z b = 0) := fun ⟨k1, k2⟩ => by
   refine nab (zGp (A := Y) (B := Z) (C := X) (by rw [zAf]; exact hD) ?_ ?_) <;> omega
  have ht2 : ¬ (det Z X a = 0 ∧ det Z X b = 0) := fun ⟨k1, k2⟩ => by
   refine nab (zGp hD ?_ ?_) <;> omega
  rw [he, ha, hb]
  generalize det Y Z a = u at *
  generalize det Y Z b = u' at *
  generalize det Z X a = v at *
  generalize det Z X b = v' at *
  constructor
  ·rintro ⟨_, _, _, h1, h2⟩
   refine ⟨.inr (.inr ⟨rfl, rfl⟩), ?_, ?_, fun k => absurd k (by omega), fun k => absurd k (by omega), fun _ k => absurd k (by omega), ?_, fun _ k => absurd k (by omega), ?_⟩
   ·unfold PPr; omega
   ·unfold PPr; omega
   ·intro x y
    have e : v * u' - u * v' = det X Y Z * (u' - u) := by
     have k1 : v = det X Y Z - u := by omega
     have k2 : v' = det X Y Z - u' := by omega
     rw [k1, k2]; grind
    rw [e]; exact Int.mul_pos hD (by omega)
   ·intro x y
    have e : u * v' - v * u' = det X Y Z * (v' - v) := by
     have k1 : u = det X Y Z - v := by omega
     have k2 : u' = det X Y Z - v' := by omega
     rw [k1, k2]; grind
    rw [e]; exact Int.mul_pos hD (by omega)
  ·intro h
   have h1 := h.p1
   have h2 := h.p2
   unfold PPr at h1 h2
   refine ⟨⟨va, vb, vX, vY, nab, nXY⟩, rfl, rfl, ?_, ?_⟩ <;> omega
 ·rw [Ne, meet3]
  rintro ⟨_, k1, k2, _⟩
  refine nab (zGp (A := Y) (B := Z) (C := X) (by rw [zAf]; exact hD) ?_ ?_) <;> omega
 ·rw [Ne, meet3]
  rintro ⟨_, k1, k2, _⟩
  refine nab (zGp hD ?_ ?_) <;> omega
theorem alg_main {T : Tri3} {a b : Pt} (hT : valT T = true) (va : vld a = true) (vb : vld b = true) (nab : a ≠ b) : (thr T a b || oed T a b) = sal T a b := by
 rw [Bool.eq_iff_iff, Bool.or_eq_true, zJv, zJr hT va vb, zJo, edF0, edF1, edF2, edF0, edF1, edF2]
 obtain ⟨uA, uB, uC, hD⟩ := zCo hT
 by_cases l0 : det T.A T.B a = 0 ∧ det T.A T.B b = 0
 ·obtain ⟨h, n1, n2⟩ := zJj hD uA uB va vb nab l0.1 l0.2
  rw [← h]
  constructor
  ·rintro (k | k | k | k)
   ·omega
   ·exact k
   ·exact absurd k n1
   ·exact absurd k n2
  ·intro k; exact .inr (.inl k)
 by_cases l1 : det T.B T.C a = 0 ∧ det T.B T.C b = 0
 ·obtain ⟨h, n1, n2⟩ := zJj (Z := T.A) (by rw [zAf]; exact hD) uB uC va vb nab l1.1 l1.2
  rw [AL.rot_iff, ← h]
  constructor
  ·rintro (k | k | k | k)
   ·omega
   ·exact absurd k n2
   ·exact k
   ·exact absurd k n1
  ·intro k; exact .inr (.inr (.inl k))
 by_cases l2 : det T.C T.A a = 0 ∧ det T.C T.A b = 0
 ·obtain ⟨h, n1, n2⟩ := zJj (Z := T.B) (by rw [zAf, zAf]; exact hD) uC uA va vb nab l2.1 l2.2
  rw [AL.rot_iff, AL.rot_iff, ← h]
  constructor
  ·rintro (k | k | k | k)
   ·omega
   ·exact absurd k n1
   ·exact absurd k n2
   ·exact k
  ·intro k; exact .inr (.inr (.inr k))
 have sf := zBy T.A T.B T.C a
 have sg := zBy T.A T.B T.C b
 have eA := cross_A T.A T.B T.C a b
 have eB := cross_B T.A T.B T.C a b
 have eC := cross_C T.A T.B T.C a b
 constructor
 ·rintro (⟨hp, hn, h0, h1, h2⟩ | h)
  ·exact thr_al hD sf sg eA eB eC hp hn h0 h1 h2
  ·exfalso
   rcases h with h | h | h
   ·obtain ⟨_, k1, k2, _⟩ := (meet3 _ _ _ _).1 h; exact l0 ⟨k1, k2⟩
   ·obtain ⟨_, k1, k2, _⟩ := (meet3 _ _ _ _).1 h; exact l1 ⟨k1, k2⟩
   ·obtain ⟨_, k1, k2, _⟩ := (meet3 _ _ _ _).1 h; exact l2 ⟨k1, k2⟩
 ·intro h
  left
  have hs : sal T a b = true := (zJo T a b).2 h
  obtain ⟨r, s, hr, hs, hm⟩ := al_mid hs
  have m0 := hm 0 (by omega) l0
  have m1 := hm 1 (by omega) l1
  have m2 := hm 2 (by omega) l2
  rw [edF0, edF0] at m0
  rw [edF1, edF1] at m1
  rw [edF2, edF2] at m2
  clear hm h
  have fne : ¬ (det a b T.A = 0 ∧ det a b T.B = 0 ∧ det a b T.C = 0) := by
   rintro ⟨z1, z2, z3⟩
   rw [z1] at eA
   rw [z2] at eB
   rw [z3] at eC
   simp only [Int.mul_zero] at eA eB eC
   refine nab (zGp hD ?_ ?_)
   ·have e : det T.A T.B T.C * (det T.A T.B a - det T.A T.B b) = 0 := by grind
    rcases Int.mul_eq_zero.1 e with k | k <;> omega
   ·have e : det T.A T.B T.C * (det T.C T.A a - det T.C T.A b) = 0 := by grind
    rcases Int.mul_eq_zero.1 e with k | k <;> omega
  have pf : ∀ {f g : Int}, 0 < r * f + s * g → 0 < f ∨ 0 < g := fun {f g} k => by
   rcases Int.lt_or_le 0 f with hf | hf
   ·exact .inl hf
   ·rcases Int.lt_or_le 0 g with hg | hg
    ·exact .inr hg
    ·have := Int.mul_nonpos_of_nonneg_of_nonpos (show 0 ≤ r by omega) hf
     have := Int.mul_nonpos_of_nonneg_of_nonpos (show 0 ≤ s by omega) hg
     omega
  have bs := both_signs (x := det a b T.A) (y := det a b T.B) (z := det a b T.C) m1 m2 m0 (by
   have e : det T.A T.B T.C * ((r * det T.B T.C a + s * det T.B T.C b) * det a b T.A + (r * det T.C T.A a + s * det T.C T.A b) * det a b T.B + (r * det T.A T.B a + s * det T.A T.B b) * det a b T.C) = 0 := by grind
   rcases Int.mul_eq_zero.1 e with k | k
   ·omega
   ·exact k) fne
  exact ⟨bs.1, bs.2, pf m0, pf m1, pf m2⟩
theorem zJn (T : Tri3) (a b : Pt) : alg T a b = ralg T a b := by
 unfold alg ralg
 cases hT : valT T with
 | false => rfl
 | true => cases va : vld a with
  | false => rfl
  | true => cases vb : vld b with
   | false => rfl
   | true =>
    simp only [Bool.true_and]
    by_cases e : a = b
    ·rw [pp e]
     simp only [Bool.not_true, Bool.false_and]
     rw [← Bool.not_eq_true, Bool.or_eq_true, zJr hT va vb, zJv]
     have hz : ∀ p : Pt, det a b p = 0 := fun p => by rw [e]; unfold det; grind
     have hm : ∀ p q : Pt, meetS a b p q = 0 := fun p q => zGk (fun s => s.nab e)
     rw [hz, hz, hz, hm, hm, hm]
     omega
    ·rw [zBa.2 e]
     simp only [Bool.not_false, Bool.true_and]
     exact alg_main hT va vb e
def AF (F G : Nat → Int) : Prop := (∀ i, i < 3 → PPr (F i) (G i)) ∧ (∀ i j, i < 3 → j < 3 → F i < 0 → G j < 0 → 0 < F j * G i - F i * G j)
theorem al_AF {F G : Nat → Int} : AL (F 0) (F 1) (F 2) (G 0) (G 1) (G 2) ↔ AF F G :=
 ⟨fun h => ⟨h.p, fun i j hi hj x y => (h.q i j hi hj x y).2⟩, fun h => al_pq h.1 (fun i j hi hj _ x y => h.2 i j hi hj x y)⟩
theorem AF.swap {F G : Nat → Int} (h : AF F G) : AF G F := by
 refine ⟨fun i hi => ?_, fun i j hi hj x y => ?_⟩
 ·have := h.1 i hi
  unfold PPr at *; omega
 ·have := h.2 j i hj hi y x
  have e1 := Int.mul_comm (F i) (G j)
  have e2 := Int.mul_comm (F j) (G i)
  omega
section
variable {F H G d : Nat → Int} {k : Int} (hk : 2 ≤ k) (hH : ∀ i, H i = F i + d i) (hG : ∀ i, G i = H i + (k - 1) * d i)
include hk hH hG
end
theorem sal_AF (T : Tri3) (a b : Pt) : sal T a b = true ↔ AF (edF T a) (edF T b) := by rw [zJo]; exact al_AF (F := edF T a) (G := edF T b)
theorem sal_swap (T : Tri3) (a b : Pt) : sal T a b = sal T b a := by
 rw [Bool.eq_iff_iff, sal_AF, sal_AF]; exact ⟨AF.swap, AF.swap⟩
theorem zJh (T : Tri3) (a b : Pt) : alg T a b = alg T b a := by
 rw [zJn, zJn]; unfold ralg
 rw [sal_swap T a b]
 have e : peqI a.x a.y b.x b.y = peqI b.x b.y a.x a.y := by
  rw [Bool.eq_iff_iff, zCh, zCh]; exact ⟨Eq.symm, Eq.symm⟩
 rw [e]
 cases vld a <;> cases vld b <;> simp
theorem alg_sal {T : Tri3} {a b : Pt} (hT : valT T = true) (va : vld a = true) (vb : vld b = true) (n : a ≠ b) : alg T a b = sal T a b := by
 rw [zJn]; unfold ralg
 rw [hT, va, vb, zBa.2 n]; simp
end Go.Proofs.YtmobnmjjmafibaaGreat
namespace Go.Proofs.YtmobnmjjmafibaaGreat
open Go.RowKit Go.Sort
attribute [local go_sem] rOper rAt rUpon cell_set sg_i64 sg_u64 alloc_cell alloc_frozen
attribute [local go_sem 10000] pt_eql pt_neq tri_eql
attribute [local irreducible] rWalk
theorem meas_dec {m k : Nat} (h : k < m) : m - (intOf (.int .i64 ((k : Int) + 1))).toNat < m - (intOf (.int .i64 (k : Int))).toNat := by simp [intOf]; omega
theorem w64_succ {k : Nat} (h : k ≤ 2000000) : wrap64 ((k : Int) + 1) = (k : Int) + 1 := by rw [w64]; omega
theorem zJi {T : Tri3} (hT : valT T = true) {p q b c : Pt} (vp : vld p = true) (vq : vld q = true) (n : p ≠ q) (hc : Cyc T p b c) (h1 : 0 ≤ det p b q) (h2 : 0 ≤ det c p q) : alg T p q = true := by
 have hD := (zCo hT).2.2.2
 rw [alg_sal hT vp vq n, zJo, edF0, edF1, edF2, edF0, edF1, edF2]
 have z1 : ∀ x y : Pt, det x y x = 0 := fun x y => by unfold det; grind
 have z2 : ∀ x y : Pt, det x y y = 0 := fun x y => by unfold det; grind
 rcases hc with ⟨e1, e2, e3⟩ | ⟨e1, e2, e3⟩ | ⟨e1, e2, e3⟩
 ·subst e1 e2 e3
  have k1 := z1 T.A T.B
  have k2 := z2 T.C T.A
  have k3 : 0 < det T.B T.C T.A := by rw [zAf]; exact hD
  refine ⟨?_, ?_, ?_, ?_, ?_, ?_, ?_, ?_, ?_⟩
  all_goals (try unfold PPr) <;> (try unfold QQr) <;> omega
 ·subst e1 e2 e3
  have k1 := z1 T.B T.C
  have k2 := z2 T.A T.B
  have k3 : 0 < det T.C T.A T.B := by rw [zAf, zAf]; exact hD
  refine ⟨?_, ?_, ?_, ?_, ?_, ?_, ?_, ?_, ?_⟩
  all_goals (try unfold PPr) <;> (try unfold QQr) <;> omega
 ·subst e1 e2 e3
  have k1 := z1 T.C T.A
  have k2 := z2 T.B T.C
  refine ⟨?_, ?_, ?_, ?_, ?_, ?_, ?_, ?_, ?_⟩
  all_goals (try unfold PPr) <;> (try unfold QQr) <;> omega
theorem alg_self (T : Tri3) (p : Pt) : alg T p p = false := by
 rw [zJn]; unfold ralg
 rw [show peqI p.x p.y p.x p.y = true from by rw [zBi]]
 cases vld p <;> cases valT T <;> rfl
theorem wt_facts {s : Int} {E : Es} {L : List Tri3} (hs : 0 < s) (hs2 : s ≤ 60) (G : Good E L) (t : Tiles s s L) {p q : Pt} (hp : inBox s s p) (hq : inBox s s q) (cp : someC L p) (cq : someC L q) :
    srt cmpT (heads (fun T => alg T q p) E) = srt cmpT (heads (fun T => alg T p q) E) ∧ (p = q → srt cmpT (heads (fun T => alg T p q) E) = []) ∧ (p ≠ q → (srt cmpT (heads (fun T => alg T p q) E)).any (isCb p) = true ∧ (srt cmpT (heads (fun T => alg T p q) E)).any (isCb q) = true) := by
 have vb : ∀ q, inBox s s q → vld q = true := fun q hq => by rw [zAm]; unfold inBox at hq; omega
 have mem : ∀ f T, T ∈ L → f T = true → T ∈ srt cmpT (heads f E) := fun f T h1 h2 => (zAd _).mem_iff.2 ((zAy G f).mem_iff.2 (List.mem_filter.2 ⟨h1, h2⟩))
 refine ⟨by rw [show (fun T => alg T q p) = fun T => alg T p q from funext fun T => zJh T q p], fun e => ?_, fun n => ?_⟩
 ·subst e
  refine List.eq_nil_iff_forall_not_mem.2 fun T hT => ?_
  have := (List.mem_filter.1 ((zAy G _).mem_iff.1 ((zAd _).mem_iff.1 hT))).2
  rw [alg_self] at this
  cases this
 ·obtain ⟨T, hT, b, c, hy, h1, h2⟩ := t.cone hs hs hp hq cp
  obtain ⟨S, hS, b2, c2, hy2, h3, h4⟩ := t.cone hs hs hq hp cq
  have a1 := zJi (G.val T hT) (vb p hp) (vb q hq) n hy h1 h2
  have a2 := zJi (G.val S hS) (vb q hq) (vb p hp) (Ne.symm n) hy2 h3 h4
  rw [zJh] at a2
  have cn : ∀ {T : Tri3} {p b c : Pt}, Cyc T p b c → isCb p T = true := fun {T p b c} h => zC1.2 (by
   unfold isCnr
   rcases h with ⟨e, _, _⟩ | ⟨e, _, _⟩ | ⟨e, _, _⟩
   ·exact .inl e
   ·exact .inr (.inl e)
   ·exact .inr (.inr e))
  exact ⟨List.any_eq_true.2 ⟨T, mem (fun T => alg T p q) T hT a1, cn hy⟩, List.any_eq_true.2 ⟨S, mem (fun T => alg T p q) S hS a2, cn hy2⟩⟩
def cknB (T : Tri3) (p : Pt) : Nat → Bool
 | 0 => false
 | k + 1 => cknB T p k || peqI (crN T k).x (crN T k).y p.x p.y
theorem zHy (T : Tri3) (p : Pt) : cknB T p 3 = isCb p T := by
 unfold cknB cknB cknB cknB isCb
 simp only [crN]
 have e : ∀ a : Pt, peqI a.x a.y p.x p.y = decide (p = a) := fun a => by rw [Bool.eq_iff_iff, zBi, decide_eq_true_eq]; exact ⟨Eq.symm, Eq.symm⟩
 rw [e, e, e, Bool.false_or, Bool.or_assoc]
theorem wt_no (s : Int) (a0 : Option Addr) (n c0 : Nat) (a b : Int) (hf : (decide (1 ≤ s) && (decide (s ≤ 40) && (decide (n ≤ 25) && decide (0 ≤ 12)))) = false) (w : World) :
    Calls Tryz.prog 4 #[.int .i64 s, .slice a0 n c0, .int .i64 a, .int .i64 b] w fun e w' => e = .returned (.bool true) ∧ Below w.heap.size w w' := by
 have cf := zD5 s a0 none n 0 c0 0
 simp only [hf] at cf
 clear hf
 go_enter Tryz.func4, Tryz.ntmps4
 go_wp2_with fail
 refine (cf _).mono ?_
 rintro e w1 ⟨rfl, hb1⟩
 clear cf
 go_wp2_with fail
 refine (zBk _).mono ?_
 rintro e w2 ⟨rfl, hb2⟩
 go_wp2
 go_ret
 exact ⟨rfl, (upB hb1 hb2)⟩
theorem wt_zero (s : Int) (a0 : Option Addr) (c0 : Nat) (a b : Int) (hf : (decide (1 ≤ s) && (decide (s ≤ 40) && (decide (0 ≤ 25) && decide (0 ≤ 12)))) = true) (w : World) :
    Calls Tryz.prog 4 #[.int .i64 s, .slice a0 0 c0, .int .i64 a, .int .i64 b] w fun e w' => e = .returned (.bool true) ∧ Below w.heap.size w w' := by
 have cf := zD5 s a0 none 0 0 c0 0
 simp only [hf] at cf
 clear hf
 go_enter Tryz.func4, Tryz.ntmps4
 go_wp2_with fail
 refine (cf _).mono ?_
 rintro e w1 ⟨rfl, hb1⟩
 clear cf
 go_wp2_with fail
 refine (zBk _).mono ?_
 rintro e w2 ⟨rfl, hb2⟩
 go_wp2
 go_ret
 exact ⟨rfl, (upB hb1 hb2)⟩
theorem wt_yes (s : Int) (hs : 0 < s) (hs2 : s ≤ 40) (a0 : Option Addr) (n c0 : Nat) (hn0 : 0 < n) (hn : n ≤ 25) (P : List Int) (hP : Hid (P.length = n)) (a b : Int) (w : World) (h0 : RowAt cI 1 w a0 P) :
    Calls Tryz.prog 4 #[.int .i64 s, .slice a0 n c0, .int .i64 a, .int .i64 b] w fun e w' => e = .returned (.bool true) ∧ Below w.heap.size w w' := by
 have cf := zD5 s a0 none n 0 c0 0
 have hf : (decide (1 ≤ s) && (decide (s ≤ 40) && (decide (n ≤ 25) && decide (0 ≤ 12)))) = true := by simp; omega
 simp only [hf] at cf
 have HN := Lib.hid hn
 have HS := Lib.hid hs
 have HS2 := Lib.hid hs2
 have hnz : ((n : Int) == 0) = false := by simp; omega
 obtain ⟨i1, e1, l1⟩ : ∃ i : Nat, a % n = i ∧ i < n := ⟨(a % n).toNat, by have := Int.emod_nonneg a (b := (n : Int)) (by omega); omega, by have := Int.emod_lt_of_pos a (b := (n : Int)) (by omega); have := Int.emod_nonneg a (b := (n : Int)) (by omega); omega⟩
 obtain ⟨i2, e2, l2⟩ : ∃ i : Nat, b % n = i ∧ i < n := ⟨(b % n).toNat, by have := Int.emod_nonneg b (b := (n : Int)) (by omega); omega, by have := Int.emod_lt_of_pos b (b := (n : Int)) (by omega); have := Int.emod_nonneg b (b := (n : Int)) (by omega); omega⟩
 have cr1 := fun W => zIe (i := a) (n := n) (by omega) (by omega) W
 have cr2 := fun W => zIe (i := b) (n := n) (by omega) (by omega) W
 rw [e1] at cr1
 rw [e2] at cr2
 have k1 : i1 < P.length := by rw [hP.out]; exact l1
 have k2 : i2 < P.length := by rw [hP.out]; exact l2
 have K1 := Lib.hid (List.getElem_mem k1)
 have K2 := Lib.hid (List.getElem_mem k2)
 have cs1 := zFe s P[i1] hs (by omega)
 have cs2 := zFe s P[i2] hs (by omega)
 have hin1 := Lib.hid (zGa hs P[i1])
 have hin2 := Lib.hid (zGa hs P[i2])
 have HZ1 := Lib.hid (show ∀ q, q = spt s P[i1] → PutPt s P q from fun q h => .inr ⟨_, List.getElem_mem k1, h⟩)
 have HZ2 := Lib.hid (show ∀ q, q = spt s P[i2] → PutPt s P q from fun q h => .inr ⟨_, List.getElem_mem k2, h⟩)
 have hx1 := fun W (h : RowAt cI 1 W a0 P) => h.num k1
 have hx2 := fun W (h : RowAt cI 1 W a0 P) => h.num k2
 generalize P[i1] = x1 at *
 generalize P[i2] = x2 at *
 obtain ⟨p, hp⟩ : ∃ p, spt s x1 = p := ⟨_, rfl⟩
 obtain ⟨q, hq⟩ : ∃ q, spt s x2 = q := ⟨_, rfl⟩
 rw [hp] at cs1 hin1 HZ1
 rw [hq] at cs2 hin2 HZ2
 clear hf hn hs hs2 e1 e2 hp hq K1 K2
 go_enter Tryz.func4, Tryz.ntmps4
 go_wp2_with fail
 refine (cf _).mono ?_
 rintro e w1 ⟨rfl, hb1⟩
 clear cf
 go_wp2_with fail
 refine (zDl s HS.out (by have := HS2.out; omega) a0 n c0 0 P hP (by have := HN.out; omega) _ (h0.ee hb1)).mono ?_
 rintro e w2 ⟨m2, b2, cb, mb, bb, db, v, E, E0, L, D, rfl, B2, H2, G2, S, hI, hC, hl, _, hb, _, _, _, _, _, _⟩
 have hb0 := (upB hb1 hb)
 have ht : Tiles s s L := hI.fix.tiles
 have hF := Lib.hid (wt_facts HS.out (by have := HS2.out; omega) G2 ht hin1.out hin2.out ((hC p).2 (HZ1.out p rfl)) ((hC q).2 (HZ2.out q rfl)))
 have hlL : L.length ≤ 100 := by have := HN.out; have := hP.out; omega
 have hE : E.length ≤ 1000000 := by rw [G2.len]; omega
 have c1 := fun W B H => zD9 m2 b2 E p q hE W B H
 have c2 := fun W B H => zD9 m2 b2 E q p hE W B H
 rw [hF.out.1] at c2
 have hF2 := Lib.hid hF.out.2
 have hTl := Lib.hid (show (srt cmpT (heads (fun T => alg T p q) E)).length ≤ 1000000 from by rw [(zAd _).length_eq]; exact Nat.le_trans (zBe _ _) hE)
 have hTv := Lib.hid (show ∀ T ∈ srt cmpT (heads (fun T => alg T p q) E), okT T from fun T h => zBz (G2.val T (List.mem_filter.1 ((zAy G2 _).mem_iff.1 ((zAd _).mem_iff.1 h))).1))
 generalize srt cmpT (heads (fun T => alg T p q) E) = M at c1 c2 hF2 hTl hTv
 have hM := Lib.hid H2
 have BN := B2
 have hrow := Lib.hid (h0.ee hb0)
 have hw := Below.refl w2.heap.size w2
 clear B2 H2 S hI hC hl hb hb1 G2 ht hlL hE h0 hF HZ1 HZ2 hin1 hin2
 obtain ⟨ad, ea, _, _⟩ := hx1 _ hrow.out
 have hc1 : ∀ W, Below w2.heap.size w2 W → (ad.block = W.heap.size) = False ∧ W.cell? (ad.add i1) = some (.int .i64 x1) := fun W hb => by
  obtain ⟨ad', e', h1, h2⟩ := hx1 W (hrow.out.ee hb)
  obtain rfl : ad = ad' := Option.some.inj (ea.symm.trans e')
  exact ⟨by simp; omega, h2⟩
 have hc2 : ∀ W, Below w2.heap.size w2 W → (ad.block = W.heap.size) = False ∧ W.cell? (ad.add i2) = some (.int .i64 x2) := fun W hb => by
  obtain ⟨ad', e', h1, h2⟩ := hx2 W (hrow.out.ee hb)
  obtain rfl : ad = ad' := Option.some.inj (ea.symm.trans e')
  exact ⟨by simp; omega, h2⟩
 have HC1 := Lib.hid hc1
 have HC2 := Lib.hid hc2
 clear hx1 hx2 hc1 hc2 k1 k2 hrow
 subst ea
 have q1 : (i1 : Int) < (n : Int) := by omega
 have q2 : (0 : Int) ≤ (i1 : Int) := by omega
 have q3 : (i2 : Int) < (n : Int) := by omega
 have q4 : (0 : Int) ≤ (i2 : Int) := by omega
 go_wp2_with fail
 refine (cr1 _).mono ?_
 rintro e w11 ⟨rfl, hb⟩
 replace BN := BN.ee hb
 replace hw := upB hw hb
 clear hb
 obtain ⟨za, va⟩ := HC1.out _ hw
 go_wp2_with fail
 clear za va
 refine (cs1 _).mono ?_
 rintro e w12 ⟨rfl, hb⟩
 replace BN := BN.ee hb
 replace hw := upB hw hb
 clear hb
 go_wp2_with fail
 refine (cr2 _).mono ?_
 rintro e w13 ⟨rfl, hb⟩
 replace BN := BN.ee hb
 replace hw := upB hw hb
 clear hb
 obtain ⟨za, va⟩ := HC2.out _ hw
 go_wp2_with fail
 clear za va
 refine (cs2 _).mono ?_
 rintro e w14 ⟨rfl, hb⟩
 replace BN := BN.ee hb
 replace hw := upB hw hb
 clear hb
 clear cr1 cr2 cs1 cs2 HC1 HC2
 go_wp2_with fail
 refine zA1 fun W15 hW => ?_
 obtain ⟨bkP, hbP⟩ : ∃ b, w14.heap.size = b := ⟨_, rfl⟩
 rw [hbP]
 have lNP := BN.lt
 rw [hbP] at lNP
 have fP := hw.size
 rw [hbP] at fP
 have BP : Box W15 (bkP) [.int .i64 p.x, .int .i64 p.y] 30 := by rw [hW, ← hbP]; exact (Box.new rfl).old _
 have BQ : Box W15 (bkP + 1) [.int .i64 q.x, .int .i64 q.y] 30 := by rw [hW, ← hbP]; exact Box.new (by simp)
 replace BN : Box W15 (m2) [.map (some b2)] 89 := by rw [hW]; exact ((BN).old _).old _
 replace hw : Below w2.heap.size w2 W15 := by have hl := hw.size; rw [hW]; go_grown
 clear hW hbP
 refine (c1 _ BN (hM.out.ee hw)).mono ?_
 rintro e w16 ⟨a5, c5, rfl, hr5, hb⟩
 replace BN := BN.ee hb
 replace BP := BP.ee hb
 replace BQ := BQ.ee hb
 replace hw := upB hw hb
 clear hb
 have HR5 := Lib.hid hr5
 clear hr5
 obtain ⟨m, hm⟩ : ∃ m, M.length = m := ⟨_, rfl⟩
 rw [hm]
 have HMl := Lib.hid hm
 clear hm
 cases hpq : peqI p.x p.y q.x q.y with
 | true =>
  have hpq' := zBi.1 hpq
  have hz : m = 0 := by rw [← HMl.out, hF2.out.1 hpq']; rfl
  subst hz
  clear hpq'
  obtain ⟨xN, yN, zN, vN⟩ := BN.facts
  obtain ⟨xP, yP, zP, vP⟩ := BP.facts
  obtain ⟨xQ, yQ, zQ, vQ⟩ := BQ.facts
  go_wp2_with fail
  refine (zBk _).mono ?_
  rintro e w17 ⟨rfl, hb⟩
  clear xN yN zN vN xP yP zP vP xQ yQ zQ vQ
  replace BN := BN.ee hb
  replace BP := BP.ee hb
  replace BQ := BQ.ee hb
  replace hw := upB hw hb
  clear hb
  go_wp2
  go_ret
  exact ⟨rfl, (upB hb0 hw)⟩
 | false =>
  have hpq' : p ≠ q := fun e => by rw [zBi.2 e] at hpq; cases hpq
  have hF3 := Lib.hid (hF2.out.2 hpq')
  clear hpq' hF2
  obtain ⟨xN, yN, zN, vN⟩ := BN.facts
  obtain ⟨xP, yP, zP, vP⟩ := BP.facts
  obtain ⟨xQ, yQ, zQ, vQ⟩ := BQ.facts
  go_wp2_with fail
  clear xN yN zN vN xP yP zP vP xQ yQ zQ vQ
  have hwA := hw
  have hTl2 := Lib.hid (show m ≤ 1000000 from by rw [← HMl.out]; exact hTl.out)
  go_loopw [14, 15, 16] (fun v1 v2 v3 wr => ∃ (k : Nat) (f l : Bool), k ≤ m ∧ v1 = .bool f ∧ v2 = .bool l ∧ v3 = .int .i64 k ∧ Hid (f = (M.take k).any (isCb p)) ∧ Hid (l = (M.take k).any (isCb q)) ∧ Below w16.heap.size w16 wr) (fun _ _ v _ => m - (intOf v).toNat)
  case atStart => exact ⟨0, false, false, Nat.zero_le _, rfl, rfl, rfl, Lib.hid rfl, Lib.hid rfl, Below.refl _ _⟩
  case round =>
   obtain ⟨k, f, l, hk, rfl, rfl, rfl, HF, HL, hw⟩ := hrel
   by_cases hkm : k < m
   case neg =>
    obtain rfl : k = m := by omega
    obtain rfl : f = true := by rw [HF.out, List.take_of_length_le (by rw [HMl.out]; omega)]; exact hF3.out.1
    obtain rfl : l = true := by rw [HL.out, List.take_of_length_le (by rw [HMl.out]; omega)]; exact hF3.out.2
    have BN2 := BN.ee hw
    have BP2 := BP.ee hw
    have BQ2 := BQ.ee hw
    have HM2 := (hM.out.ee hwA).ee hw
    have hw2 := (upB hwA hw)
    have HR := HR5.out.ee hw
    obtain ⟨x1, y1, z1, v1⟩ := BP2.facts
    obtain ⟨x2, y2, z2, v2⟩ := BQ2.facts
    go_wp2_with fail
    refine (c2 _ BN2 HM2).mono ?_
    rintro e w6 ⟨a6, c6, rfl, hr6, hb6⟩
    have ca := zK6 a6 a5 c6 c5 M M w6 hr6 (HR.ee hb6) hTl.out
    rw [decide_eq_true rfl, HMl.out] at ca
    rw [HMl.out]
    clear x1 y1 z1 v1 x2 y2 z2 v2
    go_wp2_with fail
    refine ca.mono ?_
    rintro e w7 ⟨rfl, hb7⟩
    go_wp2_with fail
    refine (zBk _).mono ?_
    rintro e w8 ⟨rfl, hb8⟩
    have h8 := hw2.trans ((((upB hb6 hb7)).trans (hb8.mono ((upB hb6 hb7)).size)).mono hw2.size)
    go_wp2
    go_ret
    exact ⟨rfl, (upB hb0 h8)⟩
   case pos =>
    have hkM : k < M.length := by rw [HMl.out]; exact hkm
    have HN := Lib.hid (show M.take (k + 1) = M.take k ++ [M[k]] from List.take_succ_eq_append_getElem hkM)
    obtain ⟨ad5, A, ea, eA, hA0⟩ := HR5.out.six hkM
    have hA1 := Lib.hid hA0
    generalize M[k] = T at *
    subst ea
    clear hA0 hTv hTl c2 hF3
    have hk1 : wrap64 ((k : Int) + 1) = (k : Int) + 1 := w64_succ (Nat.le_trans (Nat.le_of_lt hkm) (Nat.le_trans hTl2.out (by decide)))
    have q5 : (k : Int) < (m : Int) := Int.ofNat_lt.2 hkm
    have q6 : (0 : Int) ≤ (k : Int) := Int.natCast_nonneg k
    have cc0 : ∀ w, Calls Tryz.prog 23 #[.agg #[.int .i64 T.A.x, .int .i64 T.A.y, .int .i64 T.B.x, .int .i64 T.B.y, .int .i64 T.C.x, .int .i64 T.C.y], .int .i64 0] w fun e w' => e = .returned (.agg #[.int .i64 T.A.x, .int .i64 T.A.y]) ∧ Below w.heap.size w w' := zAr T 0
    have cc1 : ∀ w, Calls Tryz.prog 23 #[.agg #[.int .i64 T.A.x, .int .i64 T.A.y, .int .i64 T.B.x, .int .i64 T.B.y, .int .i64 T.C.x, .int .i64 T.C.y], .int .i64 1] w fun e w' => e = .returned (.agg #[.int .i64 T.B.x, .int .i64 T.B.y]) ∧ Below w.heap.size w w' := zAr T 1
    have cc2 : ∀ w, Calls Tryz.prog 23 #[.agg #[.int .i64 T.A.x, .int .i64 T.A.y, .int .i64 T.B.x, .int .i64 T.B.y, .int .i64 T.C.x, .int .i64 T.C.y], .int .i64 2] w fun e w' => e = .returned (.agg #[.int .i64 T.C.x, .int .i64 T.C.y]) ∧ Below w.heap.size w w' := zAr T 2
    go_wp2_with fail
    go_loopw [14, 15, 17] (fun v1 v2 v3 wr => ∃ (j : Nat) (f2 l2 : Bool) (J : Int), j ≤ 3 ∧ v1 = .bool f2 ∧ v2 = .bool l2 ∧ v3 = .int .i64 J ∧ Hid (J = j) ∧ Hid (f2 = (f || cknB T p j)) ∧ Hid (l2 = (l || cknB T q j)) ∧ Below w16.heap.size w16 wr) (fun _ _ v _ => 3 - (intOf v).toNat)
    case atStart => exact ⟨0, f, l, 0, by omega, rfl, rfl, rfl, Lib.hid rfl, Lib.hid (by simp [cknB]), Lib.hid (by simp [cknB]), hw⟩
    case round =>
     clear hw
     obtain ⟨j, f2, l2, J, hj, rfl, rfl, rfl, hJ, HF2, HL2, hw⟩ := hrel
     have hj' : j = 0 ∨ j = 1 ∨ j = 2 ∨ j = 3 := by omega
     rcases hj' with rfl | rfl | rfl | rfl
     ·have hJ : J = 0 := by simpa using hJ.out
      subst hJ
      have HF3 := Lib.hid (show (f || cknB T p (0 + 1)) = (f2 || peqI T.A.x T.A.y p.x p.y) from by rw [HF2.out, Bool.or_assoc]; rfl)
      have HL3 := Lib.hid (show (l || cknB T q (0 + 1)) = (l2 || peqI T.A.x T.A.y q.x q.y) from by rw [HL2.out, Bool.or_assoc]; rfl)
      clear HF2 HL2
      cases f2 with
      | true =>
       cases l2 with
       | true =>
        replace BP := BP.ee hw
        replace BQ := BQ.ee hw
        have hA := hA1.out.ee hw
        obtain ⟨xP, yP, zP, vP⟩ := BP.facts
        obtain ⟨xQ, yQ, zQ, vQ⟩ := BQ.facts
        go_wp2_with fail
        clear xP yP zP vP xQ yQ zQ vQ
        have gP := BP.cells
        have gQ := BQ.cells
        refine wp_region_tail 11 (by kernel_rfl) (by kernel_rfl) (C := fun w' => ∃ p : Regrown, w' = grow (redrawn wr p.d) p.os) rgB ?_
        simp only [tK1, tK0, dP1, dP0]
        repeat (first | (refine zA0 (Eq.refl false) ?_; simp only [Act.put, sT2, sT1, sT0]) | (refine rWalk_step (fun K hK => ?_); go_simp; first | (refine hK _ ?_; clear hK K) | (apply Exists.intro; refine ⟨fun _ => ?_, hK _ ?_⟩; (first | fail); clear hK K)))
        refine rWalk_nil ?_
        intro w61 hb
        clear gP gQ
        replace BP := BP.ee hb
        replace BQ := BQ.ee hb
        replace hw := upB hw hb
        have hA := hA1.out.ee hw
        obtain ⟨xP, yP, zP, vP⟩ := BP.facts
        obtain ⟨xQ, yQ, zQ, vQ⟩ := BQ.facts
        go_wp2_with fail
        clear xP yP zP vP xQ yQ zQ vQ
        have gP := BP.cells
        have gQ := BQ.cells
        refine wp_region_tail 11 (by kernel_rfl) (by kernel_rfl) (C := fun w' => ∃ p : Regrown, w' = grow (redrawn w61 p.d) p.os) rgB ?_
        simp only [tK1, tK0, dP1, dP0]
        repeat (first | (refine zA0 (Eq.refl false) ?_; simp only [Act.put, sT2, sT1, sT0]) | (refine rWalk_step (fun K hK => ?_); go_simp; first | (refine hK _ ?_; clear hK K) | (apply Exists.intro; refine ⟨fun _ => ?_, hK _ ?_⟩; (first | fail); clear hK K)))
        refine rWalk_nil ?_
        intro w62 hb
        clear gP gQ
        replace BP := BP.ee hb
        replace BQ := BQ.ee hb
        replace hw := upB hw hb
        have hA := hA1.out.ee hw
        obtain ⟨xP, yP, zP, vP⟩ := BP.facts
        obtain ⟨xQ, yQ, zQ, vQ⟩ := BQ.facts
        go_wp2_with fail
        clear xP yP zP vP xQ yQ zQ vQ
        go_roundw
        case rel => exact ⟨1, _, _, 1, by decide, rfl, rfl, by first | rfl | go_num, Lib.hid rfl, Lib.hid (by rw [HF3.out]; simp), Lib.hid (by rw [HL3.out]; simp), hw⟩
        case measure => simp [intOf]
       | false =>
        replace BP := BP.ee hw
        replace BQ := BQ.ee hw
        have hA := hA1.out.ee hw
        obtain ⟨xP, yP, zP, vP⟩ := BP.facts
        obtain ⟨xQ, yQ, zQ, vQ⟩ := BQ.facts
        go_wp2_with fail
        clear xP yP zP vP xQ yQ zQ vQ
        have gP := BP.cells
        have gQ := BQ.cells
        refine wp_region_tail 11 (by kernel_rfl) (by kernel_rfl) (C := fun w' => ∃ p : Regrown, w' = grow (redrawn wr p.d) p.os) rgB ?_
        simp only [tK1, tK0, dP1, dP0]
        repeat (first | (refine zA0 (Eq.refl false) ?_; simp only [Act.put, sT2, sT1, sT0]) | (refine rWalk_step (fun K hK => ?_); go_simp; first | (refine hK _ ?_; clear hK K) | (apply Exists.intro; refine ⟨fun _ => ?_, hK _ ?_⟩; (first | fail); clear hK K)))
        refine rWalk_nil ?_
        intro w61 hb
        clear gP gQ
        replace BP := BP.ee hb
        replace BQ := BQ.ee hb
        replace hw := upB hw hb
        have hA := hA1.out.ee hw
        obtain ⟨xP, yP, zP, vP⟩ := BP.facts
        obtain ⟨xQ, yQ, zQ, vQ⟩ := BQ.facts
        go_wp2_with fail
        clear xP yP zP vP xQ yQ zQ vQ
        obtain ⟨s0, s1, s2, s3, s4, s5⟩ := hA.cells
        obtain ⟨xP, yP, zP, vP⟩ := BP.facts
        obtain ⟨xQ, yQ, zQ, vQ⟩ := BQ.facts
        have gP := BP.cells
        have gQ := BQ.cells
        refine wp_region_tail 11 (by kernel_rfl) (by kernel_rfl) (C := fun w' => ∃ p : Regrown, w' = grow (redrawn w61 p.d) p.os) rgB ?_
        simp only [tK1, tK0, dP1, dP0]
        repeat (first | (refine zA0 (Eq.refl false) ?_; simp only [Act.put, sT2, sT1, sT0]) | (refine rWalk_step (fun K hK => ?_); go_simp; first | (refine hK _ ?_; clear hK K) | (apply Exists.intro; refine ⟨fun _ => ?_, hK _ ?_⟩; (first | with_reducible exact toExt cc0 _); clear hK K)))
        refine rWalk_nil ?_
        intro w62 hb
        clear gP gQ
        clear xP yP zP vP xQ yQ zQ vQ
        replace BP := BP.ee hb
        replace BQ := BQ.ee hb
        replace hw := upB hw hb
        clear s0 s1 s2 s3 s4 s5
        have hA := hA1.out.ee hw
        obtain ⟨xP, yP, zP, vP⟩ := BP.facts
        obtain ⟨xQ, yQ, zQ, vQ⟩ := BQ.facts
        go_wp2_with fail
        clear xP yP zP vP xQ yQ zQ vQ
        go_roundw
        case rel => exact ⟨1, _, _, 1, by decide, rfl, rfl, by first | rfl | go_num, Lib.hid rfl, Lib.hid (by rw [HF3.out]; simp), Lib.hid (by rw [HL3.out]; simp), hw⟩
        case measure => simp [intOf]
      | false =>
       cases l2 with
       | true =>
        replace BP := BP.ee hw
        replace BQ := BQ.ee hw
        have hA := hA1.out.ee hw
        obtain ⟨xP, yP, zP, vP⟩ := BP.facts
        obtain ⟨xQ, yQ, zQ, vQ⟩ := BQ.facts
        go_wp2_with fail
        clear xP yP zP vP xQ yQ zQ vQ
        obtain ⟨s0, s1, s2, s3, s4, s5⟩ := hA.cells
        obtain ⟨xP, yP, zP, vP⟩ := BP.facts
        obtain ⟨xQ, yQ, zQ, vQ⟩ := BQ.facts
        have gP := BP.cells
        have gQ := BQ.cells
        refine wp_region_tail 11 (by kernel_rfl) (by kernel_rfl) (C := fun w' => ∃ p : Regrown, w' = grow (redrawn wr p.d) p.os) rgB ?_
        simp only [tK1, tK0, dP1, dP0]
        repeat (first | (refine zA0 (Eq.refl false) ?_; simp only [Act.put, sT2, sT1, sT0]) | (refine rWalk_step (fun K hK => ?_); go_simp; first | (refine hK _ ?_; clear hK K) | (apply Exists.intro; refine ⟨fun _ => ?_, hK _ ?_⟩; (first | with_reducible exact toExt cc0 _); clear hK K)))
        refine rWalk_nil ?_
        intro w61 hb
        clear gP gQ
        clear xP yP zP vP xQ yQ zQ vQ
        replace BP := BP.ee hb
        replace BQ := BQ.ee hb
        replace hw := upB hw hb
        clear s0 s1 s2 s3 s4 s5
        have hA := hA1.out.ee hw
        obtain ⟨xP, yP, zP, vP⟩ := BP.facts
        obtain ⟨xQ, yQ, zQ, vQ⟩ := BQ.facts
        go_wp2_with fail
        clear xP yP zP vP xQ yQ zQ vQ
        have gP := BP.cells
        have gQ := BQ.cells
        refine wp_region_tail 11 (by kernel_rfl) (by kernel_rfl) (C := fun w' => ∃ p : Regrown, w' = grow (redrawn w61 p.d) p.os) rgB ?_
        simp only [tK1, tK0, dP1, dP0]
        repeat (first | (refine zA0 (Eq.refl false) ?_; simp only [Act.put, sT2, sT1, sT0]) | (refine rWalk_step (fun K hK => ?_); go_simp; first | (refine hK _ ?_; clear hK K) | (apply Exists.intro; refine ⟨fun _ => ?_, hK _ ?_⟩; (first | fail); clear hK K)))
        refine rWalk_nil ?_
        intro w62 hb
        clear gP gQ
        replace BP := BP.ee hb
        replace BQ := BQ.ee hb
        replace hw := upB hw hb
        have hA := hA1.out.ee hw
        obtain ⟨xP, yP, zP, vP⟩ := BP.facts
        obtain ⟨xQ, yQ, zQ, vQ⟩ := BQ.facts
        go_wp2_with fail
        clear xP yP zP vP xQ yQ zQ vQ
        go_roundw
        case rel => exact ⟨1, _, _, 1, by decide, rfl, rfl, by first | rfl | go_num, Lib.hid rfl, Lib.hid (by rw [HF3.out]; simp), Lib.hid (by rw [HL3.out]; simp), hw⟩
        case measure => simp [intOf]
       | false =>
        replace BP := BP.ee hw
        replace BQ := BQ.ee hw
        have hA := hA1.out.ee hw
        obtain ⟨xP, yP, zP, vP⟩ := BP.facts
        obtain ⟨xQ, yQ, zQ, vQ⟩ := BQ.facts
        go_wp2_with fail
        clear xP yP zP vP xQ yQ zQ vQ
        obtain ⟨s0, s1, s2, s3, s4, s5⟩ := hA.cells
        obtain ⟨xP, yP, zP, vP⟩ := BP.facts
        obtain ⟨xQ, yQ, zQ, vQ⟩ := BQ.facts
        have gP := BP.cells
        have gQ := BQ.cells
        refine wp_region_tail 11 (by kernel_rfl) (by kernel_rfl) (C := fun w' => ∃ p : Regrown, w' = grow (redrawn wr p.d) p.os) rgB ?_
        simp only [tK1, tK0, dP1, dP0]
        repeat (first | (refine zA0 (Eq.refl false) ?_; simp only [Act.put, sT2, sT1, sT0]) | (refine rWalk_step (fun K hK => ?_); go_simp; first | (refine hK _ ?_; clear hK K) | (apply Exists.intro; refine ⟨fun _ => ?_, hK _ ?_⟩; (first | with_reducible exact toExt cc0 _); clear hK K)))
        refine rWalk_nil ?_
        intro w61 hb
        clear gP gQ
        clear xP yP zP vP xQ yQ zQ vQ
        replace BP := BP.ee hb
        replace BQ := BQ.ee hb
        replace hw := upB hw hb
        clear s0 s1 s2 s3 s4 s5
        have hA := hA1.out.ee hw
        obtain ⟨xP, yP, zP, vP⟩ := BP.facts
        obtain ⟨xQ, yQ, zQ, vQ⟩ := BQ.facts
        go_wp2_with fail
        clear xP yP zP vP xQ yQ zQ vQ
        obtain ⟨s0, s1, s2, s3, s4, s5⟩ := hA.cells
        obtain ⟨xP, yP, zP, vP⟩ := BP.facts
        obtain ⟨xQ, yQ, zQ, vQ⟩ := BQ.facts
        have gP := BP.cells
        have gQ := BQ.cells
        refine wp_region_tail 11 (by kernel_rfl) (by kernel_rfl) (C := fun w' => ∃ p : Regrown, w' = grow (redrawn w61 p.d) p.os) rgB ?_
        simp only [tK1, tK0, dP1, dP0]
        repeat (first | (refine zA0 (Eq.refl false) ?_; simp only [Act.put, sT2, sT1, sT0]) | (refine rWalk_step (fun K hK => ?_); go_simp; first | (refine hK _ ?_; clear hK K) | (apply Exists.intro; refine ⟨fun _ => ?_, hK _ ?_⟩; (first | with_reducible exact toExt cc0 _); clear hK K)))
        refine rWalk_nil ?_
        intro w62 hb
        clear gP gQ
        clear xP yP zP vP xQ yQ zQ vQ
        replace BP := BP.ee hb
        replace BQ := BQ.ee hb
        replace hw := upB hw hb
        clear s0 s1 s2 s3 s4 s5
        have hA := hA1.out.ee hw
        obtain ⟨xP, yP, zP, vP⟩ := BP.facts
        obtain ⟨xQ, yQ, zQ, vQ⟩ := BQ.facts
        go_wp2_with fail
        clear xP yP zP vP xQ yQ zQ vQ
        go_roundw
        case rel => exact ⟨1, _, _, 1, by decide, rfl, rfl, by first | rfl | go_num, Lib.hid rfl, Lib.hid (by rw [HF3.out]; simp), Lib.hid (by rw [HL3.out]; simp), hw⟩
        case measure => simp [intOf]
     ·have hJ : J = 1 := by simpa using hJ.out
      subst hJ
      have HF3 := Lib.hid (show (f || cknB T p (1 + 1)) = (f2 || peqI T.B.x T.B.y p.x p.y) from by rw [HF2.out, Bool.or_assoc]; rfl)
      have HL3 := Lib.hid (show (l || cknB T q (1 + 1)) = (l2 || peqI T.B.x T.B.y q.x q.y) from by rw [HL2.out, Bool.or_assoc]; rfl)
      clear HF2 HL2
      cases f2 with
      | true =>
       cases l2 with
       | true =>
        replace BP := BP.ee hw
        replace BQ := BQ.ee hw
        have hA := hA1.out.ee hw
        obtain ⟨xP, yP, zP, vP⟩ := BP.facts
        obtain ⟨xQ, yQ, zQ, vQ⟩ := BQ.facts
        go_wp2_with fail
        clear xP yP zP vP xQ yQ zQ vQ
        have gP := BP.cells
        have gQ := BQ.cells
        refine wp_region_tail 11 (by kernel_rfl) (by kernel_rfl) (C := fun w' => ∃ p : Regrown, w' = grow (redrawn wr p.d) p.os) rgB ?_
        simp only [tK1, tK0, dP1, dP0]
        repeat (first | (refine zA0 (Eq.refl false) ?_; simp only [Act.put, sT2, sT1, sT0]) | (refine rWalk_step (fun K hK => ?_); go_simp; first | (refine hK _ ?_; clear hK K) | (apply Exists.intro; refine ⟨fun _ => ?_, hK _ ?_⟩; (first | fail); clear hK K)))
        refine rWalk_nil ?_
        intro w61 hb
        clear gP gQ
        replace BP := BP.ee hb
        replace BQ := BQ.ee hb
        replace hw := upB hw hb
        have hA := hA1.out.ee hw
        obtain ⟨xP, yP, zP, vP⟩ := BP.facts
        obtain ⟨xQ, yQ, zQ, vQ⟩ := BQ.facts
        go_wp2_with fail
        clear xP yP zP vP xQ yQ zQ vQ
        have gP := BP.cells
        have gQ := BQ.cells
        refine wp_region_tail 11 (by kernel_rfl) (by kernel_rfl) (C := fun w' => ∃ p : Regrown, w' = grow (redrawn w61 p.d) p.os) rgB ?_
        simp only [tK1, tK0, dP1, dP0]
        repeat (first | (refine zA0 (Eq.refl false) ?_; simp only [Act.put, sT2, sT1, sT0]) | (refine rWalk_step (fun K hK => ?_); go_simp; first | (refine hK _ ?_; clear hK K) | (apply Exists.intro; refine ⟨fun _ => ?_, hK _ ?_⟩; (first | fail); clear hK K)))
        refine rWalk_nil ?_
        intro w62 hb
        clear gP gQ
        replace BP := BP.ee hb
        replace BQ := BQ.ee hb
        replace hw := upB hw hb
        have hA := hA1.out.ee hw
        obtain ⟨xP, yP, zP, vP⟩ := BP.facts
        obtain ⟨xQ, yQ, zQ, vQ⟩ := BQ.facts
        go_wp2_with fail
        clear xP yP zP vP xQ yQ zQ vQ
        go_roundw
        case rel => exact ⟨2, _, _, 2, by decide, rfl, rfl, by first | rfl | go_num, Lib.hid rfl, Lib.hid (by rw [HF3.out]; simp), Lib.hid (by rw [HL3.out]; simp), hw⟩
        case measure => simp [intOf]
       | false =>
        replace BP := BP.ee hw
        replace BQ := BQ.ee hw
        have hA := hA1.out.ee hw
        obtain ⟨xP, yP, zP, vP⟩ := BP.facts
        obtain ⟨xQ, yQ, zQ, vQ⟩ := BQ.facts
        go_wp2_with fail
        clear xP yP zP vP xQ yQ zQ vQ
        have gP := BP.cells
        have gQ := BQ.cells
        refine wp_region_tail 11 (by kernel_rfl) (by kernel_rfl) (C := fun w' => ∃ p : Regrown, w' = grow (redrawn wr p.d) p.os) rgB ?_
        simp only [tK1, tK0, dP1, dP0]
        repeat (first | (refine zA0 (Eq.refl false) ?_; simp only [Act.put, sT2, sT1, sT0]) | (refine rWalk_step (fun K hK => ?_); go_simp; first | (refine hK _ ?_; clear hK K) | (apply Exists.intro; refine ⟨fun _ => ?_, hK _ ?_⟩; (first | fail); clear hK K)))
        refine rWalk_nil ?_
        intro w61 hb
        clear gP gQ
        replace BP := BP.ee hb
        replace BQ := BQ.ee hb
        replace hw := upB hw hb
        have hA := hA1.out.ee hw
        obtain ⟨xP, yP, zP, vP⟩ := BP.facts
        obtain ⟨xQ, yQ, zQ, vQ⟩ := BQ.facts
        go_wp2_with fail
        clear xP yP zP vP xQ yQ zQ vQ
        obtain ⟨s0, s1, s2, s3, s4, s5⟩ := hA.cells
        obtain ⟨xP, yP, zP, vP⟩ := BP.facts
        obtain ⟨xQ, yQ, zQ, vQ⟩ := BQ.facts
        have gP := BP.cells
        have gQ := BQ.cells
        refine wp_region_tail 11 (by kernel_rfl) (by kernel_rfl) (C := fun w' => ∃ p : Regrown, w' = grow (redrawn w61 p.d) p.os) rgB ?_
        simp only [tK1, tK0, dP1, dP0]
        repeat (first | (refine zA0 (Eq.refl false) ?_; simp only [Act.put, sT2, sT1, sT0]) | (refine rWalk_step (fun K hK => ?_); go_simp; first | (refine hK _ ?_; clear hK K) | (apply Exists.intro; refine ⟨fun _ => ?_, hK _ ?_⟩; (first | with_reducible exact toExt cc1 _); clear hK K)))
        refine rWalk_nil ?_
        intro w62 hb
        clear gP gQ
        clear xP yP zP vP xQ yQ zQ vQ
        replace BP := BP.ee hb
        replace BQ := BQ.ee hb
        replace hw := upB hw hb
        clear s0 s1 s2 s3 s4 s5
        have hA := hA1.out.ee hw
        obtain ⟨xP, yP, zP, vP⟩ := BP.facts
        obtain ⟨xQ, yQ, zQ, vQ⟩ := BQ.facts
        go_wp2_with fail
        clear xP yP zP vP xQ yQ zQ vQ
        go_roundw
        case rel => exact ⟨2, _, _, 2, by decide, rfl, rfl, by first | rfl | go_num, Lib.hid rfl, Lib.hid (by rw [HF3.out]; simp), Lib.hid (by rw [HL3.out]; simp), hw⟩
        case measure => simp [intOf]
      | false =>
       cases l2 with
       | true =>
        replace BP := BP.ee hw
        replace BQ := BQ.ee hw
        have hA := hA1.out.ee hw
        obtain ⟨xP, yP, zP, vP⟩ := BP.facts
        obtain ⟨xQ, yQ, zQ, vQ⟩ := BQ.facts
        go_wp2_with fail
        clear xP yP zP vP xQ yQ zQ vQ
        obtain ⟨s0, s1, s2, s3, s4, s5⟩ := hA.cells
        obtain ⟨xP, yP, zP, vP⟩ := BP.facts
        obtain ⟨xQ, yQ, zQ, vQ⟩ := BQ.facts
        have gP := BP.cells
        have gQ := BQ.cells
        refine wp_region_tail 11 (by kernel_rfl) (by kernel_rfl) (C := fun w' => ∃ p : Regrown, w' = grow (redrawn wr p.d) p.os) rgB ?_
        simp only [tK1, tK0, dP1, dP0]
        repeat (first | (refine zA0 (Eq.refl false) ?_; simp only [Act.put, sT2, sT1, sT0]) | (refine rWalk_step (fun K hK => ?_); go_simp; first | (refine hK _ ?_; clear hK K) | (apply Exists.intro; refine ⟨fun _ => ?_, hK _ ?_⟩; (first | with_reducible exact toExt cc1 _); clear hK K)))
        refine rWalk_nil ?_
        intro w61 hb
        clear gP gQ
        clear xP yP zP vP xQ yQ zQ vQ
        replace BP := BP.ee hb
        replace BQ := BQ.ee hb
        replace hw := upB hw hb
        clear s0 s1 s2 s3 s4 s5
        have hA := hA1.out.ee hw
        obtain ⟨xP, yP, zP, vP⟩ := BP.facts
        obtain ⟨xQ, yQ, zQ, vQ⟩ := BQ.facts
        go_wp2_with fail
        clear xP yP zP vP xQ yQ zQ vQ
        have gP := BP.cells
        have gQ := BQ.cells
        refine wp_region_tail 11 (by kernel_rfl) (by kernel_rfl) (C := fun w' => ∃ p : Regrown, w' = grow (redrawn w61 p.d) p.os) rgB ?_
        simp only [tK1, tK0, dP1, dP0]
        repeat (first | (refine zA0 (Eq.refl false) ?_; simp only [Act.put, sT2, sT1, sT0]) | (refine rWalk_step (fun K hK => ?_); go_simp; first | (refine hK _ ?_; clear hK K) | (apply Exists.intro; refine ⟨fun _ => ?_, hK _ ?_⟩; (first | fail); clear hK K)))
        refine rWalk_nil ?_
        intro w62 hb
        clear gP gQ
        replace BP := BP.ee hb
        replace BQ := BQ.ee hb
        replace hw := upB hw hb
        have hA := hA1.out.ee hw
        obtain ⟨xP, yP, zP, vP⟩ := BP.facts
        obtain ⟨xQ, yQ, zQ, vQ⟩ := BQ.facts
        go_wp2_with fail
        clear xP yP zP vP xQ yQ zQ vQ
        go_roundw
        case rel => exact ⟨2, _, _, 2, by decide, rfl, rfl, by first | rfl | go_num, Lib.hid rfl, Lib.hid (by rw [HF3.out]; simp), Lib.hid (by rw [HL3.out]; simp), hw⟩
        case measure => simp [intOf]
       | false =>
        replace BP := BP.ee hw
        replace BQ := BQ.ee hw
        have hA := hA1.out.ee hw
        obtain ⟨xP, yP, zP, vP⟩ := BP.facts
        obtain ⟨xQ, yQ, zQ, vQ⟩ := BQ.facts
        go_wp2_with fail
        clear xP yP zP vP xQ yQ zQ vQ
        obtain ⟨s0, s1, s2, s3, s4, s5⟩ := hA.cells
        obtain ⟨xP, yP, zP, vP⟩ := BP.facts
        obtain ⟨xQ, yQ, zQ, vQ⟩ := BQ.facts
        have gP := BP.cells
        have gQ := BQ.cells
        refine wp_region_tail 11 (by kernel_rfl) (by kernel_rfl) (C := fun w' => ∃ p : Regrown, w' = grow (redrawn wr p.d) p.os) rgB ?_
        simp only [tK1, tK0, dP1, dP0]
        repeat (first | (refine zA0 (Eq.refl false) ?_; simp only [Act.put, sT2, sT1, sT0]) | (refine rWalk_step (fun K hK => ?_); go_simp; first | (refine hK _ ?_; clear hK K) | (apply Exists.intro; refine ⟨fun _ => ?_, hK _ ?_⟩; (first | with_reducible exact toExt cc1 _); clear hK K)))
        refine rWalk_nil ?_
        intro w61 hb
        clear gP gQ
        clear xP yP zP vP xQ yQ zQ vQ
        replace BP := BP.ee hb
        replace BQ := BQ.ee hb
        replace hw := upB hw hb
        clear s0 s1 s2 s3 s4 s5
        have hA := hA1.out.ee hw
        obtain ⟨xP, yP, zP, vP⟩ := BP.facts
        obtain ⟨xQ, yQ, zQ, vQ⟩ := BQ.facts
        go_wp2_with fail
        clear xP yP zP vP xQ yQ zQ vQ
        obtain ⟨s0, s1, s2, s3, s4, s5⟩ := hA.cells
        obtain ⟨xP, yP, zP, vP⟩ := BP.facts
        obtain ⟨xQ, yQ, zQ, vQ⟩ := BQ.facts
        have gP := BP.cells
        have gQ := BQ.cells
        refine wp_region_tail 11 (by kernel_rfl) (by kernel_rfl) (C := fun w' => ∃ p : Regrown, w' = grow (redrawn w61 p.d) p.os) rgB ?_
        simp only [tK1, tK0, dP1, dP0]
        repeat (first | (refine zA0 (Eq.refl false) ?_; simp only [Act.put, sT2, sT1, sT0]) | (refine rWalk_step (fun K hK => ?_); go_simp; first | (refine hK _ ?_; clear hK K) | (apply Exists.intro; refine ⟨fun _ => ?_, hK _ ?_⟩; (first | with_reducible exact toExt cc1 _); clear hK K)))
        refine rWalk_nil ?_
        intro w62 hb
        clear gP gQ
        clear xP yP zP vP xQ yQ zQ vQ
        replace BP := BP.ee hb
        replace BQ := BQ.ee hb
        replace hw := upB hw hb
        clear s0 s1 s2 s3 s4 s5
        have hA := hA1.out.ee hw
        obtain ⟨xP, yP, zP, vP⟩ := BP.facts
        obtain ⟨xQ, yQ, zQ, vQ⟩ := BQ.facts
        go_wp2_with fail
        clear xP yP zP vP xQ yQ zQ vQ
        go_roundw
        case rel => exact ⟨2, _, _, 2, by decide, rfl, rfl, by first | rfl | go_num, Lib.hid rfl, Lib.hid (by rw [HF3.out]; simp), Lib.hid (by rw [HL3.out]; simp), hw⟩
        case measure => simp [intOf]
     ·have hJ : J = 2 := by simpa using hJ.out
      subst hJ
      have HF3 := Lib.hid (show (f || cknB T p (2 + 1)) = (f2 || peqI T.C.x T.C.y p.x p.y) from by rw [HF2.out, Bool.or_assoc]; rfl)
      have HL3 := Lib.hid (show (l || cknB T q (2 + 1)) = (l2 || peqI T.C.x T.C.y q.x q.y) from by rw [HL2.out, Bool.or_assoc]; rfl)
      clear HF2 HL2
      cases f2 with
      | true =>
       cases l2 with
       | true =>
        replace BP := BP.ee hw
        replace BQ := BQ.ee hw
        have hA := hA1.out.ee hw
        obtain ⟨xP, yP, zP, vP⟩ := BP.facts
        obtain ⟨xQ, yQ, zQ, vQ⟩ := BQ.facts
        go_wp2_with fail
        clear xP yP zP vP xQ yQ zQ vQ
        have gP := BP.cells
        have gQ := BQ.cells
        refine wp_region_tail 11 (by kernel_rfl) (by kernel_rfl) (C := fun w' => ∃ p : Regrown, w' = grow (redrawn wr p.d) p.os) rgB ?_
        simp only [tK1, tK0, dP1, dP0]
        repeat (first | (refine zA0 (Eq.refl false) ?_; simp only [Act.put, sT2, sT1, sT0]) | (refine rWalk_step (fun K hK => ?_); go_simp; first | (refine hK _ ?_; clear hK K) | (apply Exists.intro; refine ⟨fun _ => ?_, hK _ ?_⟩; (first | fail); clear hK K)))
        refine rWalk_nil ?_
        intro w61 hb
        clear gP gQ
        replace BP := BP.ee hb
        replace BQ := BQ.ee hb
        replace hw := upB hw hb
        have hA := hA1.out.ee hw
        obtain ⟨xP, yP, zP, vP⟩ := BP.facts
        obtain ⟨xQ, yQ, zQ, vQ⟩ := BQ.facts
        go_wp2_with fail
        clear xP yP zP vP xQ yQ zQ vQ
        have gP := BP.cells
        have gQ := BQ.cells
        refine wp_region_tail 11 (by kernel_rfl) (by kernel_rfl) (C := fun w' => ∃ p : Regrown, w' = grow (redrawn w61 p.d) p.os) rgB ?_
        simp only [tK1, tK0, dP1, dP0]
        repeat (first | (refine zA0 (Eq.refl false) ?_; simp only [Act.put, sT2, sT1, sT0]) | (refine rWalk_step (fun K hK => ?_); go_simp; first | (refine hK _ ?_; clear hK K) | (apply Exists.intro; refine ⟨fun _ => ?_, hK _ ?_⟩; (first | fail); clear hK K)))
        refine rWalk_nil ?_
        intro w62 hb
        clear gP gQ
        replace BP := BP.ee hb
        replace BQ := BQ.ee hb
        replace hw := upB hw hb
        have hA := hA1.out.ee hw
        obtain ⟨xP, yP, zP, vP⟩ := BP.facts
        obtain ⟨xQ, yQ, zQ, vQ⟩ := BQ.facts
        go_wp2_with fail
        clear xP yP zP vP xQ yQ zQ vQ
        go_roundw
        case rel => exact ⟨3, _, _, 3, by decide, rfl, rfl, by first | rfl | go_num, Lib.hid rfl, Lib.hid (by rw [HF3.out]; simp), Lib.hid (by rw [HL3.out]; simp), hw⟩
        case measure => simp [intOf]
       | false =>
        replace BP := BP.ee hw
        replace BQ := BQ.ee hw
        have hA := hA1.out.ee hw
        obtain ⟨xP, yP, zP, vP⟩ := BP.facts
        obtain ⟨xQ, yQ, zQ, vQ⟩ := BQ.facts
        go_wp2_with fail
        clear xP yP zP vP xQ yQ zQ vQ
        have gP := BP.cells
        have gQ := BQ.cells
        refine wp_region_tail 11 (by kernel_rfl) (by kernel_rfl) (C := fun w' => ∃ p : Regrown, w' = grow (redrawn wr p.d) p.os) rgB ?_
        simp only [tK1, tK0, dP1, dP0]
        repeat (first | (refine zA0 (Eq.refl false) ?_; simp only [Act.put, sT2, sT1, sT0]) | (refine rWalk_step (fun K hK => ?_); go_simp; first | (refine hK _ ?_; clear hK K) | (apply Exists.intro; refine ⟨fun _ => ?_, hK _ ?_⟩; (first | fail); clear hK K)))
        refine rWalk_nil ?_
        intro w61 hb
        clear gP gQ
        replace BP := BP.ee hb
        replace BQ := BQ.ee hb
        replace hw := upB hw hb
        have hA := hA1.out.ee hw
        obtain ⟨xP, yP, zP, vP⟩ := BP.facts
        obtain ⟨xQ, yQ, zQ, vQ⟩ := BQ.facts
        go_wp2_with fail
        clear xP yP zP vP xQ yQ zQ vQ
        obtain ⟨s0, s1, s2, s3, s4, s5⟩ := hA.cells
        obtain ⟨xP, yP, zP, vP⟩ := BP.facts
        obtain ⟨xQ, yQ, zQ, vQ⟩ := BQ.facts
        have gP := BP.cells
        have gQ := BQ.cells
        refine wp_region_tail 11 (by kernel_rfl) (by kernel_rfl) (C := fun w' => ∃ p : Regrown, w' = grow (redrawn w61 p.d) p.os) rgB ?_
        simp only [tK1, tK0, dP1, dP0]
        repeat (first | (refine zA0 (Eq.refl false) ?_; simp only [Act.put, sT2, sT1, sT0]) | (refine rWalk_step (fun K hK => ?_); go_simp; first | (refine hK _ ?_; clear hK K) | (apply Exists.intro; refine ⟨fun _ => ?_, hK _ ?_⟩; (first | with_reducible exact toExt cc2 _); clear hK K)))
        refine rWalk_nil ?_
        intro w62 hb
        clear gP gQ
        clear xP yP zP vP xQ yQ zQ vQ
        replace BP := BP.ee hb
        replace BQ := BQ.ee hb
        replace hw := upB hw hb
        clear s0 s1 s2 s3 s4 s5
        have hA := hA1.out.ee hw
        obtain ⟨xP, yP, zP, vP⟩ := BP.facts
        obtain ⟨xQ, yQ, zQ, vQ⟩ := BQ.facts
        go_wp2_with fail
        clear xP yP zP vP xQ yQ zQ vQ
        go_roundw
        case rel => exact ⟨3, _, _, 3, by decide, rfl, rfl, by first | rfl | go_num, Lib.hid rfl, Lib.hid (by rw [HF3.out]; simp), Lib.hid (by rw [HL3.out]; simp), hw⟩
        case measure => simp [intOf]
      | false =>
       cases l2 with
       | true =>
        replace BP := BP.ee hw
        replace BQ := BQ.ee hw
        have hA := hA1.out.ee hw
        obtain ⟨xP, yP, zP, vP⟩ := BP.facts
        obtain ⟨xQ, yQ, zQ, vQ⟩ := BQ.facts
        go_wp2_with fail
        clear xP yP zP vP xQ yQ zQ vQ
        obtain ⟨s0, s1, s2, s3, s4, s5⟩ := hA.cells
        obtain ⟨xP, yP, zP, vP⟩ := BP.facts
        obtain ⟨xQ, yQ, zQ, vQ⟩ := BQ.facts
        have gP := BP.cells
        have gQ := BQ.cells
        refine wp_region_tail 11 (by kernel_rfl) (by kernel_rfl) (C := fun w' => ∃ p : Regrown, w' = grow (redrawn wr p.d) p.os) rgB ?_
        simp only [tK1, tK0, dP1, dP0]
        repeat (first | (refine zA0 (Eq.refl false) ?_; simp only [Act.put, sT2, sT1, sT0]) | (refine rWalk_step (fun K hK => ?_); go_simp; first | (refine hK _ ?_; clear hK K) | (apply Exists.intro; refine ⟨fun _ => ?_, hK _ ?_⟩; (first | with_reducible exact toExt cc2 _); clear hK K)))
        refine rWalk_nil ?_
        intro w61 hb
        clear gP gQ
        clear xP yP zP vP xQ yQ zQ vQ
        replace BP := BP.ee hb
        replace BQ := BQ.ee hb
        replace hw := upB hw hb
        clear s0 s1 s2 s3 s4 s5
        have hA := hA1.out.ee hw
        obtain ⟨xP, yP, zP, vP⟩ := BP.facts
        obtain ⟨xQ, yQ, zQ, vQ⟩ := BQ.facts
        go_wp2_with fail
        clear xP yP zP vP xQ yQ zQ vQ
        have gP := BP.cells
        have gQ := BQ.cells
        refine wp_region_tail 11 (by kernel_rfl) (by kernel_rfl) (C := fun w' => ∃ p : Regrown, w' = grow (redrawn w61 p.d) p.os) rgB ?_
        simp only [tK1, tK0, dP1, dP0]
        repeat (first | (refine zA0 (Eq.refl false) ?_; simp only [Act.put, sT2, sT1, sT0]) | (refine rWalk_step (fun K hK => ?_); go_simp; first | (refine hK _ ?_; clear hK K) | (apply Exists.intro; refine ⟨fun _ => ?_, hK _ ?_⟩; (first | fail); clear hK K)))
        refine rWalk_nil ?_
        intro w62 hb
        clear gP gQ
        replace BP := BP.ee hb
        replace BQ := BQ.ee hb
        replace hw := upB hw hb
        have hA := hA1.out.ee hw
        obtain ⟨xP, yP, zP, vP⟩ := BP.facts
        obtain ⟨xQ, yQ, zQ, vQ⟩ := BQ.facts
        go_wp2_with fail
        clear xP yP zP vP xQ yQ zQ vQ
        go_roundw
        case rel => exact ⟨3, _, _, 3, by decide, rfl, rfl, by first | rfl | go_num, Lib.hid rfl, Lib.hid (by rw [HF3.out]; simp), Lib.hid (by rw [HL3.out]; simp), hw⟩
        case measure => simp [intOf]
       | false =>
        replace BP := BP.ee hw
        replace BQ := BQ.ee hw
        have hA := hA1.out.ee hw
        obtain ⟨xP, yP, zP, vP⟩ := BP.facts
        obtain ⟨xQ, yQ, zQ, vQ⟩ := BQ.facts
        go_wp2_with fail
        clear xP yP zP vP xQ yQ zQ vQ
        obtain ⟨s0, s1, s2, s3, s4, s5⟩ := hA.cells
        obtain ⟨xP, yP, zP, vP⟩ := BP.facts
        obtain ⟨xQ, yQ, zQ, vQ⟩ := BQ.facts
        have gP := BP.cells
        have gQ := BQ.cells
        refine wp_region_tail 11 (by kernel_rfl) (by kernel_rfl) (C := fun w' => ∃ p : Regrown, w' = grow (redrawn wr p.d) p.os) rgB ?_
        simp only [tK1, tK0, dP1, dP0]
        repeat (first | (refine zA0 (Eq.refl false) ?_; simp only [Act.put, sT2, sT1, sT0]) | (refine rWalk_step (fun K hK => ?_); go_simp; first | (refine hK _ ?_; clear hK K) | (apply Exists.intro; refine ⟨fun _ => ?_, hK _ ?_⟩; (first | with_reducible exact toExt cc2 _); clear hK K)))
        refine rWalk_nil ?_
        intro w61 hb
        clear gP gQ
        clear xP yP zP vP xQ yQ zQ vQ
        replace BP := BP.ee hb
        replace BQ := BQ.ee hb
        replace hw := upB hw hb
        clear s0 s1 s2 s3 s4 s5
        have hA := hA1.out.ee hw
        obtain ⟨xP, yP, zP, vP⟩ := BP.facts
        obtain ⟨xQ, yQ, zQ, vQ⟩ := BQ.facts
        go_wp2_with fail
        clear xP yP zP vP xQ yQ zQ vQ
        obtain ⟨s0, s1, s2, s3, s4, s5⟩ := hA.cells
        obtain ⟨xP, yP, zP, vP⟩ := BP.facts
        obtain ⟨xQ, yQ, zQ, vQ⟩ := BQ.facts
        have gP := BP.cells
        have gQ := BQ.cells
        refine wp_region_tail 11 (by kernel_rfl) (by kernel_rfl) (C := fun w' => ∃ p : Regrown, w' = grow (redrawn w61 p.d) p.os) rgB ?_
        simp only [tK1, tK0, dP1, dP0]
        repeat (first | (refine zA0 (Eq.refl false) ?_; simp only [Act.put, sT2, sT1, sT0]) | (refine rWalk_step (fun K hK => ?_); go_simp; first | (refine hK _ ?_; clear hK K) | (apply Exists.intro; refine ⟨fun _ => ?_, hK _ ?_⟩; (first | with_reducible exact toExt cc2 _); clear hK K)))
        refine rWalk_nil ?_
        intro w62 hb
        clear gP gQ
        clear xP yP zP vP xQ yQ zQ vQ
        replace BP := BP.ee hb
        replace BQ := BQ.ee hb
        replace hw := upB hw hb
        clear s0 s1 s2 s3 s4 s5
        have hA := hA1.out.ee hw
        obtain ⟨xP, yP, zP, vP⟩ := BP.facts
        obtain ⟨xQ, yQ, zQ, vQ⟩ := BQ.facts
        go_wp2_with fail
        clear xP yP zP vP xQ yQ zQ vQ
        go_roundw
        case rel => exact ⟨3, _, _, 3, by decide, rfl, rfl, by first | rfl | go_num, Lib.hid rfl, Lib.hid (by rw [HF3.out]; simp), Lib.hid (by rw [HL3.out]; simp), hw⟩
        case measure => simp [intOf]
     ·have hJ : J = 3 := by simpa using hJ.out
      subst hJ
      go_wp2_with fail
      go_roundw
      case rel => exact ⟨k + 1, f2, l2, hkm, rfl, rfl, by go_num, Lib.hid (by rw [HN.out, List.any_append, ← HF.out, HF2.out, zHy]; simp), Lib.hid (by rw [HN.out, List.any_append, ← HL.out, HL2.out, zHy]; simp), hw⟩
      case measure => exact (by rw [hk1]; exact meas_dec hkm : m - (intOf (.int .i64 (wrap64 ((k : Int) + 1)))).toNat < m - (intOf (.int .i64 (k : Int))).toNat)
def csum (L : List Tri3) : List Pt → Nat
 | [] => 0
 | p :: M => (L.filter (isCb p)).length + csum L M
theorem zDu (L : List Tri3) : ∀ A B : List Pt, csum L (A ++ B) = csum L A + csum L B
 | [], B => by simp [csum]
 | p :: A, B => by rw [List.cons_append, csum, csum, zDu L A B]; omega
theorem csum_take (L : List Tri3) (M : List Pt) (k : Nat) (h : k < M.length) : csum L (M.take (k + 1)) = csum L (M.take k) + (L.filter (isCb M[k])).length := by
 rw [List.take_succ_eq_append_getElem h, zDu]; simp [csum]
theorem zJ6 : ∀ M : List Pt, csum [] M = 0
 | [] => rfl
 | p :: M => by rw [csum, zJ6 M]; rfl
theorem zHw (T : Tri3) (L : List Tri3) : ∀ M : List Pt, csum (T :: L) M = (M.filter fun p => isCb p T).length + csum L M
 | [] => rfl
 | p :: M => by
  rw [csum, csum, zHw T L M, List.filter_cons, List.filter_cons]
  cases isCb p T <;> simp <;> omega
theorem csum_three {M : List Pt} (hn : M.Nodup) {T : Tri3} (h1 : T.A ≠ T.B) (h2 : T.B ≠ T.C) (h3 : T.C ≠ T.A) (ha : T.A ∈ M) (hb : T.B ∈ M) (hc : T.C ∈ M) : (M.filter fun p => isCb p T).length = 3 := by
 have h : (M.filter fun p => isCb p T).Perm [T.A, T.B, T.C] := by
  refine (List.perm_ext_iff_of_nodup (hn.sublist List.filter_sublist) (by simp [h1, h2, h3.symm])).2 fun x => ?_
  rw [List.mem_filter]
  unfold isCb
  simp only [Bool.or_eq_true, decide_eq_true_eq, List.mem_cons, List.not_mem_nil, or_false]
  exact ⟨fun h => h.2, fun h => ⟨by rcases h with rfl | rfl | rfl <;> assumption, h⟩⟩
 exact h.length_eq
theorem zJ7 {M : List Pt} (hn : M.Nodup) : ∀ (L : List Tri3), (∀ T ∈ L, T.A ≠ T.B ∧ T.B ≠ T.C ∧ T.C ≠ T.A) → (∀ T ∈ L, T.A ∈ M ∧ T.B ∈ M ∧ T.C ∈ M) → csum L M = 3 * L.length
 | [], _, _ => by rw [zJ6]; rfl
 | T :: L, h1, h2 => by
  obtain ⟨a1, a2, a3⟩ := h1 T (by simp)
  obtain ⟨b1, b2, b3⟩ := h2 T (by simp)
  rw [zHw, csum_three hn a1 a2 a3 b1 b2 b3, zJ7 hn L (fun S h => h1 S (by simp [h])) (fun S h => h2 S (by simp [h]))]
  simp; omega
theorem zE8 {m k : Nat} (h : k < m) : m - (intOf (.int .i64 ((k : Int) + 1))).toNat < m - (intOf (.int .i64 (k : Int))).toNat := by simp [intOf]; omega
theorem zIa {k : Nat} (h : k ≤ 2000000) : wrap64 ((k : Int) + 1) = (k : Int) + 1 := by rw [w64]; omega
theorem w64_add2 {u z : Nat} (h : u + z ≤ 2000000) : wrap64 ((u : Int) + (z : Int)) = (u : Int) + (z : Int) := by rw [w64]; omega
theorem w64_three {l : Nat} (h : l ≤ 2000000) : wrap64 (3 * (l : Int)) = 3 * (l : Int) := by rw [w64]; omega
theorem rising_nodup {M : List Pt} (h : Rising cmpP M) : M.Nodup := h.imp fun {a b} hab e => by
 subst e
 have h0 := wholeP.eq0.2 (rfl : a = a)
 omega
theorem cpoints_any (cb mb b db : Nat) (v : Value) (W H : Int) (E : Es) (D : List Wl) (hE : E.length ≤ 100000) (w : World) (S : CdtAt w cb mb b db v W H E D) :
    Calls Tryz.prog 24 #[.pointer (some ⟨cb, 0, none⟩)] w fun e w' => ∃ (M : List Pt) (a : Option Addr) (cap : Nat), e = .returned (.slice a M.length cap) ∧ RowAt cP 2 w' a M ∧ Rising cmpP M ∧ (∀ p, p ∈ M ↔ p ∈ cnrs (srt cmpT (heads (fun _ => true) E))) ∧ Below w.heap.size w w' := by
 have ht := fun W B H => zH5 mb b E (by omega) W B H
 have hl := Lib.hid (show (srt cmpT (heads (fun _ => true) E)).length ≤ 100000 from by rw [(zAd _).length_eq]; exact Nat.le_trans (zBe _ _) hE)
 generalize srt cmpT (heads (fun _ => true) E) = I at *
 obtain ⟨m, hm⟩ : ∃ m, I.length = m := ⟨_, rfl⟩
 have HI := Lib.hid hm
 rw [hm] at ht
 clear hm hE
 have BC := S.box
 have BM := S.mesh
 have HM := Lib.hid S.map
 clear S
 have Fc := BC.facts
 go_enter Tryz.func24, Tryz.ntmps24
 go_wp2_with fail
 refine (ht _ BM HM.out).mono ?_
 rintro e w1 ⟨a1, c1, rfl, hr1, hb1⟩
 go_wp2_with fail
 refine (rcorners_any a1 c1 m I HI (by have := hl.out; have := HI.out; omega) _ hr1).mono ?_
 rintro e w2 ⟨M, a2, c2, rfl, hr2, hR, hM, hb2⟩
 have hP := Lib.hid hM
 clear hM
 go_wp2
 refine bodyPost_ret (v := .slice a2 M.length c2) (by simp [results, Tryz.results24, go_sem]) rfl ?_
 exact ⟨M, a2, c2, rfl, hr2, hR, hP.out, (upB hb1 hb2)⟩
theorem ws_no (s : Int) (a0 : Option Addr) (n c0 : Nat) (hf : (decide (1 ≤ s) && (decide (s ≤ 40) && (decide (n ≤ 25) && decide (0 ≤ 12)))) = false) (w : World) :
    Calls Tryz.prog 5 #[.int .i64 s, .slice a0 n c0] w fun e w' => e = .returned (.bool true) ∧ Below w.heap.size w w' := by
 have cf := zD5 s a0 none n 0 c0 0
 simp only [hf] at cf
 clear hf
 go_enter Tryz.func5, Tryz.ntmps5
 go_wp2_with fail
 refine (cf _).mono ?_
 rintro e w1 ⟨rfl, hb1⟩
 clear cf
 go_wp2_with fail
 refine (zBk _).mono ?_
 rintro e w2 ⟨rfl, hb2⟩
 go_wp2
 go_ret
 exact ⟨rfl, (upB hb1 hb2)⟩
theorem ws_yes (s : Int) (hs : 0 < s) (hs2 : s ≤ 40) (a0 : Option Addr) (n c0 : Nat) (hn : n ≤ 25) (P : List Int) (hP : Hid (P.length = n)) (w : World) (h0 : RowAt cI 1 w a0 P) :
    Calls Tryz.prog 5 #[.int .i64 s, .slice a0 n c0] w fun e w' => e = .returned (.bool true) ∧ Below w.heap.size w w' := by
 have cf := zD5 s a0 none n 0 c0 0
 have hf : (decide (1 ≤ s) && (decide (s ≤ 40) && (decide (n ≤ 25) && decide (0 ≤ 12)))) = true := by simp; omega
 simp only [hf] at cf
 have HN := Lib.hid hn
 have HS := Lib.hid hs
 have HS2 := Lib.hid hs2
 clear hf hn hs hs2
 go_enter Tryz.func5, Tryz.ntmps5
 go_wp2_with fail
 refine (cf _).mono ?_
 rintro e w1 ⟨rfl, hb1⟩
 clear cf
 go_wp2_with fail
 refine (zDl s HS.out (by have := HS2.out; omega) a0 n c0 0 P hP (by have := HN.out; omega) _ (h0.ee hb1)).mono ?_
 rintro e w2 ⟨m2, b2, cb, mb, b, db, v, E, E0, L, D, rfl, B2, H2, G2, S, hI, hC, hl, _, hb, _, _, _, _, _, _⟩
 have hb0 := Lib.hid ((upB hb1 hb))
 have ht : Tiles s s L := hI.fix.tiles
 have hlL : L.length ≤ 100 := by have := HN.out; have := hP.out; omega
 have hE : E.length ≤ 1000000 := by rw [G2.len]; omega
 have hE0 : E0.length ≤ 100000 := by rw [hI.good.len]; omega
 have hE3 := Lib.hid G2.len
 have hok : ∀ p T, T ∈ starW E p → okT T := fun p T h => zBz (G2.val T ((zB9 G2).1 h).1)
 have hLp : (srt cmpT (heads (fun _ => true) E0)).Perm L := (zAd _).trans hI.good.heads
 have cpt := cpoints_any cb mb b db v s s E0 D hE0
 go_wp2_with fail
 refine (cpt _ S).mono ?_
 rintro e w3 ⟨M, a3, c3, rfl, hr3, hR, hM, hb3⟩
 have hMc : ∀ p, p ∈ M ↔ someC L p := fun p => by
  rw [hM p]
  unfold cnrs someC
  rw [List.mem_flatMap]
  constructor
  ·rintro ⟨T, hT, h⟩
   exact ⟨T, hLp.mem_iff.1 hT, by unfold isCnr; simpa using h⟩
  ·rintro ⟨T, hT, h⟩
   exact ⟨T, hLp.mem_iff.2 hT, by unfold isCnr at h; simpa using h⟩
 have hsum := Lib.hid (zJ7 (rising_nodup hR) L (fun T hT => zDb (G2.val T hT)) (fun T hT => ⟨(hMc _).2 ⟨T, hT, .inl rfl⟩, (hMc _).2 ⟨T, hT, .inr (.inl rfl)⟩, (hMc _).2 ⟨T, hT, .inr (.inr rfl)⟩⟩))
 have hml : M.length ≤ 1000 := by
  have h1 : csum L M = 3 * L.length := hsum.out
  have h2 : ∀ M : List Pt, (∀ p ∈ M, someC L p) → M.length ≤ csum L M := fun M => by
   induction M with
   | nil => intro _; exact Nat.le_refl _
   | cons p M ih =>
    intro h
    have k := ih (fun q hq => h q (by simp [hq]))
    obtain ⟨T, hT, hc⟩ := h p (by simp)
    have : 0 < (L.filter (isCb p)).length := List.length_pos_of_mem (List.mem_filter.2 ⟨hT, zC1.2 hc⟩)
    simp only [List.length_cons, csum]; omega
  have := h2 M (fun p hp => (hMc p).1 hp)
  omega
 have hstar := Lib.hid (show ∀ p, (starW E p).length = (L.filter (isCb p)).length from fun p => by unfold starW; rw [(zAd _).length_eq, (zAy G2 _).length_eq])
 have hmem := Lib.hid (show ∀ p T, T ∈ starW E p → isCb p T = true from fun p T h => ((zB9 G2).1 h).2)
 have hclo := Lib.hid (show ∀ p ∈ M, closedW E p = !(rimB s p) from fun p hp => by
  have h := zDj G2 ht ((hMc p).1 hp)
  rw [← zFi] at h
  cases e1 : closedW E p <;> cases e2 : rimB s p <;> simp [e1, e2] at h ⊢)
 have hcs := Lib.hid (show ∀ k (h : k < M.length), csum L (M.take (k + 1)) = csum L (M.take k) + (starW E M[k]).length from fun k h => by rw [csum_take L M k h, hstar.out])
 have hcl := Lib.hid (show ∀ k, csum L (M.take k) ≤ 1000 from fun k => by
  have h1 : csum L M = 3 * L.length := hsum.out
  have h2 := zDu L (M.take k) (M.drop k)
  rw [List.take_append_drop] at h2
  omega)
 have hbM := (hb3 : Below _ _ _)
 have hM2 := Lib.hid (H2.ee hb3)
 have BN := B2.ee hb3
 have hr3' := Lib.hid hr3
 obtain ⟨m, hm⟩ : ∃ m, M.length = m := ⟨_, rfl⟩
 rw [hm]
 have hmH := Lib.hid hm
 have hm2 : m ≤ 1000 := hm ▸ hml
 have hb03 := Lib.hid (hb0.out.trans (hb3.mono hb0.out.size))
 have hlL2 := Lib.hid hlL
 clear hm hml hr3 hb3 hbM hM hR hMc hLp cpt S hI hC hl hb hb1 B2 H2 ht hE0 h0 hb0 G2 hlL
 go_wp2_with fail
 go_loopw [8, 9] (fun vn vi wr => ∃ k : Nat, k ≤ m ∧ vn = .int .i64 (csum L (M.take k)) ∧ vi = .int .i64 k ∧ Below w3.heap.size w3 wr) (fun _ vi _ => m - (intOf vi).toNat)
 case atStart => exact ⟨0, Nat.zero_le _, by simp [csum], rfl, Below.refl _ _⟩
 case round =>
  obtain ⟨k, hk, rfl, rfl, hw⟩ := hrel
  by_cases hlt : k < m
  case neg =>
   obtain rfl : k = m := by omega
   have hL3 := Lib.hid (show csum L (M.take k) = 3 * L.length from by rw [List.take_of_length_le (by rw [hmH.out]; omega)]; exact hsum.out)
   have cl := fun W B H => zIm m2 b2 E L.length hE3 (by have := hlL2.out; omega) W B H
   obtain ⟨lL, hlLL⟩ : ∃ l, L.length = l := ⟨_, rfl⟩
   rw [hlLL] at cl
   rw [hL3.out, hlLL]
   have e1 : wrap64 (3 * (lL : Int)) = 3 * (lL : Int) := w64_three (hlLL ▸ Nat.le_trans hlL2.out (by decide))
   have e2 : (((3 * lL : Nat) : Int) == 3 * (lL : Int)) = true := by simp
   clear hcs hcl hclo hstar hmem hsum hL3 hlLL hok
   go_wp2_with fail
   refine (cl _ (BN.ee hw) (hM2.out.ee hw)).mono ?_
   rintro e w5 ⟨rfl, hb5⟩
   have hw5 := (upB hw hb5)
   go_wp2_with fail
   refine (zBk _).mono ?_
   rintro e w6 ⟨rfl, hb6⟩
   have hw6 := (upB hw5 hb6)
   go_wp2
   go_ret
   exact ⟨rfl, hb03.out.trans (hw6.mono hb03.out.size)⟩
  case pos =>
   have hlk : k < M.length := hmH.out ▸ hlt
   obtain ⟨ad, A, ea, eA, hA0⟩ := hr3'.out.two hlk
   subst ea
   have hA := hA0.ee hw
   clear hA0
   have h1 := hcs.out k hlk
   have h2 := hcl.out (k + 1)
   have h3 := hclo.out _ (List.getElem_mem hlk)
   have h4 := hmem.out M[k]
   generalize M[k] = p at *
   have c2 := fun W B H => zE3 m2 b2 E p hE W B H
   have c3 := fun W B H => zDk m2 b2 E p hE (hok p) W B H
   have hokp := Lib.hid (hok p)
   rw [h3] at c3
   unfold starW at h1 h4 hokp
   generalize srt cmpT (heads (isCb p) E) = l at *
   obtain ⟨z, hz⟩ : ∃ z, l.length = z := ⟨_, rfl⟩
   rw [hz] at c2 h1
   have HZ := Lib.hid hz
   have H4 := Lib.hid h4
   obtain ⟨u, hu⟩ : ∃ u, csum L (M.take k) = u := ⟨_, rfl⟩
   rw [hu] at h1 ⊢
   have e1 : wrap64 ((u : Int) + (z : Int)) = (u : Int) + (z : Int) := w64_add2 (Nat.le_trans (h1 ▸ h2) (by decide))
   have hk1 : wrap64 ((k : Int) + 1) = (k : Int) + 1 := zIa (Nat.le_trans (Nat.le_of_lt hlt) (Nat.le_trans hm2 (by decide)))
   have hz1 : z ≤ 1000 := Nat.le_trans (Nat.le_add_left z u) (h1 ▸ h2)
   have q1 : (k : Int) < (m : Int) := Int.ofNat_lt.2 hlt
   have q2 : (0 : Int) ≤ (k : Int) := Int.natCast_nonneg k
   have H1 := Lib.hid h1
   clear hz h1 h2 h3 h4 hu hok hcs hcl hclo hmem hstar hsum hr3'
   obtain ⟨xa, ya, za⟩ := hA.facts
   go_wp2_with fail
   refine (c2 _ (BN.ee hw) (hM2.out.ee hw)).mono ?_
   rintro e w4 ⟨a4, c4, rfl, hr4, hb4⟩
   replace hA := hA.ee hb4
   replace hw := upB hw hb4
   clear hb4 xa ya za c2
   have hw4 := hw
   go_wp2_with fail
   rw [e1]
   clear e1
   go_loopw [11] (fun vj wi => ∃ j : Nat, j ≤ z ∧ vj = .int .i64 j ∧ Below w4.heap.size w4 wi) (fun vj _ => z - (intOf vj).toNat)
   case atStart => exact ⟨0, Nat.zero_le _, rfl, Below.refl _ _⟩
   case round =>
    obtain ⟨j, hj, rfl, hwi⟩ := hrel
    have hA9 := hA.ee hwi
    by_cases hjz : j < z
    case pos =>
     have hjl : j < l.length := HZ.out ▸ hjz
     obtain ⟨ad4, B, eb, eB, hB0⟩ := hr4.six hjl
     have hB := hB0.ee hwi
     have hc := H4.out _ (List.getElem_mem hjl)
     generalize l[j] = T at *
     have hc' : peqI T.A.x T.A.y p.x p.y = true ∨ (peqI T.A.x T.A.y p.x p.y = false ∧ peqI T.B.x T.B.y p.x p.y = true) ∨ (peqI T.A.x T.A.y p.x p.y = false ∧ peqI T.B.x T.B.y p.x p.y = false ∧ peqI T.C.x T.C.y p.x p.y = true) := by
      have e : ∀ a : Pt, peqI a.x a.y p.x p.y = decide (p = a) := fun a => by rw [Bool.eq_iff_iff, zBi, decide_eq_true_eq]; exact ⟨Eq.symm, Eq.symm⟩
      rw [e, e, e]
      unfold isCb at hc
      cases h1 : decide (p = T.A) <;> cases h2 : decide (p = T.B) <;> cases h3 : decide (p = T.C) <;> simp [h1, h2, h3] at hc ⊢
     subst eb
     have q3 : (j : Int) < (z : Int) := Int.ofNat_lt.2 hjz
     have q4 : (0 : Int) ≤ (j : Int) := Int.natCast_nonneg j
     have hj1 : wrap64 ((j : Int) + 1) = (j : Int) + 1 := zIa (Nat.le_trans (Nat.le_of_lt hjz) (Nat.le_trans hz1 (by decide)))
     clear hc hB0
     go_wp2_with fail
     obtain ⟨s0, s1, s2, s3, s4, s5⟩ := hB.cells
     obtain ⟨t0, t1⟩ := hA9.cells
     rcases hc' with p1 | ⟨p1, p2⟩ | ⟨p1, p2, p3⟩
     all_goals
      as_aux_lemma =>
       refine wp_region_tail 33 (by kernel_rfl) (by kernel_rfl) (C := fun w' => ∃ p : Regrown, w' = grow (redrawn wr p.d) p.os) rgB ?_
       simp only [tK1, tK0, dP1, dP0]
       repeat (first | (refine zA0 (Eq.refl false) ?_; simp only [Act.put, sT2, sT1, sT0]) | (refine rWalk_step (fun K hK => ?_); go_simp; first | (refine hK _ ?_; clear hK K) | (apply Exists.intro; refine ⟨fun _ => ?_, hK _ ?_⟩; (first | fail); clear hK K)))
       refine rWalk_nil ?_
       intro wq hbr
       go_wp2_with fail
       go_roundw
       case rel => first | exact ⟨j + 1, hjz, by first | rfl | (rw [hj1]; rfl), (upB hwi hbr)⟩ | ((repeat apply Exists.intro); refine ⟨⟨j + 1, hjz, ?_, (upB hwi hbr)⟩, rfl⟩; first | rfl | (rw [hj1]; rfl) | go_num)
       case measure => first | exact zE8 hjz | exact (by rw [hj1]; exact zE8 hjz : z - (intOf (.int .i64 (wrap64 ((j : Int) + 1)))).toNat < z - (intOf (.int .i64 (j : Int))).toNat)
    case neg =>
     have hjz2 : j = z := Nat.le_antisymm hj (Nat.not_lt.1 hjz)
     subst hjz2
     have hww := (upB hw hwi)
     have BN9 := BN.ee hww
     have HM9 := hM2.out.ee hww
     clear hj hjz
     obtain ⟨xa, ya, za⟩ := hA9.facts
     go_upto_region 18 with fail
     go_cut [12] from 28 to 123 (fun s12 wx => s12 = .bool (rimB s p) ∧ wr = wx)
     case first =>
      cases e1 : (p.x == 0) <;> cases e2 : (p.y == 0) <;> cases e3 : (p.x == s) <;> cases e4 : (p.y == s)
      all_goals
       as_aux_lemma =>
        go_wp2_with fail
        go_meet
        exact ⟨by simp [rimB, e1, e2, e3, e4], rfl⟩
     case rest =>
      obtain ⟨hu12, rfl⟩ := hcut
      subst hu12
      generalize rimB s p = R at *
      cases R
      all_goals
       as_aux_lemma =>
        go_wp2_with fail
        refine (c3 _ BN9 HM9).mono ?_
        rintro e w5 ⟨rfl, hb5⟩
        clear xa ya za
        go_wp2_with fail
        go_roundw
        case rel => first | exact ⟨k + 1, hlt, by rw [H1.out, Int.natCast_add], by first | rfl | (rw [hk1]; rfl), (upB hww hb5)⟩ | ((repeat apply Exists.intro); refine ⟨⟨k + 1, hlt, by rw [H1.out, Int.natCast_add], ?_, (upB hww hb5)⟩, rfl⟩; first | rfl | (rw [hk1]; rfl) | go_num)
        case measure => first | exact zE8 hlt | exact (by rw [hk1]; exact zE8 hlt : m - (intOf (.int .i64 (wrap64 ((k : Int) + 1)))).toNat < m - (intOf (.int .i64 (k : Int))).toNat)
end Go.Proofs.YtmobnmjjmafibaaGreat
