/- Put together: ExQ, ExV, ExW, TrP. -/
import Derived.Test.YtaegobkkcgheeaaPut10
import Derived.Test.YtaegobkkcgheeaaRows
import Derived.Test.YtaegobkkcgheeaaPut9
import Derived.Test.YtaegobkkcgheeaaPut1
import Derived.WalkKit
import Derived.WalkSpells
import Derived.WalkLawsBesides
import Derived.Laws.Externs
import Derived.Deep.QuietTactic
import Derived.BigQuiet
import Derived.Lib.Hide
import Derived.Handy
import Derived.ProofKit
import Derived.Lib.SmallJoins
import Derived.Deep.Strs
namespace Go.Proofs.Ytaegobkkcgheeaa
open Go.RowKit

theorem peqI_of {p q : Pt} (b : Bool) (h : peqI p.x p.y q.x q.y = b) : (b = true ∧ p = q) ∨ (b = false ∧ p ≠ q) := by
  cases b with
  | true => exact .inl ⟨rfl, peqI_eq.1 h⟩
  | false => exact .inr ⟨rfl, peqI_ne.1 h⟩
/-- Four points, two segments. -/
structure Seg2 (a b c d : Pt) : Prop where
  va : vld a = true
  vb : vld b = true
  vc : vld c = true
  vd : vld d = true
  nab : a ≠ b
  ncd : c ≠ d
theorem meetS_none {a b c d : Pt} (h : ¬ Seg2 a b c d) : meetS a b c d = 0 := by
  unfold meetS
  cases va : vld a with
  | false => rfl
  | true => cases vb : vld b with
    | false => rfl
    | true => cases vc : vld c with
      | false => rfl
      | true => cases vd : vld d with
        | false => rfl
        | true =>
          by_cases e1 : a = b
          · rw [if_neg (by simp), if_neg (by simp), if_neg (by simp), if_neg (by simp), if_pos (pp e1)]
          · by_cases e2 : c = d
            · rw [if_neg (by simp), if_neg (by simp), if_neg (by simp), if_neg (by simp), if_neg (np e1), if_pos (pp e2)]
            · exact absurd ⟨va, vb, vc, vd, e1, e2⟩ h
theorem meetR_none {a b c d : Pt} (h : ¬ Seg2 a b c d) : meetR a b c d = 0 := by
  unfold meetR
  cases va : vld a with
  | false => rfl
  | true => cases vb : vld b with
    | false => rfl
    | true => cases vc : vld c with
      | false => rfl
      | true => cases vd : vld d with
        | false => rfl
        | true =>
          by_cases e1 : a = b
          · rw [if_neg (by simp), if_neg (by simp), if_neg (by simp), if_neg (by simp), if_pos (pp e1)]
          · by_cases e2 : c = d
            · rw [if_neg (by simp), if_neg (by simp), if_neg (by simp), if_neg (by simp), if_neg (np e1), if_pos (pp e2)]
            · exact absurd ⟨va, vb, vc, vd, e1, e2⟩ h
section
variable {a b c d : Pt} (s : Seg2 a b c d)
include s
theorem meetS_line (h : det a b c = 0 ∧ det a b d = 0) : meetS a b c d = mil a b c d := by
  unfold meetS
  rw [if_neg (by rw [s.va]; simp), if_neg (by rw [s.vb]; simp), if_neg (by rw [s.vc]; simp), if_neg (by rw [s.vd]; simp), if_neg (np s.nab), if_neg (np s.ncd),
    if_pos ⟨by rw [ori_v s.va s.vb s.vc, h.1]; rfl, by rw [ori_v s.va s.vb s.vd, h.2]; rfl⟩]
theorem not_line (h : ¬ (det a b c = 0 ∧ det a b d = 0)) : ¬ (ori a b c = 0 ∧ ori a b d = 0) := fun k => h ⟨by rw [← sgn_zero, ← ori_v s.va s.vb s.vc]; exact k.1, by rw [← sgn_zero, ← ori_v s.va s.vb s.vd]; exact k.2⟩
theorem meetS_end (h : ¬ (det a b c = 0 ∧ det a b d = 0)) (e : a = c ∨ a = d ∨ b = c ∨ b = d) : meetS a b c d = 0 := by
  unfold meetS
  rw [if_neg (by rw [s.va]; simp), if_neg (by rw [s.vb]; simp), if_neg (by rw [s.vc]; simp), if_neg (by rw [s.vd]; simp), if_neg (np s.nab), if_neg (np s.ncd), if_neg (not_line s h)]
  by_cases e1 : a = c
  · rw [if_pos (pp e1)]
  rw [if_neg (np e1)]
  by_cases e2 : a = d
  · rw [if_pos (pp e2)]
  rw [if_neg (np e2)]
  by_cases e3 : b = c
  · rw [if_pos (pp e3)]
  rw [if_neg (np e3)]
  by_cases e4 : b = d
  · rw [if_pos (pp e4)]
  rcases e with e | e | e | e
  · exact absurd e e1
  · exact absurd e e2
  · exact absurd e e3
  · exact absurd e e4
theorem meetS_fin (h : ¬ (det a b c = 0 ∧ det a b d = 0)) (e : ¬ (a = c ∨ a = d ∨ b = c ∨ b = d)) : meetS a b c d = fin (sgn (det c d a)) (sgn (det c d b)) (sgn (det a b c)) (sgn (det a b d)) := by
  unfold meetS
  rw [if_neg (by rw [s.va]; simp), if_neg (by rw [s.vb]; simp), if_neg (by rw [s.vc]; simp), if_neg (by rw [s.vd]; simp), if_neg (np s.nab), if_neg (np s.ncd), if_neg (not_line s h),
    if_neg (np (fun k => e (.inl k))), if_neg (np (fun k => e (.inr (.inl k)))), if_neg (np (fun k => e (.inr (.inr (.inl k))))), if_neg (np (fun k => e (.inr (.inr (.inr k))))),
    ori_v s.va s.vb s.vc, ori_v s.va s.vb s.vd, ori_v s.vc s.vd s.va, ori_v s.vc s.vd s.vb]
theorem meetR_line (h : det a b c = 0 ∧ det a b d = 0) : meetR a b c d = lap a b c d := by
  unfold meetR
  rw [if_neg (by rw [s.va]; simp), if_neg (by rw [s.vb]; simp), if_neg (by rw [s.vc]; simp), if_neg (by rw [s.vd]; simp), if_neg (np s.nab), if_neg (np s.ncd),
    if_pos ⟨by rw [ori_v s.va s.vb s.vc, h.1]; rfl, by rw [ori_v s.va s.vb s.vd, h.2]; rfl⟩]
theorem meetR_main (h : ¬ (det a b c = 0 ∧ det a b d = 0)) : meetR a b c d = if sgn (det a b c) * sgn (det a b d) < 0 ∧ sgn (det c d a) * sgn (det c d b) < 0 then 1 else mx4 (tch a c d) (tch b c d) (tch c a b) (tch d a b) := by
  unfold meetR
  rw [if_neg (by rw [s.va]; simp), if_neg (by rw [s.vb]; simp), if_neg (by rw [s.vc]; simp), if_neg (by rw [s.vd]; simp), if_neg (np s.nab), if_neg (np s.ncd), if_neg (not_line s h),
    ori_v s.va s.vb s.vc, ori_v s.va s.vb s.vd, ori_v s.vc s.vd s.va, ori_v s.vc s.vd s.vb]
/-- All that is known of the four sides and the four places. -/
theorem key_n : key a ≠ key b := fun h => s.nab (key_inj s.va s.vb h)
theorem key_n2 : key c ≠ key d := fun h => s.ncd (key_inj s.vc s.vd h)
end
theorem lo2_key {p q : Pt} (hp : vld p = true) (hq : vld q = true) : vld (lo2 p q) = true ∧ key (lo2 p q) = min (key p) (key q) := by
  unfold lo2; rw [cmpP_key hq hp]
  have := sgn_cases (key q - key p)
  split
  · exact ⟨hq, by omega⟩
  · exact ⟨hp, by omega⟩
theorem hi2_key {p q : Pt} (hp : vld p = true) (hq : vld q = true) : vld (hi2 p q) = true ∧ key (hi2 p q) = max (key p) (key q) := by
  unfold hi2; rw [cmpP_key hq hp]
  have := sgn_cases (key q - key p)
  split
  · exact ⟨hp, by omega⟩
  · exact ⟨hq, by omega⟩
theorem rl_key {p q : Pt} (hp : vld p = true) (hq : vld q = true) : vld (rl p q) = true ∧ key (rl p q) = min (key p) (key q) := by
  unfold rl; rw [cmpP_key hp hq]
  have := sgn_cases (key p - key q)
  split
  · exact ⟨hp, by omega⟩
  · exact ⟨hq, by omega⟩
theorem rg_key {p q : Pt} (hp : vld p = true) (hq : vld q = true) : vld (rg p q) = true ∧ key (rg p q) = max (key p) (key q) := by
  unfold rg; rw [cmpP_key hp hq]
  have := sgn_cases (key p - key q)
  split
  · exact ⟨hq, by omega⟩
  · exact ⟨hp, by omega⟩
theorem cmp_lt {p q : Pt} (hp : vld p = true) (hq : vld q = true) : cmpP p q < 0 ↔ key p < key q := by
  rw [cmpP_key hp hq]; have := sgn_cases (key p - key q); omega
theorem mil_key {a b c d : Pt} (s : Seg2 a b c d) : mil a b c d = if min (key a) (key b) < max (key c) (key d) ∧ min (key c) (key d) < max (key a) (key b) then 3 else 0 := by
  obtain ⟨u1, u2⟩ := lo2_key s.va s.vb
  obtain ⟨u3, u4⟩ := hi2_key s.va s.vb
  obtain ⟨u5, u6⟩ := lo2_key s.vc s.vd
  obtain ⟨u7, u8⟩ := hi2_key s.vc s.vd
  unfold mil
  simp only [cmp_lt u1 u7, cmp_lt u5 u3, u2, u4, u6, u8]
  (repeat' split) <;> omega
theorem lap_key {a b c d : Pt} (s : Seg2 a b c d) : lap a b c d = if min (key a) (key b) < max (key c) (key d) ∧ min (key c) (key d) < max (key a) (key b) then 3 else 0 := by
  obtain ⟨u1, u2⟩ := rl_key s.va s.vb
  obtain ⟨u3, u4⟩ := rg_key s.va s.vb
  obtain ⟨u5, u6⟩ := rl_key s.vc s.vd
  obtain ⟨u7, u8⟩ := rg_key s.vc s.vd
  obtain ⟨t1, t2⟩ := rg_key u1 u5
  obtain ⟨t3, t4⟩ := rl_key u3 u7
  have n1 := key_n s
  have n2 := key_n2 s
  unfold lap
  simp only [cmp_lt t1 t3, t2, t4, u2, u4, u6, u8]
  (repeat' split) <;> omega
theorem fin_0 {sA sB sC sD : Int} (h : sA = sB ∨ sC = sD) : fin sA sB sC sD = 0 := by unfold fin; (repeat' split) <;> omega
theorem fin_2 {sA sB sC sD : Int} (h1 : sA ≠ sB) (h2 : sC ≠ sD) (h : sA = 0 ∨ sB = 0 ∨ sC = 0 ∨ sD = 0) : fin sA sB sC sD = 2 := by unfold fin; (repeat' split) <;> omega
theorem fin_1 {sA sB sC sD : Int} (h1 : sA ≠ sB) (h2 : sC ≠ sD) (h : ¬ (sA = 0 ∨ sB = 0 ∨ sC = 0 ∨ sD = 0)) : fin sA sB sC sD = 1 := by unfold fin; (repeat' split) <;> omega
/-- One end on the other's line: the other segment's sides, and the end's place. -/
theorem side_k {E A B kc D : Int} (hE : 0 < E) (hD : D ≠ 0) (h1 : E * A = kc * D) (h2 : E * B = (kc - E) * D) :
    (kc = 0 ∧ A = 0 ∧ B ≠ 0) ∨ (kc = E ∧ B = 0 ∧ A ≠ 0) ∨ ((kc < 0 ∨ E < kc) ∧ A ≠ 0 ∧ B ≠ 0 ∧ sgn A = sgn B) ∨ (0 < kc ∧ kc < E ∧ A ≠ 0 ∧ B ≠ 0 ∧ sgn A ≠ sgn B) := by
  have s1 := sgn_scale hE h1
  have s2 := sgn_scale hE h2
  have c1 := sgn_cases kc
  have c2 := sgn_cases (kc - E)
  have c3 := sgn_cases D
  have c4 := sgn_cases A
  have c5 := sgn_cases B
  rcases c1 with ⟨e1, t1⟩ | ⟨e1, t1⟩ | ⟨e1, t1⟩ <;> rcases c2 with ⟨e2, t2⟩ | ⟨e2, t2⟩ | ⟨e2, t2⟩ <;> rw [e1] at s1 <;> rw [e2] at s2 <;> omega
theorem s0 : sgn 0 = 0 := rfl
theorem kk_same (a b : Pt) : kk a b a = 0 := by unfold kk; simp
theorem kk_far (a b : Pt) : kk a b b = EE a b := rfl
theorem det_1 (a b : Pt) : det a b a = 0 := by unfold det; grind
theorem det_2 (a b : Pt) : det a b b = 0 := by unfold det; grind
theorem meet_eq (a b c d : Pt) : meetS a b c d = meetR a b c d := by
  by_cases s : Seg2 a b c d
  case neg => rw [meetS_none s, meetR_none s]
  case pos =>
  by_cases hl : det a b c = 0 ∧ det a b d = 0
  · rw [meetS_line s hl, meetR_line s hl, mil_key s, lap_key s]
  rw [meetR_main s hl, tch_k s.va s.vc s.vd s.ncd, tch_k s.vb s.vc s.vd s.ncd, tch_k s.vc s.va s.vb s.nab, tch_k s.vd s.va s.vb s.nab]
  have hE := EE_pos s.nab
  have hF := EE_pos s.ncd
  have i1 := I1 a b c d
  have i2 := I2 a b c d
  have i3 := I1 c d a b
  have i4 := I2 c d a b
  -- ends in common
  have e1 : a = c → det c d a = 0 ∧ det a b c = 0 ∧ kk c d a = 0 ∧ kk a b c = 0 := by rintro rfl; exact ⟨det_1 _ _, det_1 _ _, kk_same _ _, kk_same _ _⟩
  have e2 : a = d → det c d a = 0 ∧ det a b d = 0 ∧ kk c d a = EE c d ∧ kk a b d = 0 := by rintro rfl; exact ⟨det_2 _ _, det_1 _ _, kk_far _ _, kk_same _ _⟩
  have e3 : b = c → det c d b = 0 ∧ det a b c = 0 ∧ kk c d b = 0 ∧ kk a b c = EE a b := by rintro rfl; exact ⟨det_1 _ _, det_2 _ _, kk_same _ _, kk_far _ _⟩
  have e4 : b = d → det c d b = 0 ∧ det a b d = 0 ∧ kk c d b = EE c d ∧ kk a b d = EE a b := by rintro rfl; exact ⟨det_2 _ _, det_2 _ _, kk_far _ _, kk_far _ _⟩
  have f1 : det a b c = 0 → kk a b c = 0 → a = c := fun h k => by
    obtain ⟨c1, c2⟩ := coll h; rw [k] at c1 c2; simp only [Int.zero_mul] at c1 c2
    rw [Pt.eq_iff]; rcases Int.mul_eq_zero.1 c1 with h1 | h1 <;> rcases Int.mul_eq_zero.1 c2 with h2 | h2 <;> omega
  have f2 : det a b d = 0 → kk a b d = 0 → a = d := fun h k => by
    obtain ⟨c1, c2⟩ := coll h; rw [k] at c1 c2; simp only [Int.zero_mul] at c1 c2
    rw [Pt.eq_iff]; rcases Int.mul_eq_zero.1 c1 with h1 | h1 <;> rcases Int.mul_eq_zero.1 c2 with h2 | h2 <;> omega
  have f3 : det a b c = 0 → kk a b c = EE a b → b = c := fun h k => by
    obtain ⟨c1, c2⟩ := coll2 h; rw [k] at c1 c2; simp only [Int.sub_self, Int.zero_mul] at c1 c2
    rw [Pt.eq_iff]; rcases Int.mul_eq_zero.1 c1 with h1 | h1 <;> rcases Int.mul_eq_zero.1 c2 with h2 | h2 <;> omega
  have f4 : det a b d = 0 → kk a b d = EE a b → b = d := fun h k => by
    obtain ⟨c1, c2⟩ := coll2 h; rw [k] at c1 c2; simp only [Int.sub_self, Int.zero_mul] at c1 c2
    rw [Pt.eq_iff]; rcases Int.mul_eq_zero.1 c1 with h1 | h1 <;> rcases Int.mul_eq_zero.1 c2 with h2 | h2 <;> omega
  by_cases hs : a = c ∨ a = d ∨ b = c ∨ b = d
  · rw [meetS_end s hl hs]
    clear f1 f2 f3 f4
    generalize det a b c = C at *
    generalize det a b d = D at *
    generalize det c d a = A at *
    generalize det c d b = B at *
    generalize kk a b c = kc at *
    generalize kk a b d = kd at *
    generalize kk c d a = la at *
    generalize kk c d b = lb at *
    generalize EE a b = E at *
    generalize EE c d = F at *
    rcases hs with h | h | h | h
    · obtain ⟨g1, g2, g3, g4⟩ := e1 h
      subst g1 g2 g3 g4
      have hD : D ≠ 0 := fun k => hl ⟨rfl, k⟩
      have hB : B ≠ 0 := by rcases side_k (A := 0) (B := B) (kc := 0) hE hD (by simp) (by simpa using i2) with x | x | x | x <;> omega
      simp [sgn, mx4, hD, hB]
    · obtain ⟨g1, g2, g3, g4⟩ := e2 h
      subst g1 g2 g3 g4
      have hC : C ≠ 0 := fun k => hl ⟨k, rfl⟩
      have hB : B ≠ 0 := by
        rintro rfl
        simp only [Int.mul_zero, Int.zero_sub] at i2
        have := Int.mul_eq_zero.1 (show C * -E = 0 by omega)
        omega
      simp [sgn, mx4, hC, hB]
    · obtain ⟨g1, g2, g3, g4⟩ := e3 h
      subst g1 g2 g3 g4
      have hD : D ≠ 0 := fun k => hl ⟨rfl, k⟩
      have hA : A ≠ 0 := by
        rintro rfl
        simp only [Int.mul_zero, Int.zero_mul, Int.sub_zero] at i1
        have := Int.mul_eq_zero.1 i1.symm
        omega
      simp [sgn, mx4, hD, hA]
    · obtain ⟨g1, g2, g3, g4⟩ := e4 h
      subst g1 g2 g3 g4
      have hC : C ≠ 0 := fun k => hl ⟨k, rfl⟩
      have hA : A ≠ 0 := by
        rintro rfl
        simp only [Int.mul_zero, Int.zero_sub] at i1
        have := Int.mul_eq_zero.1 (show C * kd = 0 by omega)
        omega
      simp [sgn, mx4, hC, hA]
  · rw [meetS_fin s hl hs]
    have n1 : ¬ a = c := fun h => hs (.inl h)
    have n2 : ¬ a = d := fun h => hs (.inr (.inl h))
    have n3 : ¬ b = c := fun h => hs (.inr (.inr (.inl h)))
    have n4 : ¬ b = d := fun h => hs (.inr (.inr (.inr h)))
    clear e1 e2 e3 e4 hs
    generalize det a b c = C at *
    generalize det a b d = D at *
    generalize det c d a = A at *
    generalize det c d b = B at *
    generalize kk a b c = kc at *
    generalize kk a b d = kd at *
    generalize kk c d a = la at *
    generalize kk c d b = lb at *
    generalize EE a b = E at *
    generalize EE c d = F at *
    by_cases hC : C = 0
    · subst hC
      have hD : D ≠ 0 := fun k => hl ⟨rfl, k⟩
      have k1 : kc ≠ 0 := fun k => n1 (f1 rfl k)
      have k2 : kc ≠ E := fun k => n3 (f3 rfl k)
      rcases side_k (A := A) (B := B) hE hD (by simpa using i1) (by simpa using i2) with x | x | ⟨x1, x2, x3, x4⟩ | ⟨x1, x2, x3, x4, x5⟩
      · omega
      · omega
      · rw [s0, fin_0 (.inl x4), if_neg (by simp), if_neg (by omega), if_neg (by omega), if_neg (by omega), if_neg (by omega)]; rfl
      · rw [s0, fin_2 x5 (by have := sgn_cases D; omega) (.inr (.inr (.inl rfl))), if_neg (by simp), if_neg (by omega), if_neg (by omega), if_pos (by omega), if_neg (by omega)]; rfl
    · by_cases hD : D = 0
      · subst hD
        have k1 : kd ≠ 0 := fun k => n2 (f2 rfl k)
        have k2 : kd ≠ E := fun k => n4 (f4 rfl k)
        rcases side_k (A := -A) (B := -B) (kc := kd) hE hC (by simp only [Int.mul_zero, Int.zero_sub] at i1; rw [Int.mul_neg, i1, Int.mul_comm C]; simp) (by simp only [Int.mul_zero, Int.zero_sub] at i2; rw [Int.mul_neg, i2, Int.mul_comm C]; simp) with x | x | ⟨x1, x2, x3, x4⟩ | ⟨x1, x2, x3, x4, x5⟩
        · omega
        · omega
        · rw [sgn_neg, sgn_neg] at x4
          rw [s0, fin_0 (.inl (by omega)), if_neg (by simp), if_neg (by omega), if_neg (by omega), if_neg (by omega), if_neg (by omega)]; rfl
        · rw [sgn_neg, sgn_neg] at x5
          rw [s0, fin_2 (by omega) (by have := sgn_cases C; omega) (.inr (.inr (.inr rfl))), if_neg (by simp), if_neg (by omega), if_neg (by omega), if_neg (by omega), if_pos (by omega)]; rfl
      · by_cases hA : A = 0
        · subst hA
          have hB : B ≠ 0 := by
            rintro rfl
            simp only [Int.mul_zero, Int.zero_mul, Int.sub_zero] at i3
            rcases Int.mul_eq_zero.1 i3 with h | h <;> omega
          rcases side_k (A := C) (B := D) (kc := la) hF hB (by simpa using i3) (by simpa using i4) with x | x | ⟨x1, x2, x3, x4⟩ | ⟨x1, x2, x3, x4, x5⟩
          · omega
          · omega
          · rw [s0, fin_0 (.inr x4), if_neg (by simp), if_neg (by omega), if_neg (by omega), if_neg (by omega), if_neg (by omega)]; rfl
          · rw [s0, fin_2 (by have := sgn_cases B; omega) x5 (.inl rfl), if_neg (by simp), if_pos (by omega), if_neg (by omega), if_neg (by omega), if_neg (by omega)]; rfl
        · by_cases hB : B = 0
          · subst hB
            rcases side_k (A := -C) (B := -D) (kc := lb) hF hA (by simp only [Int.mul_zero, Int.zero_sub] at i3; rw [Int.mul_neg, i3, Int.mul_comm A]; simp) (by simp only [Int.mul_zero, Int.zero_sub] at i4; rw [Int.mul_neg, i4, Int.mul_comm A]; simp) with x | x | ⟨x1, x2, x3, x4⟩ | ⟨x1, x2, x3, x4, x5⟩
            · omega
            · omega
            · rw [sgn_neg, sgn_neg] at x4
              rw [s0, fin_0 (.inr (by omega)), if_neg (by simp), if_neg (by omega), if_neg (by omega), if_neg (by omega), if_neg (by omega)]; rfl
            · rw [sgn_neg, sgn_neg] at x5
              rw [s0, fin_2 (by have := sgn_cases A; omega) (by omega) (.inr (.inl rfl)), if_neg (by simp), if_neg (by omega), if_pos (by omega), if_neg (by omega), if_neg (by omega)]; rfl
          · have c1 := sgn_cases A
            have c2 := sgn_cases B
            have c3 := sgn_cases C
            have c4 := sgn_cases D
            simp only [hA, hB, hC, hD, false_and, if_false]
            have m0 : mx4 0 0 0 0 = 0 := rfl
            rw [m0]
            generalize sgn A = sA at *
            generalize sgn B = sB at *
            generalize sgn C = sC at *
            generalize sgn D = sD at *
            have d1 : sA = 1 ∨ sA = -1 := by omega
            have d2 : sB = 1 ∨ sB = -1 := by omega
            have d3 : sC = 1 ∨ sC = -1 := by omega
            have d4 : sD = 1 ∨ sD = -1 := by omega
            clear c1 c2 c3 c4
            rcases d1 with rfl | rfl <;> rcases d2 with rfl | rfl <;> rcases d3 with rfl | rfl <;> rcases d4 with rfl | rfl <;> rfl
end Go.Proofs.Ytaegobkkcgheeaa

namespace Go.Proofs.Ytaegobkkcgheeaa
open Go.RowKit Go.Sort
attribute [local go_sem] rOper rAt rUpon cell_set sg_i64 sg_u64 alloc_cell alloc_frozen
attribute [local go_sem 10000] pt_eql pt_neq
attribute [local irreducible] rWalk

/-- Three points in their order. -/
structure Tri3 where
  A : Pt
  B : Pt
  C : Pt
def mkT (x y z : Pt) : Tri3 := if cmpP y x < 0 ∨ cmpP z x < 0 then (if cmpP z y < 0 ∨ cmpP x y < 0 then ⟨z, x, y⟩ else ⟨y, z, x⟩) else ⟨x, y, z⟩
/-- The triangle of three points; of a line none. -/
def mk (a b c : Pt) : Tri3 := if ori a b c = 0 then ⟨⟨0, 0⟩, ⟨0, 0⟩, ⟨0, 0⟩⟩ else if ori a b c = 1 then mkT a b c else mkT a c b
theorem mkT_rot {x y z : Pt} (hx : vld x = true) (hy : vld y = true) (hz : vld z = true) (n1 : key x ≠ key y) (n2 : key x ≠ key z) (n3 : key y ≠ key z) :
    (key x < key y ∧ key x < key z ∧ mkT x y z = ⟨x, y, z⟩) ∨ (key y < key x ∧ key y < key z ∧ mkT x y z = ⟨y, z, x⟩) ∨ (key z < key x ∧ key z < key y ∧ mkT x y z = ⟨z, x, y⟩) := by
  unfold mkT
  simp only [cmp_lt hy hx, cmp_lt hz hx, cmp_lt hz hy, cmp_lt hx hy]
  (repeat' split) <;> simp <;> omega
theorem dlt {p q : Pt} (hp : vld p = true) (hq : vld q = true) (h : key p < key q) : decide (cmpP p q < 0) = true := by simpa using (cmp_lt hp hq).2 h
theorem dge {p q : Pt} (hp : vld p = true) (hq : vld q = true) (h : key q ≤ key p) : decide (cmpP p q < 0) = false := by
  have := cmp_lt hp hq
  simp; omega
theorem rmake_any (a b c : Pt) (w : World) :
    Calls Try.prog 63 #[.agg #[.int .i64 a.x, .int .i64 a.y], .agg #[.int .i64 b.x, .int .i64 b.y], .agg #[.int .i64 c.x, .int .i64 c.y]] w fun e w' => e = .returned (.tuple #[.agg #[.int .i64 (mk a b c).A.x, .int .i64 (mk a b c).A.y, .int .i64 (mk a b c).B.x, .int .i64 (mk a b c).B.y, .int .i64 (mk a b c).C.x, .int .i64 (mk a b c).C.y], .bool (!decide (ori a b c = 0))]) ∧ Below w.heap.size w w' := by
  by_cases h0 : ori a b c = 0
  · rw [show mk a b c = ⟨⟨0, 0⟩, ⟨0, 0⟩, ⟨0, 0⟩⟩ by unfold mk; rw [if_pos h0], show (!decide (ori a b c = 0)) = false by simp [h0]]
    exact rmake_0 a b c h0 w
  · obtain ⟨va, vb, vc⟩ := ori_vld h0
    obtain ⟨d1, d2, d3⟩ := ori_distinct h0
    have n1 : key a ≠ key b := fun h => d1 (key_inj va vb h).symm
    have n2 : key a ≠ key c := fun h => d2 (key_inj va vc h).symm
    have n3 : key b ≠ key c := fun h => d3 (key_inj vb vc h).symm
    rw [show (!decide (ori a b c = 0)) = true by simp [h0]]
    have hb := ori_bd a b c
    by_cases h1 : ori a b c = 1
    · rw [show mk a b c = mkT a b c by unfold mk; rw [if_neg h0, if_pos h1]]
      rcases mkT_rot va vb vc n1 n2 n3 with ⟨x1, x2, e⟩ | ⟨x1, x2, e⟩ | ⟨x1, x2, e⟩ <;> rw [e]
      · exact rmake_p0 a b c h1 (dge vb va (by omega)) (dge vc va (by omega)) w
      · exact rmake_p1 a b c h1 (dlt vb va (by omega)) (dge vc vb (by omega)) (dge va vb (by omega)) w
      · rcases Int.lt_or_le (key b) (key a) with y | y
        · exact rmake_p2 a b c h1 (dlt vb va (by omega)) (dlt vc vb (by omega)) (dge va vc (by omega)) (dge vb vc (by omega)) w
        · exact rmake_p3 a b c h1 (dge vb va (by omega)) (dlt vc va (by omega)) (dlt vc vb (by omega)) (dge va vc (by omega)) (dge vb vc (by omega)) w
    · have h2 : ori a b c = -1 := by omega
      rw [show mk a b c = mkT a c b by unfold mk; rw [if_neg h0, if_neg h1]]
      rcases mkT_rot va vc vb n2 n1 n3.symm with ⟨x1, x2, e⟩ | ⟨x1, x2, e⟩ | ⟨x1, x2, e⟩ <;> rw [e]
      · exact rmake_n0 a b c h2 (dge vc va (by omega)) (dge vb va (by omega)) w
      · exact rmake_n1 a b c h2 (dlt vc va (by omega)) (dge vb vc (by omega)) (dge va vc (by omega)) w
      · rcases Int.lt_or_le (key c) (key a) with y | y
        · exact rmake_n2 a b c h2 (dlt vc va (by omega)) (dlt vb vc (by omega)) (dge va vb (by omega)) (dge vc vb (by omega)) w
        · exact rmake_n3 a b c h2 (dge vc va (by omega)) (dlt vb va (by omega)) (dlt vb vc (by omega)) (dge va vb (by omega)) (dge vc vb (by omega)) w
/-- Are two triangles one? -/
def teq (s u : Tri3) : Bool := peqI s.A.x s.A.y u.A.x u.A.y && (peqI s.B.x s.B.y u.B.x u.B.y && peqI s.C.x s.C.y u.C.x u.C.y)
theorem tri_eql (s u : Tri3) (w : World) : (binOp .eql 25 (.agg #[.int .i64 s.A.x, .int .i64 s.A.y, .int .i64 s.B.x, .int .i64 s.B.y, .int .i64 s.C.x, .int .i64 s.C.y]) (.agg #[.int .i64 u.A.x, .int .i64 u.A.y, .int .i64 u.B.x, .int .i64 u.B.y, .int .i64 u.C.x, .int .i64 u.C.y])).run Try.prog w = .ok (.bool (teq s u)) w := by
  unfold teq peqI
  by_cases h1 : s.A.x = u.A.x
  case neg => simp [go_sem, h1]
  case pos =>
  by_cases h2 : s.A.y = u.A.y
  case neg => simp [go_sem, h1, h2]
  case pos =>
  by_cases h3 : s.B.x = u.B.x
  case neg => simp [go_sem, h1, h2, h3]
  case pos =>
  by_cases h4 : s.B.y = u.B.y
  case neg => simp [go_sem, h1, h2, h3, h4]
  case pos =>
  by_cases h5 : s.C.x = u.C.x
  case neg => simp [go_sem, h1, h2, h3, h4, h5]
  case pos =>
  by_cases h6 : s.C.y = u.C.y
  · simp [go_sem, h1, h2, h3, h4, h5, h6]
  · simp [go_sem, h1, h2, h3, h4, h5, h6]
end Go.Proofs.Ytaegobkkcgheeaa

namespace Go.Proofs.Ytaegobkkcgheeaa
open Go.RowKit Go.Sort
attribute [local go_sem] rOper rAt rUpon cell_set sg_i64 sg_u64 alloc_cell alloc_frozen
attribute [local go_sem 10000] pt_eql pt_neq tri_eql
attribute [local irreducible] rWalk

def valT (T : Tri3) : Bool := !decide (ori T.A T.B T.C = 0) && teq (mk T.A T.B T.C) T
theorem rvalT_0 (T : Tri3) (h : (!decide (ori T.A T.B T.C = 0)) = false) (w : World) :
    Calls Try.prog 41 #[.agg #[.int .i64 T.A.x, .int .i64 T.A.y, .int .i64 T.B.x, .int .i64 T.B.y, .int .i64 T.C.x, .int .i64 T.C.y]] w fun e w' => e = .returned (.bool false) ∧ Below w.heap.size w w' := by
  have cm := rmake_any T.A T.B T.C
  rw [h] at cm
  clear h
  generalize mk T.A T.B T.C = M at *
  go_enter Try.func41, Try.ntmps41
  go_wp2_with fail
  refine at_call fun W1 hW => ?_
  have Bt : Box W1 (w.heap.size) [.int .i64 T.A.x, .int .i64 T.A.y, .int .i64 T.B.x, .int .i64 T.B.y, .int .i64 T.C.x, .int .i64 T.C.y] 25 := by rw [hW]; exact Box.new rfl
  have hw : Below w.heap.size w W1 := by rw [hW]; go_grown
  clear hW
  refine (cm _).mono ?_
  rintro e w2 ⟨rfl, hb⟩
  replace Bt := Bt.ext hb rfl
  replace hw := hw.trans (hb.mono hw.size)
  clear hb
  obtain ⟨xt, yt, zt, vt⟩ := Bt.facts
  go_wp2
  go_ret
  exact ⟨rfl, by have hl := hw.size; go_grown⟩

theorem rvalT_1 (T : Tri3) (h : (!decide (ori T.A T.B T.C = 0)) = true) (w : World) :
    Calls Try.prog 41 #[.agg #[.int .i64 T.A.x, .int .i64 T.A.y, .int .i64 T.B.x, .int .i64 T.B.y, .int .i64 T.C.x, .int .i64 T.C.y]] w fun e w' => e = .returned (.bool (teq (mk T.A T.B T.C) T)) ∧ Below w.heap.size w w' := by
  have cm := rmake_any T.A T.B T.C
  rw [h] at cm
  clear h
  generalize mk T.A T.B T.C = M at *
  go_enter Try.func41, Try.ntmps41
  go_wp2_with fail
  refine at_call fun W1 hW => ?_
  have Bt : Box W1 (w.heap.size) [.int .i64 T.A.x, .int .i64 T.A.y, .int .i64 T.B.x, .int .i64 T.B.y, .int .i64 T.C.x, .int .i64 T.C.y] 25 := by rw [hW]; exact Box.new rfl
  have hw : Below w.heap.size w W1 := by rw [hW]; go_grown
  clear hW
  refine (cm _).mono ?_
  rintro e w2 ⟨rfl, hb⟩
  replace Bt := Bt.ext hb rfl
  replace hw := hw.trans (hb.mono hw.size)
  clear hb
  obtain ⟨xt, yt, zt, vt⟩ := Bt.facts
  go_wp2
  go_ret
  exact ⟨rfl, by have hl := hw.size; go_grown⟩

theorem rvalT_any (T : Tri3) (w : World) :
    Calls Try.prog 41 #[.agg #[.int .i64 T.A.x, .int .i64 T.A.y, .int .i64 T.B.x, .int .i64 T.B.y, .int .i64 T.C.x, .int .i64 T.C.y]] w fun e w' => e = .returned (.bool (valT T)) ∧ Below w.heap.size w w' := by
  unfold valT
  cases h : (!decide (ori T.A T.B T.C = 0)) with
  | false => exact rvalT_0 T h w
  | true => exact rvalT_1 T h w
def hasP (T : Tri3) (p : Pt) : Bool := valT T && (vld p && (decide (0 ≤ ori T.A T.B p) && (decide (0 ≤ ori T.B T.C p) && decide (0 ≤ ori T.C T.A p))))
theorem ht_pos {u : Pt} (h : u ≠ ⟨0, 0⟩) : 0 < ht u := by
  have h1 := sq_pos u.x
  have h2 := sq_pos u.y
  have h3 : ht u ≠ 0 := fun h0 => by
    unfold ht at h0
    have g1 : u.x * u.x = 0 := by omega
    have g2 : u.y * u.y = 0 := by omega
    apply h; rw [Pt.eq_iff]
    exact ⟨by rcases Int.mul_eq_zero.1 g1 with k | k <;> exact k, by rcases Int.mul_eq_zero.1 g2 with k | k <;> exact k⟩
  have : 0 ≤ ht u := by unfold ht; omega
  omega
theorem way_ne {d a : Pt} (h : d ≠ a) : way d a ≠ ⟨0, 0⟩ := fun k => h (by rw [Pt.eq_iff] at k ⊢; unfold way at k; simp only at k; omega)
/-- Who is in a triangle, and no corner, is in its circle. -/
theorem in_circ {a b c d : Pt} (h : ori a b c = 1) (hv : vld d = true) (o1 : 0 ≤ ori a b d) (o2 : 0 ≤ ori b c d) (o3 : 0 ≤ ori c a d) (e1 : d ≠ a) (e2 : d ≠ b) (e3 : d ≠ c) : circ a b c d = 1 := by
  have h0 : ¬ ori a b c = 0 := by omega
  obtain ⟨va, vb, vc⟩ := ori_vld h0
  rw [ori_v va vb hv] at o1
  rw [ori_v vb vc hv] at o2
  rw [ori_v vc va hv] at o3
  rw [ori_v va vb vc, sgn_pos] at h
  have p1 := ht_pos (way_ne e1)
  have p2 := ht_pos (way_ne e2)
  have p3 := ht_pos (way_ne e3)
  have i1 : det a b d = cr (way d a) (way d b) := by unfold det cr way; grind
  have i2 : det b c d = cr (way d b) (way d c) := by unfold det cr way; grind
  have i3 : det c a d = cr (way d c) (way d a) := by unfold det cr way; grind
  have i4 : det a b c = cr (way d b) (way d c) + cr (way d c) (way d a) + cr (way d a) (way d b) := by unfold det cr way; grind
  rw [i1] at o1
  rw [i2] at o2
  rw [i3] at o3
  rw [i4] at h
  have hl : 0 < lft a b c d := by
    unfold lft
    generalize way d a = u at *
    generalize way d b = v at *
    generalize way d c = z at *
    have c1 := sgn_cases (cr u v)
    have c2 := sgn_cases (cr v z)
    have c3 := sgn_cases (cr z u)
    have t1 : 0 ≤ ht u * cr v z := Int.mul_nonneg (by omega) (by omega)
    have t2 : 0 ≤ ht v * cr z u := Int.mul_nonneg (by omega) (by omega)
    have t3 : 0 ≤ ht z * cr u v := Int.mul_nonneg (by omega) (by omega)
    by_cases k1 : 0 < cr v z
    · have := Int.mul_pos p1 k1; omega
    · by_cases k2 : 0 < cr z u
      · have := Int.mul_pos p2 k2; omega
      · have := Int.mul_pos p3 (show 0 < cr u v by omega); omega
  rw [circ_main h0 hv e1 e2 e3, sgn_p hl, if_pos (by omega)]
theorem mk_circ {a b c d : Pt} (h0 : ¬ ori a b c = 0) (hh : hasP (mk a b c) d = true) (e1 : d ≠ a) (e2 : d ≠ b) (e3 : d ≠ c) : circ (mk a b c).A (mk a b c).B (mk a b c).C d = 1 := by
  obtain ⟨va, vb, vc⟩ := ori_vld h0
  obtain ⟨d1, d2, d3⟩ := ori_distinct h0
  have n1 : key a ≠ key b := fun h => d1 (key_inj va vb h).symm
  have n2 : key a ≠ key c := fun h => d2 (key_inj va vc h).symm
  have n3 : key b ≠ key c := fun h => d3 (key_inj vb vc h).symm
  have hb := ori_bd a b c
  unfold hasP at hh
  simp only [Bool.and_eq_true, decide_eq_true_eq] at hh
  obtain ⟨_, hv, o1, o2, o3⟩ := hh
  by_cases h1 : ori a b c = 1
  · rw [show mk a b c = mkT a b c by unfold mk; rw [if_neg h0, if_pos h1]] at o1 o2 o3 ⊢
    rcases mkT_rot va vb vc n1 n2 n3 with ⟨_, _, e⟩ | ⟨_, _, e⟩ | ⟨_, _, e⟩ <;> rw [e] at o1 o2 o3 ⊢
    · exact in_circ h1 hv o1 o2 o3 e1 e2 e3
    · exact in_circ (by rw [ori_cyc]; exact h1) hv o1 o2 o3 e2 e3 e1
    · exact in_circ (by rw [← ori_cyc]; exact h1) hv o1 o2 o3 e3 e1 e2
  · have h2 : ori a c b = 1 := by rw [ori_swap2]; omega
    rw [show mk a b c = mkT a c b by unfold mk; rw [if_neg h0, if_neg h1]] at o1 o2 o3 ⊢
    rcases mkT_rot va vc vb n2 n1 n3.symm with ⟨_, _, e⟩ | ⟨_, _, e⟩ | ⟨_, _, e⟩ <;> rw [e] at o1 o2 o3 ⊢
    · exact in_circ h2 hv o1 o2 o3 e1 e3 e2
    · exact in_circ (by rw [ori_cyc]; exact h2) hv o1 o2 o3 e3 e2 e1
    · exact in_circ (by rw [← ori_cyc]; exact h2) hv o1 o2 o3 e2 e1 e3
end Go.Proofs.Ytaegobkkcgheeaa

namespace Go.Proofs.Ytaegobkkcgheeaa
open Go.RowKit Go.Sort Go.ChangeShapes Go.WideShapes Go.ChangeAt
section
variable {H : Type} {enc : TypeId × Value → H} {w : World} {base : Nat → Bool} {spare : Bool}
theorem list2 {α : Type} {l : List α} (h : l.length = 2) : ∃ a b, l = [a, b] := by
  match l, h with
  | [a, b], _ => exact ⟨a, b, rfl⟩
theorem list6 {α : Type} {l : List α} (h : l.length = 6) : ∃ a b c d e f, l = [a, b, c, d, e, f] := by
  match l, h with
  | [a, b, c, d, e, f], _ => exact ⟨a, b, c, d, e, f, rfl⟩
def WFT (T : Tri3) : Prop := (Lit.int .i64 T.A.x).wf = true ∧ (Lit.int .i64 T.A.y).wf = true ∧ (Lit.int .i64 T.B.x).wf = true ∧ (Lit.int .i64 T.B.y).wf = true ∧ (Lit.int .i64 T.C.x).wf = true ∧ (Lit.int .i64 T.C.y).wf = true
theorem trod_pt {b0 : Nat} {fuel : Nat} {u v : Value} {y : DataW H × List MemPlace} (h : DataW.trod enc Try.prog w b0 base spare fuel 23 [u, v] = some y) :
    ∃ a b, u = .int .i64 a ∧ v = .int .i64 b ∧ y = (.agg [.lit (.int .i64 a), .lit (.int .i64 b)], []) ∧ (Lit.int .i64 a).wf = true ∧ (Lit.int .i64 b).wf = true := by
  obtain ⟨y0, y1, n, rfl, hl, h0, h1⟩ := trod_struct2 Try.underlying23 h
  rw [show Try.prog.cellsOf 3 = 1 by kernel_rfl] at h0 h1
  simp only [List.drop_zero, List.take_succ_cons, List.take_zero, List.drop_succ_cons] at h0 h1
  obtain ⟨a, ha, rfl, wa⟩ := DataW.trod_int Try.underlying3 h0
  obtain ⟨b, hb, rfl, wb⟩ := DataW.trod_int Try.underlying3 h1
  simp at ha hb
  exact ⟨a, b, ha, hb, rfl, wa, wb⟩
theorem pt_trod {b0 : Nat} {a b : Int} (wa : (Lit.int .i64 a).wf = true) (wb : (Lit.int .i64 b).wf = true) :
    ∃ n, DataW.trod enc Try.prog w b0 base spare (n + 1) 23 [.int .i64 a, .int .i64 b] = some (.agg [.lit (.int .i64 a), .lit (.int .i64 b)], []) := by
  refine ⟨_, trod_struct2_mk (n := 1) (y0 := (.lit (.int .i64 a), [])) (y1 := (.lit (.int .i64 b), [])) Try.underlying23 (by kernel_rfl) ?_ ?_⟩
  · rw [show Try.prog.cellsOf 3 = 1 by kernel_rfl]; simp [DataW.trod, Try.underlying3, wa]
  · rw [show Try.prog.cellsOf 3 = 1 by kernel_rfl]; simp [DataW.trod, Try.underlying3, wb]
def dataT (T : Tri3) : DataW H := .agg [.agg [.lit (.int .i64 T.A.x), .lit (.int .i64 T.A.y)], .agg [.lit (.int .i64 T.B.x), .lit (.int .i64 T.B.y)], .agg [.lit (.int .i64 T.C.x), .lit (.int .i64 T.C.y)]]
def valueT (T : Tri3) : Value := .agg #[.int .i64 T.A.x, .int .i64 T.A.y, .int .i64 T.B.x, .int .i64 T.B.y, .int .i64 T.C.x, .int .i64 T.C.y]
set_option maxRecDepth 100000 in
theorem open_tri {r : Reach} {b0 b1 : Nat} {v : Value} {d : DataW H} {p : List MemPlace} (hv : Value.okWide Try.prog w r b1 25 v) (h : DataW.Trod enc Try.prog w b0 base spare 25 v d p) :
    ∃ T : Tri3, v = valueT T ∧ d = dataT T ∧ p = [] ∧ WFT T := by
  obtain ⟨cs, rfl, hsz⟩ := okWide_struct Try.underlying25 hv
  rw [show Try.prog.cellsOf 25 = 6 by kernel_rfl] at hsz
  obtain ⟨c0, c1, c2, c3, c4, c5, hc⟩ := list6 (l := cs.toList) (by simpa using hsz)
  obtain ⟨fuel, hf⟩ := h
  simp only [Value.cells] at hf
  rw [hc] at hf
  obtain ⟨y0, y1, y2, n, hx, _, h0, h1, h2⟩ := Deep.trod_struct3 Try.underlying25 hf
  rw [show Try.prog.cellsOf 23 = 2 by kernel_rfl] at h0 h1 h2
  simp only [List.drop_zero, List.take_succ_cons, List.take_zero, List.drop_succ_cons] at h0 h1 h2
  obtain ⟨a0, a1, rfl, rfl, rfl, w0, w1⟩ := trod_pt h0
  obtain ⟨a2, a3, rfl, rfl, rfl, w2, w3⟩ := trod_pt h1
  obtain ⟨a4, a5, rfl, rfl, rfl, w4, w5⟩ := trod_pt h2
  simp only [Prod.mk.injEq] at hx
  refine ⟨⟨⟨a0, a1⟩, ⟨a2, a3⟩, ⟨a4, a5⟩⟩, ?_, hx.1, by simpa using hx.2, w0, w1, w2, w3, w4, w5⟩
  unfold valueT
  congr 1
  cases cs; simp_all
set_option maxRecDepth 100000 in
theorem shut_tri {b0 : Nat} {T : Tri3} (k : WFT T) : DataW.Trod enc Try.prog w b0 base spare 25 (valueT T) (dataT T) [] := by
  obtain ⟨w0, w1, w2, w3, w4, w5⟩ := k
  obtain ⟨n0, t0⟩ := pt_trod (enc := enc) (w := w) (b0 := b0) (base := base) (spare := spare) w0 w1
  obtain ⟨n1, t1⟩ := pt_trod (enc := enc) (w := w) (b0 := b0) (base := base) (spare := spare) w2 w3
  obtain ⟨n2, t2⟩ := pt_trod (enc := enc) (w := w) (b0 := b0) (base := base) (spare := spare) w4 w5
  have ts : DataW.trod enc Try.prog w b0 base spare (max (n0 + 1) (max (n1 + 1) (n2 + 1)) + 1) 25 [.int .i64 T.A.x, .int .i64 T.A.y, .int .i64 T.B.x, .int .i64 T.B.y, .int .i64 T.C.x, .int .i64 T.C.y] = some (dataT T, []) :=
    Deep.trod_struct3_mk (y0 := (.agg [.lit (.int .i64 T.A.x), .lit (.int .i64 T.A.y)], [])) (y1 := (.agg [.lit (.int .i64 T.B.x), .lit (.int .i64 T.B.y)], [])) (y2 := (.agg [.lit (.int .i64 T.C.x), .lit (.int .i64 T.C.y)], [])) Try.underlying25 (by kernel_rfl)
      (DataW.trod_le (by omega) t0) (DataW.trod_le (by omega) t1) (DataW.trod_le (by omega) t2)
  exact ⟨_, ts⟩
end
end Go.Proofs.Ytaegobkkcgheeaa
