/- Put together: ExQ, ExV, ExW, TrA. -/
import Derived.Test.YtnocdecimcpkfaaPut12
import Derived.Test.YtnocdecimcpkfaaRows
import Derived.Test.YtnocdecimcpkfaaPut10
import Derived.Test.YtnocdecimcpkfaaPut1
import Derived.WalkKit
import Derived.WalkSpells
import Derived.WalkLawsBesides
import Derived.Laws.Externs
import Derived.Deep.QuietTactic
import Derived.BigQuiet
import Derived.Lib.Hide
import Derived.Handy
namespace Go.Proofs.Ytnocdecimcpkfaa
open Go.RowKit

theorem peqI_of {p q : Pt} (b : Bool) (h : peqI p.x p.y q.x q.y = b) : (b = true ∧ p = q) ∨ (b = false ∧ p ≠ q) := by
  cases b with
  | true => exact .inl ⟨rfl, peqI_eq.1 h⟩
  | false => exact .inr ⟨rfl, peqI_ne.1 h⟩
/-- Four points, two segments. -/
structure Seg2 (a b c d : Pt) : Prop where
  va : vld a = true
  vb : vld b = true
  vc : vld c = true
  vd : vld d = true
  nab : a ≠ b
  ncd : c ≠ d
theorem meetS_none {a b c d : Pt} (h : ¬ Seg2 a b c d) : meetS a b c d = 0 := by
  unfold meetS
  cases va : vld a with
  | false => rfl
  | true => cases vb : vld b with
    | false => rfl
    | true => cases vc : vld c with
      | false => rfl
      | true => cases vd : vld d with
        | false => rfl
        | true =>
          by_cases e1 : a = b
          · rw [if_neg (by simp), if_neg (by simp), if_neg (by simp), if_neg (by simp), if_pos (pp e1)]
          · by_cases e2 : c = d
            · rw [if_neg (by simp), if_neg (by simp), if_neg (by simp), if_neg (by simp), if_neg (np e1), if_pos (pp e2)]
            · exact absurd ⟨va, vb, vc, vd, e1, e2⟩ h
theorem meetR_none {a b c d : Pt} (h : ¬ Seg2 a b c d) : meetR a b c d = 0 := by
  unfold meetR
  cases va : vld a with
  | false => rfl
  | true => cases vb : vld b with
    | false => rfl
    | true => cases vc : vld c with
      | false => rfl
      | true => cases vd : vld d with
        | false => rfl
        | true =>
          by_cases e1 : a = b
          · rw [if_neg (by simp), if_neg (by simp), if_neg (by simp), if_neg (by simp), if_pos (pp e1)]
          · by_cases e2 : c = d
            · rw [if_neg (by simp), if_neg (by simp), if_neg (by simp), if_neg (by simp), if_neg (np e1), if_pos (pp e2)]
            · exact absurd ⟨va, vb, vc, vd, e1, e2⟩ h
section
variable {a b c d : Pt} (s : Seg2 a b c d)
include s
theorem meetS_line (h : det a b c = 0 ∧ det a b d = 0) : meetS a b c d = mil a b c d := by
  unfold meetS
  rw [if_neg (by rw [s.va]; simp), if_neg (by rw [s.vb]; simp), if_neg (by rw [s.vc]; simp), if_neg (by rw [s.vd]; simp), if_neg (np s.nab), if_neg (np s.ncd),
    if_pos ⟨by rw [ori_v s.va s.vb s.vc, h.1]; rfl, by rw [ori_v s.va s.vb s.vd, h.2]; rfl⟩]
theorem not_line (h : ¬ (det a b c = 0 ∧ det a b d = 0)) : ¬ (ori a b c = 0 ∧ ori a b d = 0) := fun k => h ⟨by rw [← sgn_zero, ← ori_v s.va s.vb s.vc]; exact k.1, by rw [← sgn_zero, ← ori_v s.va s.vb s.vd]; exact k.2⟩
theorem meetS_end (h : ¬ (det a b c = 0 ∧ det a b d = 0)) (e : a = c ∨ a = d ∨ b = c ∨ b = d) : meetS a b c d = 0 := by
  unfold meetS
  rw [if_neg (by rw [s.va]; simp), if_neg (by rw [s.vb]; simp), if_neg (by rw [s.vc]; simp), if_neg (by rw [s.vd]; simp), if_neg (np s.nab), if_neg (np s.ncd), if_neg (not_line s h)]
  by_cases e1 : a = c
  · rw [if_pos (pp e1)]
  rw [if_neg (np e1)]
  by_cases e2 : a = d
  · rw [if_pos (pp e2)]
  rw [if_neg (np e2)]
  by_cases e3 : b = c
  · rw [if_pos (pp e3)]
  rw [if_neg (np e3)]
  by_cases e4 : b = d
  · rw [if_pos (pp e4)]
  rcases e with e | e | e | e
  · exact absurd e e1
  · exact absurd e e2
  · exact absurd e e3
  · exact absurd e e4
theorem meetS_fin (h : ¬ (det a b c = 0 ∧ det a b d = 0)) (e : ¬ (a = c ∨ a = d ∨ b = c ∨ b = d)) : meetS a b c d = fin (sgn (det c d a)) (sgn (det c d b)) (sgn (det a b c)) (sgn (det a b d)) := by
  unfold meetS
  rw [if_neg (by rw [s.va]; simp), if_neg (by rw [s.vb]; simp), if_neg (by rw [s.vc]; simp), if_neg (by rw [s.vd]; simp), if_neg (np s.nab), if_neg (np s.ncd), if_neg (not_line s h),
    if_neg (np (fun k => e (.inl k))), if_neg (np (fun k => e (.inr (.inl k)))), if_neg (np (fun k => e (.inr (.inr (.inl k))))), if_neg (np (fun k => e (.inr (.inr (.inr k))))),
    ori_v s.va s.vb s.vc, ori_v s.va s.vb s.vd, ori_v s.vc s.vd s.va, ori_v s.vc s.vd s.vb]
theorem meetR_line (h : det a b c = 0 ∧ det a b d = 0) : meetR a b c d = lap a b c d := by
  unfold meetR
  rw [if_neg (by rw [s.va]; simp), if_neg (by rw [s.vb]; simp), if_neg (by rw [s.vc]; simp), if_neg (by rw [s.vd]; simp), if_neg (np s.nab), if_neg (np s.ncd),
    if_pos ⟨by rw [ori_v s.va s.vb s.vc, h.1]; rfl, by rw [ori_v s.va s.vb s.vd, h.2]; rfl⟩]
theorem meetR_main (h : ¬ (det a b c = 0 ∧ det a b d = 0)) : meetR a b c d = if sgn (det a b c) * sgn (det a b d) < 0 ∧ sgn (det c d a) * sgn (det c d b) < 0 then 1 else mx4 (tch a c d) (tch b c d) (tch c a b) (tch d a b) := by
  unfold meetR
  rw [if_neg (by rw [s.va]; simp), if_neg (by rw [s.vb]; simp), if_neg (by rw [s.vc]; simp), if_neg (by rw [s.vd]; simp), if_neg (np s.nab), if_neg (np s.ncd), if_neg (not_line s h),
    ori_v s.va s.vb s.vc, ori_v s.va s.vb s.vd, ori_v s.vc s.vd s.va, ori_v s.vc s.vd s.vb]
/-- All that is known of the four sides and the four places. -/
theorem key_n : key a ≠ key b := fun h => s.nab (key_inj s.va s.vb h)
theorem key_n2 : key c ≠ key d := fun h => s.ncd (key_inj s.vc s.vd h)
end
theorem lo2_key {p q : Pt} (hp : vld p = true) (hq : vld q = true) : vld (lo2 p q) = true ∧ key (lo2 p q) = min (key p) (key q) := by
  unfold lo2; rw [cmpP_key hq hp]
  have := sgn_cases (key q - key p)
  split
  · exact ⟨hq, by omega⟩
  · exact ⟨hp, by omega⟩
theorem hi2_key {p q : Pt} (hp : vld p = true) (hq : vld q = true) : vld (hi2 p q) = true ∧ key (hi2 p q) = max (key p) (key q) := by
  unfold hi2; rw [cmpP_key hq hp]
  have := sgn_cases (key q - key p)
  split
  · exact ⟨hp, by omega⟩
  · exact ⟨hq, by omega⟩
theorem rl_key {p q : Pt} (hp : vld p = true) (hq : vld q = true) : vld (rl p q) = true ∧ key (rl p q) = min (key p) (key q) := by
  unfold rl; rw [cmpP_key hp hq]
  have := sgn_cases (key p - key q)
  split
  · exact ⟨hp, by omega⟩
  · exact ⟨hq, by omega⟩
theorem rg_key {p q : Pt} (hp : vld p = true) (hq : vld q = true) : vld (rg p q) = true ∧ key (rg p q) = max (key p) (key q) := by
  unfold rg; rw [cmpP_key hp hq]
  have := sgn_cases (key p - key q)
  split
  · exact ⟨hq, by omega⟩
  · exact ⟨hp, by omega⟩
theorem cmp_lt {p q : Pt} (hp : vld p = true) (hq : vld q = true) : cmpP p q < 0 ↔ key p < key q := by
  rw [cmpP_key hp hq]; have := sgn_cases (key p - key q); omega
theorem mil_key {a b c d : Pt} (s : Seg2 a b c d) : mil a b c d = if min (key a) (key b) < max (key c) (key d) ∧ min (key c) (key d) < max (key a) (key b) then 3 else 0 := by
  obtain ⟨u1, u2⟩ := lo2_key s.va s.vb
  obtain ⟨u3, u4⟩ := hi2_key s.va s.vb
  obtain ⟨u5, u6⟩ := lo2_key s.vc s.vd
  obtain ⟨u7, u8⟩ := hi2_key s.vc s.vd
  unfold mil
  simp only [cmp_lt u1 u7, cmp_lt u5 u3, u2, u4, u6, u8]
  (repeat' split) <;> omega
theorem lap_key {a b c d : Pt} (s : Seg2 a b c d) : lap a b c d = if min (key a) (key b) < max (key c) (key d) ∧ min (key c) (key d) < max (key a) (key b) then 3 else 0 := by
  obtain ⟨u1, u2⟩ := rl_key s.va s.vb
  obtain ⟨u3, u4⟩ := rg_key s.va s.vb
  obtain ⟨u5, u6⟩ := rl_key s.vc s.vd
  obtain ⟨u7, u8⟩ := rg_key s.vc s.vd
  obtain ⟨t1, t2⟩ := rg_key u1 u5
  obtain ⟨t3, t4⟩ := rl_key u3 u7
  have n1 := key_n s
  have n2 := key_n2 s
  unfold lap
  simp only [cmp_lt t1 t3, t2, t4, u2, u4, u6, u8]
  (repeat' split) <;> omega
theorem fin_0 {sA sB sC sD : Int} (h : sA = sB ∨ sC = sD) : fin sA sB sC sD = 0 := by unfold fin; (repeat' split) <;> omega
theorem fin_2 {sA sB sC sD : Int} (h1 : sA ≠ sB) (h2 : sC ≠ sD) (h : sA = 0 ∨ sB = 0 ∨ sC = 0 ∨ sD = 0) : fin sA sB sC sD = 2 := by unfold fin; (repeat' split) <;> omega
theorem fin_1 {sA sB sC sD : Int} (h1 : sA ≠ sB) (h2 : sC ≠ sD) (h : ¬ (sA = 0 ∨ sB = 0 ∨ sC = 0 ∨ sD = 0)) : fin sA sB sC sD = 1 := by unfold fin; (repeat' split) <;> omega
/-- One end on the other's line: the other segment's sides, and the end's place. -/
theorem side_k {E A B kc D : Int} (hE : 0 < E) (hD : D ≠ 0) (h1 : E * A = kc * D) (h2 : E * B = (kc - E) * D) :
    (kc = 0 ∧ A = 0 ∧ B ≠ 0) ∨ (kc = E ∧ B = 0 ∧ A ≠ 0) ∨ ((kc < 0 ∨ E < kc) ∧ A ≠ 0 ∧ B ≠ 0 ∧ sgn A = sgn B) ∨ (0 < kc ∧ kc < E ∧ A ≠ 0 ∧ B ≠ 0 ∧ sgn A ≠ sgn B) := by
  have s1 := sgn_scale hE h1
  have s2 := sgn_scale hE h2
  have c1 := sgn_cases kc
  have c2 := sgn_cases (kc - E)
  have c3 := sgn_cases D
  have c4 := sgn_cases A
  have c5 := sgn_cases B
  rcases c1 with ⟨e1, t1⟩ | ⟨e1, t1⟩ | ⟨e1, t1⟩ <;> rcases c2 with ⟨e2, t2⟩ | ⟨e2, t2⟩ | ⟨e2, t2⟩ <;> rw [e1] at s1 <;> rw [e2] at s2 <;> omega
theorem s0 : sgn 0 = 0 := rfl
theorem kk_same (a b : Pt) : kk a b a = 0 := by unfold kk; simp
theorem kk_far (a b : Pt) : kk a b b = EE a b := rfl
theorem det_1 (a b : Pt) : det a b a = 0 := by unfold det; grind
theorem det_2 (a b : Pt) : det a b b = 0 := by unfold det; grind
theorem meet_eq (a b c d : Pt) : meetS a b c d = meetR a b c d := by
  by_cases s : Seg2 a b c d
  case neg => rw [meetS_none s, meetR_none s]
  case pos =>
  by_cases hl : det a b c = 0 ∧ det a b d = 0
  · rw [meetS_line s hl, meetR_line s hl, mil_key s, lap_key s]
  rw [meetR_main s hl, tch_k s.va s.vc s.vd s.ncd, tch_k s.vb s.vc s.vd s.ncd, tch_k s.vc s.va s.vb s.nab, tch_k s.vd s.va s.vb s.nab]
  have hE := EE_pos s.nab
  have hF := EE_pos s.ncd
  have i1 := I1 a b c d
  have i2 := I2 a b c d
  have i3 := I1 c d a b
  have i4 := I2 c d a b
  -- ends in common
  have e1 : a = c → det c d a = 0 ∧ det a b c = 0 ∧ kk c d a = 0 ∧ kk a b c = 0 := by rintro rfl; exact ⟨det_1 _ _, det_1 _ _, kk_same _ _, kk_same _ _⟩
  have e2 : a = d → det c d a = 0 ∧ det a b d = 0 ∧ kk c d a = EE c d ∧ kk a b d = 0 := by rintro rfl; exact ⟨det_2 _ _, det_1 _ _, kk_far _ _, kk_same _ _⟩
  have e3 : b = c → det c d b = 0 ∧ det a b c = 0 ∧ kk c d b = 0 ∧ kk a b c = EE a b := by rintro rfl; exact ⟨det_1 _ _, det_2 _ _, kk_same _ _, kk_far _ _⟩
  have e4 : b = d → det c d b = 0 ∧ det a b d = 0 ∧ kk c d b = EE c d ∧ kk a b d = EE a b := by rintro rfl; exact ⟨det_2 _ _, det_2 _ _, kk_far _ _, kk_far _ _⟩
  have f1 : det a b c = 0 → kk a b c = 0 → a = c := fun h k => by
    obtain ⟨c1, c2⟩ := coll h; rw [k] at c1 c2; simp only [Int.zero_mul] at c1 c2
    rw [Pt.eq_iff]; rcases Int.mul_eq_zero.1 c1 with h1 | h1 <;> rcases Int.mul_eq_zero.1 c2 with h2 | h2 <;> omega
  have f2 : det a b d = 0 → kk a b d = 0 → a = d := fun h k => by
    obtain ⟨c1, c2⟩ := coll h; rw [k] at c1 c2; simp only [Int.zero_mul] at c1 c2
    rw [Pt.eq_iff]; rcases Int.mul_eq_zero.1 c1 with h1 | h1 <;> rcases Int.mul_eq_zero.1 c2 with h2 | h2 <;> omega
  have f3 : det a b c = 0 → kk a b c = EE a b → b = c := fun h k => by
    obtain ⟨c1, c2⟩ := coll2 h; rw [k] at c1 c2; simp only [Int.sub_self, Int.zero_mul] at c1 c2
    rw [Pt.eq_iff]; rcases Int.mul_eq_zero.1 c1 with h1 | h1 <;> rcases Int.mul_eq_zero.1 c2 with h2 | h2 <;> omega
  have f4 : det a b d = 0 → kk a b d = EE a b → b = d := fun h k => by
    obtain ⟨c1, c2⟩ := coll2 h; rw [k] at c1 c2; simp only [Int.sub_self, Int.zero_mul] at c1 c2
    rw [Pt.eq_iff]; rcases Int.mul_eq_zero.1 c1 with h1 | h1 <;> rcases Int.mul_eq_zero.1 c2 with h2 | h2 <;> omega
  by_cases hs : a = c ∨ a = d ∨ b = c ∨ b = d
  · rw [meetS_end s hl hs]
    clear f1 f2 f3 f4
    generalize det a b c = C at *
    generalize det a b d = D at *
    generalize det c d a = A at *
    generalize det c d b = B at *
    generalize kk a b c = kc at *
    generalize kk a b d = kd at *
    generalize kk c d a = la at *
    generalize kk c d b = lb at *
    generalize EE a b = E at *
    generalize EE c d = F at *
    rcases hs with h | h | h | h
    · obtain ⟨g1, g2, g3, g4⟩ := e1 h
      subst g1 g2 g3 g4
      have hD : D ≠ 0 := fun k => hl ⟨rfl, k⟩
      have hB : B ≠ 0 := by rcases side_k (A := 0) (B := B) (kc := 0) hE hD (by simp) (by simpa using i2) with x | x | x | x <;> omega
      simp [sgn, mx4, hD, hB]
    · obtain ⟨g1, g2, g3, g4⟩ := e2 h
      subst g1 g2 g3 g4
      have hC : C ≠ 0 := fun k => hl ⟨k, rfl⟩
      have hB : B ≠ 0 := by
        rintro rfl
        simp only [Int.mul_zero, Int.zero_sub] at i2
        have := Int.mul_eq_zero.1 (show C * -E = 0 by omega)
        omega
      simp [sgn, mx4, hC, hB]
    · obtain ⟨g1, g2, g3, g4⟩ := e3 h
      subst g1 g2 g3 g4
      have hD : D ≠ 0 := fun k => hl ⟨rfl, k⟩
      have hA : A ≠ 0 := by
        rintro rfl
        simp only [Int.mul_zero, Int.zero_mul, Int.sub_zero] at i1
        have := Int.mul_eq_zero.1 i1.symm
        omega
      simp [sgn, mx4, hD, hA]
    · obtain ⟨g1, g2, g3, g4⟩ := e4 h
      subst g1 g2 g3 g4
      have hC : C ≠ 0 := fun k => hl ⟨k, rfl⟩
      have hA : A ≠ 0 := by
        rintro rfl
        simp only [Int.mul_zero, Int.zero_sub] at i1
        have := Int.mul_eq_zero.1 (show C * kd = 0 by omega)
        omega
      simp [sgn, mx4, hC, hA]
  · rw [meetS_fin s hl hs]
    have n1 : ¬ a = c := fun h => hs (.inl h)
    have n2 : ¬ a = d := fun h => hs (.inr (.inl h))
    have n3 : ¬ b = c := fun h => hs (.inr (.inr (.inl h)))
    have n4 : ¬ b = d := fun h => hs (.inr (.inr (.inr h)))
    clear e1 e2 e3 e4 hs
    generalize det a b c = C at *
    generalize det a b d = D at *
    generalize det c d a = A at *
    generalize det c d b = B at *
    generalize kk a b c = kc at *
    generalize kk a b d = kd at *
    generalize kk c d a = la at *
    generalize kk c d b = lb at *
    generalize EE a b = E at *
    generalize EE c d = F at *
    by_cases hC : C = 0
    · subst hC
      have hD : D ≠ 0 := fun k => hl ⟨rfl, k⟩
      have k1 : kc ≠ 0 := fun k => n1 (f1 rfl k)
      have k2 : kc ≠ E := fun k => n3 (f3 rfl k)
      rcases side_k (A := A) (B := B) hE hD (by simpa using i1) (by simpa using i2) with x | x | ⟨x1, x2, x3, x4⟩ | ⟨x1, x2, x3, x4, x5⟩
      · omega
      · omega
      · rw [s0, fin_0 (.inl x4), if_neg (by simp), if_neg (by omega), if_neg (by omega), if_neg (by omega), if_neg (by omega)]; rfl
      · rw [s0, fin_2 x5 (by have := sgn_cases D; omega) (.inr (.inr (.inl rfl))), if_neg (by simp), if_neg (by omega), if_neg (by omega), if_pos (by omega), if_neg (by omega)]; rfl
    · by_cases hD : D = 0
      · subst hD
        have k1 : kd ≠ 0 := fun k => n2 (f2 rfl k)
        have k2 : kd ≠ E := fun k => n4 (f4 rfl k)
        rcases side_k (A := -A) (B := -B) (kc := kd) hE hC (by simp only [Int.mul_zero, Int.zero_sub] at i1; rw [Int.mul_neg, i1, Int.mul_comm C]; simp) (by simp only [Int.mul_zero, Int.zero_sub] at i2; rw [Int.mul_neg, i2, Int.mul_comm C]; simp) with x | x | ⟨x1, x2, x3, x4⟩ | ⟨x1, x2, x3, x4, x5⟩
        · omega
        · omega
        · rw [sgn_neg, sgn_neg] at x4
          rw [s0, fin_0 (.inl (by omega)), if_neg (by simp), if_neg (by omega), if_neg (by omega), if_neg (by omega), if_neg (by omega)]; rfl
        · rw [sgn_neg, sgn_neg] at x5
          rw [s0, fin_2 (by omega) (by have := sgn_cases C; omega) (.inr (.inr (.inr rfl))), if_neg (by simp), if_neg (by omega), if_neg (by omega), if_neg (by omega), if_pos (by omega)]; rfl
      · by_cases hA : A = 0
        · subst hA
          have hB : B ≠ 0 := by
            rintro rfl
            simp only [Int.mul_zero, Int.zero_mul, Int.sub_zero] at i3
            rcases Int.mul_eq_zero.1 i3 with h | h <;> omega
          rcases side_k (A := C) (B := D) (kc := la) hF hB (by simpa using i3) (by simpa using i4) with x | x | ⟨x1, x2, x3, x4⟩ | ⟨x1, x2, x3, x4, x5⟩
          · omega
          · omega
          · rw [s0, fin_0 (.inr x4), if_neg (by simp), if_neg (by omega), if_neg (by omega), if_neg (by omega), if_neg (by omega)]; rfl
          · rw [s0, fin_2 (by have := sgn_cases B; omega) x5 (.inl rfl), if_neg (by simp), if_pos (by omega), if_neg (by omega), if_neg (by omega), if_neg (by omega)]; rfl
        · by_cases hB : B = 0
          · subst hB
            rcases side_k (A := -C) (B := -D) (kc := lb) hF hA (by simp only [Int.mul_zero, Int.zero_sub] at i3; rw [Int.mul_neg, i3, Int.mul_comm A]; simp) (by simp only [Int.mul_zero, Int.zero_sub] at i4; rw [Int.mul_neg, i4, Int.mul_comm A]; simp) with x | x | ⟨x1, x2, x3, x4⟩ | ⟨x1, x2, x3, x4, x5⟩
            · omega
            · omega
            · rw [sgn_neg, sgn_neg] at x4
              rw [s0, fin_0 (.inr (by omega)), if_neg (by simp), if_neg (by omega), if_neg (by omega), if_neg (by omega), if_neg (by omega)]; rfl
            · rw [sgn_neg, sgn_neg] at x5
              rw [s0, fin_2 (by have := sgn_cases A; omega) (by omega) (.inr (.inl rfl)), if_neg (by simp), if_neg (by omega), if_pos (by omega), if_neg (by omega), if_neg (by omega)]; rfl
          · have c1 := sgn_cases A
            have c2 := sgn_cases B
            have c3 := sgn_cases C
            have c4 := sgn_cases D
            simp only [hA, hB, hC, hD, false_and, if_false]
            have m0 : mx4 0 0 0 0 = 0 := rfl
            rw [m0]
            generalize sgn A = sA at *
            generalize sgn B = sB at *
            generalize sgn C = sC at *
            generalize sgn D = sD at *
            have d1 : sA = 1 ∨ sA = -1 := by omega
            have d2 : sB = 1 ∨ sB = -1 := by omega
            have d3 : sC = 1 ∨ sC = -1 := by omega
            have d4 : sD = 1 ∨ sD = -1 := by omega
            clear c1 c2 c3 c4
            rcases d1 with rfl | rfl <;> rcases d2 with rfl | rfl <;> rcases d3 with rfl | rfl <;> rcases d4 with rfl | rfl <;> rfl
end Go.Proofs.Ytnocdecimcpkfaa

namespace Go.Proofs.Ytnocdecimcpkfaa
open Go.RowKit Go.Sort
attribute [local go_sem] rOper rAt rUpon cell_set sg_i64 sg_u64 alloc_cell alloc_frozen
attribute [local go_sem 10000] pt_eql pt_neq
attribute [local irreducible] rWalk

/-- Three points in their order. -/
structure Tri3 where
  A : Pt
  B : Pt
  C : Pt
def mkT (x y z : Pt) : Tri3 := if cmpP y x < 0 ∨ cmpP z x < 0 then (if cmpP z y < 0 ∨ cmpP x y < 0 then ⟨z, x, y⟩ else ⟨y, z, x⟩) else ⟨x, y, z⟩
/-- The triangle of three points; of a line none. -/
def mk (a b c : Pt) : Tri3 := if ori a b c = 0 then ⟨⟨0, 0⟩, ⟨0, 0⟩, ⟨0, 0⟩⟩ else if ori a b c = 1 then mkT a b c else mkT a c b
theorem mkT_rot {x y z : Pt} (hx : vld x = true) (hy : vld y = true) (hz : vld z = true) (n1 : key x ≠ key y) (n2 : key x ≠ key z) (n3 : key y ≠ key z) :
    (key x < key y ∧ key x < key z ∧ mkT x y z = ⟨x, y, z⟩) ∨ (key y < key x ∧ key y < key z ∧ mkT x y z = ⟨y, z, x⟩) ∨ (key z < key x ∧ key z < key y ∧ mkT x y z = ⟨z, x, y⟩) := by
  unfold mkT
  simp only [cmp_lt hy hx, cmp_lt hz hx, cmp_lt hz hy, cmp_lt hx hy]
  (repeat' split) <;> simp <;> omega
theorem dlt {p q : Pt} (hp : vld p = true) (hq : vld q = true) (h : key p < key q) : decide (cmpP p q < 0) = true := by simpa using (cmp_lt hp hq).2 h
theorem dge {p q : Pt} (hp : vld p = true) (hq : vld q = true) (h : key q ≤ key p) : decide (cmpP p q < 0) = false := by
  have := cmp_lt hp hq
  simp; omega
/-- Are two triangles one? -/
def teq (s u : Tri3) : Bool := peqI s.A.x s.A.y u.A.x u.A.y && (peqI s.B.x s.B.y u.B.x u.B.y && peqI s.C.x s.C.y u.C.x u.C.y)
end Go.Proofs.Ytnocdecimcpkfaa

namespace Go.Proofs.Ytnocdecimcpkfaa
open Go.RowKit Go.Sort
attribute [local go_sem] rOper rAt rUpon cell_set sg_i64 sg_u64 alloc_cell alloc_frozen
attribute [local go_sem 10000] pt_eql pt_neq
attribute [local irreducible] rWalk

def valT (T : Tri3) : Bool := !decide (ori T.A T.B T.C = 0) && teq (mk T.A T.B T.C) T
def hasP (T : Tri3) (p : Pt) : Bool := valT T && (vld p && (decide (0 ≤ ori T.A T.B p) && (decide (0 ≤ ori T.B T.C p) && decide (0 ≤ ori T.C T.A p))))
theorem ht_pos {u : Pt} (h : u ≠ ⟨0, 0⟩) : 0 < ht u := by
  have h1 := sq_pos u.x
  have h2 := sq_pos u.y
  have h3 : ht u ≠ 0 := fun h0 => by
    unfold ht at h0
    have g1 : u.x * u.x = 0 := by omega
    have g2 : u.y * u.y = 0 := by omega
    apply h; rw [Pt.eq_iff]
    exact ⟨by rcases Int.mul_eq_zero.1 g1 with k | k <;> exact k, by rcases Int.mul_eq_zero.1 g2 with k | k <;> exact k⟩
  have : 0 ≤ ht u := by unfold ht; omega
  omega
theorem way_ne {d a : Pt} (h : d ≠ a) : way d a ≠ ⟨0, 0⟩ := fun k => h (by rw [Pt.eq_iff] at k ⊢; unfold way at k; simp only at k; omega)
/-- Who is in a triangle, and no corner, is in its circle. -/
theorem in_circ {a b c d : Pt} (h : ori a b c = 1) (hv : vld d = true) (o1 : 0 ≤ ori a b d) (o2 : 0 ≤ ori b c d) (o3 : 0 ≤ ori c a d) (e1 : d ≠ a) (e2 : d ≠ b) (e3 : d ≠ c) : circ a b c d = 1 := by
  have h0 : ¬ ori a b c = 0 := by omega
  obtain ⟨va, vb, vc⟩ := ori_vld h0
  rw [ori_v va vb hv] at o1
  rw [ori_v vb vc hv] at o2
  rw [ori_v vc va hv] at o3
  rw [ori_v va vb vc, sgn_pos] at h
  have p1 := ht_pos (way_ne e1)
  have p2 := ht_pos (way_ne e2)
  have p3 := ht_pos (way_ne e3)
  have i1 : det a b d = cr (way d a) (way d b) := by unfold det cr way; grind
  have i2 : det b c d = cr (way d b) (way d c) := by unfold det cr way; grind
  have i3 : det c a d = cr (way d c) (way d a) := by unfold det cr way; grind
  have i4 : det a b c = cr (way d b) (way d c) + cr (way d c) (way d a) + cr (way d a) (way d b) := by unfold det cr way; grind
  rw [i1] at o1
  rw [i2] at o2
  rw [i3] at o3
  rw [i4] at h
  have hl : 0 < lft a b c d := by
    unfold lft
    generalize way d a = u at *
    generalize way d b = v at *
    generalize way d c = z at *
    have c1 := sgn_cases (cr u v)
    have c2 := sgn_cases (cr v z)
    have c3 := sgn_cases (cr z u)
    have t1 : 0 ≤ ht u * cr v z := Int.mul_nonneg (by omega) (by omega)
    have t2 : 0 ≤ ht v * cr z u := Int.mul_nonneg (by omega) (by omega)
    have t3 : 0 ≤ ht z * cr u v := Int.mul_nonneg (by omega) (by omega)
    by_cases k1 : 0 < cr v z
    · have := Int.mul_pos p1 k1; omega
    · by_cases k2 : 0 < cr z u
      · have := Int.mul_pos p2 k2; omega
      · have := Int.mul_pos p3 (show 0 < cr u v by omega); omega
  rw [circ_main h0 hv e1 e2 e3, sgn_p hl, if_pos (by omega)]
theorem mk_circ {a b c d : Pt} (h0 : ¬ ori a b c = 0) (hh : hasP (mk a b c) d = true) (e1 : d ≠ a) (e2 : d ≠ b) (e3 : d ≠ c) : circ (mk a b c).A (mk a b c).B (mk a b c).C d = 1 := by
  obtain ⟨va, vb, vc⟩ := ori_vld h0
  obtain ⟨d1, d2, d3⟩ := ori_distinct h0
  have n1 : key a ≠ key b := fun h => d1 (key_inj va vb h).symm
  have n2 : key a ≠ key c := fun h => d2 (key_inj va vc h).symm
  have n3 : key b ≠ key c := fun h => d3 (key_inj vb vc h).symm
  have hb := ori_bd a b c
  unfold hasP at hh
  simp only [Bool.and_eq_true, decide_eq_true_eq] at hh
  obtain ⟨_, hv, o1, o2, o3⟩ := hh
  by_cases h1 : ori a b c = 1
  · rw [show mk a b c = mkT a b c by unfold mk; rw [if_neg h0, if_pos h1]] at o1 o2 o3 ⊢
    rcases mkT_rot va vb vc n1 n2 n3 with ⟨_, _, e⟩ | ⟨_, _, e⟩ | ⟨_, _, e⟩ <;> rw [e] at o1 o2 o3 ⊢
    · exact in_circ h1 hv o1 o2 o3 e1 e2 e3
    · exact in_circ (by rw [ori_cyc]; exact h1) hv o1 o2 o3 e2 e3 e1
    · exact in_circ (by rw [← ori_cyc]; exact h1) hv o1 o2 o3 e3 e1 e2
  · have h2 : ori a c b = 1 := by rw [ori_swap2]; omega
    rw [show mk a b c = mkT a c b by unfold mk; rw [if_neg h0, if_neg h1]] at o1 o2 o3 ⊢
    rcases mkT_rot va vc vb n2 n1 n3.symm with ⟨_, _, e⟩ | ⟨_, _, e⟩ | ⟨_, _, e⟩ <;> rw [e] at o1 o2 o3 ⊢
    · exact in_circ h2 hv o1 o2 o3 e1 e3 e2
    · exact in_circ (by rw [ori_cyc]; exact h2) hv o1 o2 o3 e3 e2 e1
    · exact in_circ (by rw [← ori_cyc]; exact h2) hv o1 o2 o3 e2 e1 e3
end Go.Proofs.Ytnocdecimcpkfaa

namespace Go.Proofs.Ytnocdecimcpkfaa
open Go.RowKit Go.Sort
attribute [local go_sem] rOper rAt rUpon cell_set sg_i64 sg_u64 alloc_cell alloc_frozen
attribute [local go_sem 10000] pt_eql pt_neq
attribute [local irreducible] rWalk

/-- i modulo 3, from 0 on. -/
def plc (i : Int) : Int := i % 3
theorem plc_cases (i : Int) : plc i = 0 ∨ plc i = 1 ∨ plc i = 2 := by unfold plc; omega
theorem place_eq (i : Int) : (wrap64 (i.tmod 3 + 3)).tmod 3 = plc i := by
  have h := @Int.tmod_eq_emod i 3
  have h2 : i.tmod 3 = i % 3 ∨ i.tmod 3 = i % 3 - 3 := by
    split at h
    · left; omega
    · right; simp at h; omega
  rw [show wrap64 (i.tmod 3 + 3) = i.tmod 3 + 3 by rw [w64]; omega, Int.tmod_eq_emod_of_nonneg (by omega)]
  unfold plc; omega
theorem round_any (i : Int) (w : World) :
    Calls Try.prog 31 #[.int .i64 i, .int .i64 3] w fun e w' => e = .returned (.int .i64 (plc i)) ∧ Below w.heap.size w w' := by
  rw [← place_eq]
  go_enter Try.func31, Try.ntmps31
  go_wp2
  go_ret
  exact ⟨rfl, by go_grown⟩
/-- The corner at a place. -/
def crn (T : Tri3) (i : Int) : Pt := if plc i = 0 then T.A else if plc i = 1 then T.B else T.C
theorem crn_plc (T : Tri3) (i : Int) : crn T (plc i) = crn T i := by
  have : plc (plc i) = plc i := by unfold plc; omega
  unfold crn; rw [this]
theorem crn_next (T : Tri3) (i : Int) : crn T (plc i + 1) = crn T (i + 1) := by
  have : plc (plc i + 1) = plc (i + 1) := by unfold plc; omega
  unfold crn; rw [this]
def leq (p q : Pt) : Bool := decide (cmpP p q ≤ 0)
/-- Is its first corner the least? -/
def lds (T : Tri3) : Bool := leq T.A T.B && leq T.A T.C
def valS (T : Tri3) : Bool := decide (0 < ori T.A T.B T.C) && lds T
theorem ori_bd1 {a b c : Pt} (h : decide (0 < ori a b c) = true) : ori a b c = 1 := by
  have := ori_bd a b c
  simp at h; omega
theorem leq_key {p q : Pt} (hp : vld p = true) (hq : vld q = true) : leq p q = decide (key p ≤ key q) := by
  have h := cmp_lt hq hp
  have h2 := cmpP_key hp hq
  have h3 := sgn_cases (key p - key q)
  unfold leq
  by_cases hh : key p ≤ key q
  · rw [decide_eq_true hh, decide_eq_true]; omega
  · rw [decide_eq_false hh, decide_eq_false]; omega
theorem teq_iff {s u : Tri3} : teq s u = true ↔ s = u := by
  unfold teq
  simp only [Bool.and_eq_true, peqI_iff]
  cases s with | mk a b c => cases u with | mk d e f => cases a; cases b; cases c; cases d; cases e; cases f; simp [and_assoc]
theorem Tri3.eq_iff {s u : Tri3} : s = u ↔ s.A = u.A ∧ s.B = u.B ∧ s.C = u.C := by
  cases s; cases u; simp
/-- The two Valids are one. -/
theorem val_eq (T : Tri3) : valT T = valS T := by
  obtain ⟨a, b, c⟩ := T
  unfold valT valS lds
  simp only
  have hb := ori_bd a b c
  by_cases h0 : ori a b c = 0
  · simp [h0]
  · obtain ⟨va, vb, vc⟩ := ori_vld h0
    obtain ⟨d1, d2, d3⟩ := ori_distinct h0
    have n1 : key a ≠ key b := fun h => d1 (key_inj va vb h).symm
    have n2 : key a ≠ key c := fun h => d2 (key_inj va vc h).symm
    have n3 : key b ≠ key c := fun h => d3 (key_inj vb vc h).symm
    rw [leq_key va vb, leq_key va vc, show (!decide (ori a b c = 0)) = true by simp [h0], Bool.true_and]
    rw [Bool.eq_iff_iff, teq_iff]
    by_cases h1 : ori a b c = 1
    · rw [show mk a b c = mkT a b c by unfold mk; rw [if_neg h0, if_pos h1]]
      rcases mkT_rot va vb vc n1 n2 n3 with ⟨x1, x2, e⟩ | ⟨x1, x2, e⟩ | ⟨x1, x2, e⟩ <;> rw [e, Tri3.eq_iff] <;> simp only [Bool.and_eq_true, decide_eq_true_eq]
      · simp; omega
      · exact ⟨fun h => absurd h.1 d1, fun h => by omega⟩
      · exact ⟨fun h => absurd h.1 d2, fun h => by omega⟩
    · have h2 : ori a b c = -1 := by omega
      rw [show mk a b c = mkT a c b by unfold mk; rw [if_neg h0, if_neg h1]]
      rcases mkT_rot va vc vb n2 n1 n3.symm with ⟨x1, x2, e⟩ | ⟨x1, x2, e⟩ | ⟨x1, x2, e⟩ <;> rw [e, Tri3.eq_iff] <;> simp only [Bool.and_eq_true, decide_eq_true_eq]
      · exact ⟨fun h => absurd h.2.1 d3, fun h => by omega⟩
      · exact ⟨fun h => absurd h.1 d2, fun h => by omega⟩
      · exact ⟨fun h => absurd h.1 d1, fun h => by omega⟩
end Go.Proofs.Ytnocdecimcpkfaa
