/- Plain mathematics: the two ways to tell how segments meet are one; from whichever end, whichever first. -/
import Derived.Test.YtijdbddjhnjcdaaExP
namespace Go.Proofs.Ytijdbddjhnjcdaa
open Go.RowKit

theorem peqI_of {p q : Pt} (b : Bool) (h : peqI p.x p.y q.x q.y = b) : (b = true ∧ p = q) ∨ (b = false ∧ p ≠ q) := by
  cases b with
  | true => exact .inl ⟨rfl, peqI_eq.1 h⟩
  | false => exact .inr ⟨rfl, peqI_ne.1 h⟩
/-- Four points, two segments. -/
structure Seg2 (a b c d : Pt) : Prop where
  va : vld a = true
  vb : vld b = true
  vc : vld c = true
  vd : vld d = true
  nab : a ≠ b
  ncd : c ≠ d
theorem meetS_none {a b c d : Pt} (h : ¬ Seg2 a b c d) : meetS a b c d = 0 := by
  unfold meetS
  cases va : vld a with
  | false => rfl
  | true => cases vb : vld b with
    | false => rfl
    | true => cases vc : vld c with
      | false => rfl
      | true => cases vd : vld d with
        | false => rfl
        | true =>
          by_cases e1 : a = b
          · rw [if_neg (by simp), if_neg (by simp), if_neg (by simp), if_neg (by simp), if_pos (pp e1)]
          · by_cases e2 : c = d
            · rw [if_neg (by simp), if_neg (by simp), if_neg (by simp), if_neg (by simp), if_neg (np e1), if_pos (pp e2)]
            · exact absurd ⟨va, vb, vc, vd, e1, e2⟩ h
theorem meetR_none {a b c d : Pt} (h : ¬ Seg2 a b c d) : meetR a b c d = 0 := by
  unfold meetR
  cases va : vld a with
  | false => rfl
  | true => cases vb : vld b with
    | false => rfl
    | true => cases vc : vld c with
      | false => rfl
      | true => cases vd : vld d with
        | false => rfl
        | true =>
          by_cases e1 : a = b
          · rw [if_neg (by simp), if_neg (by simp), if_neg (by simp), if_neg (by simp), if_pos (pp e1)]
          · by_cases e2 : c = d
            · rw [if_neg (by simp), if_neg (by simp), if_neg (by simp), if_neg (by simp), if_neg (np e1), if_pos (pp e2)]
            · exact absurd ⟨va, vb, vc, vd, e1, e2⟩ h
section
variable {a b c d : Pt} (s : Seg2 a b c d)
include s
theorem meetS_line (h : det a b c = 0 ∧ det a b d = 0) : meetS a b c d = mil a b c d := by
  unfold meetS
  rw [if_neg (by rw [s.va]; simp), if_neg (by rw [s.vb]; simp), if_neg (by rw [s.vc]; simp), if_neg (by rw [s.vd]; simp), if_neg (np s.nab), if_neg (np s.ncd),
    if_pos ⟨by rw [ori_v s.va s.vb s.vc, h.1]; rfl, by rw [ori_v s.va s.vb s.vd, h.2]; rfl⟩]
theorem not_line (h : ¬ (det a b c = 0 ∧ det a b d = 0)) : ¬ (ori a b c = 0 ∧ ori a b d = 0) := fun k => h ⟨by rw [← sgn_zero, ← ori_v s.va s.vb s.vc]; exact k.1, by rw [← sgn_zero, ← ori_v s.va s.vb s.vd]; exact k.2⟩
theorem meetS_end (h : ¬ (det a b c = 0 ∧ det a b d = 0)) (e : a = c ∨ a = d ∨ b = c ∨ b = d) : meetS a b c d = 0 := by
  unfold meetS
  rw [if_neg (by rw [s.va]; simp), if_neg (by rw [s.vb]; simp), if_neg (by rw [s.vc]; simp), if_neg (by rw [s.vd]; simp), if_neg (np s.nab), if_neg (np s.ncd), if_neg (not_line s h)]
  by_cases e1 : a = c
  · rw [if_pos (pp e1)]
  rw [if_neg (np e1)]
  by_cases e2 : a = d
  · rw [if_pos (pp e2)]
  rw [if_neg (np e2)]
  by_cases e3 : b = c
  · rw [if_pos (pp e3)]
  rw [if_neg (np e3)]
  by_cases e4 : b = d
  · rw [if_pos (pp e4)]
  rcases e with e | e | e | e
  · exact absurd e e1
  · exact absurd e e2
  · exact absurd e e3
  · exact absurd e e4
theorem meetS_fin (h : ¬ (det a b c = 0 ∧ det a b d = 0)) (e : ¬ (a = c ∨ a = d ∨ b = c ∨ b = d)) : meetS a b c d = fin (sgn (det c d a)) (sgn (det c d b)) (sgn (det a b c)) (sgn (det a b d)) := by
  unfold meetS
  rw [if_neg (by rw [s.va]; simp), if_neg (by rw [s.vb]; simp), if_neg (by rw [s.vc]; simp), if_neg (by rw [s.vd]; simp), if_neg (np s.nab), if_neg (np s.ncd), if_neg (not_line s h),
    if_neg (np (fun k => e (.inl k))), if_neg (np (fun k => e (.inr (.inl k)))), if_neg (np (fun k => e (.inr (.inr (.inl k))))), if_neg (np (fun k => e (.inr (.inr (.inr k))))),
    ori_v s.va s.vb s.vc, ori_v s.va s.vb s.vd, ori_v s.vc s.vd s.va, ori_v s.vc s.vd s.vb]
theorem meetR_line (h : det a b c = 0 ∧ det a b d = 0) : meetR a b c d = lap a b c d := by
  unfold meetR
  rw [if_neg (by rw [s.va]; simp), if_neg (by rw [s.vb]; simp), if_neg (by rw [s.vc]; simp), if_neg (by rw [s.vd]; simp), if_neg (np s.nab), if_neg (np s.ncd),
    if_pos ⟨by rw [ori_v s.va s.vb s.vc, h.1]; rfl, by rw [ori_v s.va s.vb s.vd, h.2]; rfl⟩]
theorem meetR_main (h : ¬ (det a b c = 0 ∧ det a b d = 0)) : meetR a b c d = if sgn (det a b c) * sgn (det a b d) < 0 ∧ sgn (det c d a) * sgn (det c d b) < 0 then 1 else mx4 (tch a c d) (tch b c d) (tch c a b) (tch d a b) := by
  unfold meetR
  rw [if_neg (by rw [s.va]; simp), if_neg (by rw [s.vb]; simp), if_neg (by rw [s.vc]; simp), if_neg (by rw [s.vd]; simp), if_neg (np s.nab), if_neg (np s.ncd), if_neg (not_line s h),
    ori_v s.va s.vb s.vc, ori_v s.va s.vb s.vd, ori_v s.vc s.vd s.va, ori_v s.vc s.vd s.vb]
/-- All that is known of the four sides and the four places. -/
theorem key_n : key a ≠ key b := fun h => s.nab (key_inj s.va s.vb h)
theorem key_n2 : key c ≠ key d := fun h => s.ncd (key_inj s.vc s.vd h)
end
theorem lo2_key {p q : Pt} (hp : vld p = true) (hq : vld q = true) : vld (lo2 p q) = true ∧ key (lo2 p q) = min (key p) (key q) := by
  unfold lo2; rw [cmpP_key hq hp]
  have := sgn_cases (key q - key p)
  split
  · exact ⟨hq, by omega⟩
  · exact ⟨hp, by omega⟩
theorem hi2_key {p q : Pt} (hp : vld p = true) (hq : vld q = true) : vld (hi2 p q) = true ∧ key (hi2 p q) = max (key p) (key q) := by
  unfold hi2; rw [cmpP_key hq hp]
  have := sgn_cases (key q - key p)
  split
  · exact ⟨hp, by omega⟩
  · exact ⟨hq, by omega⟩
theorem rl_key {p q : Pt} (hp : vld p = true) (hq : vld q = true) : vld (rl p q) = true ∧ key (rl p q) = min (key p) (key q) := by
  unfold rl; rw [cmpP_key hp hq]
  have := sgn_cases (key p - key q)
  split
  · exact ⟨hp, by omega⟩
  · exact ⟨hq, by omega⟩
theorem rg_key {p q : Pt} (hp : vld p = true) (hq : vld q = true) : vld (rg p q) = true ∧ key (rg p q) = max (key p) (key q) := by
  unfold rg; rw [cmpP_key hp hq]
  have := sgn_cases (key p - key q)
  split
  · exact ⟨hq, by omega⟩
  · exact ⟨hp, by omega⟩
theorem cmp_lt {p q : Pt} (hp : vld p = true) (hq : vld q = true) : cmpP p q < 0 ↔ key p < key q := by
  rw [cmpP_key hp hq]; have := sgn_cases (key p - key q); omega
theorem mil_key {a b c d : Pt} (s : Seg2 a b c d) : mil a b c d = if min (key a) (key b) < max (key c) (key d) ∧ min (key c) (key d) < max (key a) (key b) then 3 else 0 := by
  obtain ⟨u1, u2⟩ := lo2_key s.va s.vb
  obtain ⟨u3, u4⟩ := hi2_key s.va s.vb
  obtain ⟨u5, u6⟩ := lo2_key s.vc s.vd
  obtain ⟨u7, u8⟩ := hi2_key s.vc s.vd
  unfold mil
  simp only [cmp_lt u1 u7, cmp_lt u5 u3, u2, u4, u6, u8]
  (repeat' split) <;> omega
theorem lap_key {a b c d : Pt} (s : Seg2 a b c d) : lap a b c d = if min (key a) (key b) < max (key c) (key d) ∧ min (key c) (key d) < max (key a) (key b) then 3 else 0 := by
  obtain ⟨u1, u2⟩ := rl_key s.va s.vb
  obtain ⟨u3, u4⟩ := rg_key s.va s.vb
  obtain ⟨u5, u6⟩ := rl_key s.vc s.vd
  obtain ⟨u7, u8⟩ := rg_key s.vc s.vd
  obtain ⟨t1, t2⟩ := rg_key u1 u5
  obtain ⟨t3, t4⟩ := rl_key u3 u7
  have n1 := key_n s
  have n2 := key_n2 s
  unfold lap
  simp only [cmp_lt t1 t3, t2, t4, u2, u4, u6, u8]
  (repeat' split) <;> omega
theorem fin_0 {sA sB sC sD : Int} (h : sA = sB ∨ sC = sD) : fin sA sB sC sD = 0 := by unfold fin; (repeat' split) <;> omega
theorem fin_2 {sA sB sC sD : Int} (h1 : sA ≠ sB) (h2 : sC ≠ sD) (h : sA = 0 ∨ sB = 0 ∨ sC = 0 ∨ sD = 0) : fin sA sB sC sD = 2 := by unfold fin; (repeat' split) <;> omega
theorem fin_1 {sA sB sC sD : Int} (h1 : sA ≠ sB) (h2 : sC ≠ sD) (h : ¬ (sA = 0 ∨ sB = 0 ∨ sC = 0 ∨ sD = 0)) : fin sA sB sC sD = 1 := by unfold fin; (repeat' split) <;> omega
/-- One end on the other's line: the other segment's sides, and the end's place. -/
theorem side_k {E A B kc D : Int} (hE : 0 < E) (hD : D ≠ 0) (h1 : E * A = kc * D) (h2 : E * B = (kc - E) * D) :
    (kc = 0 ∧ A = 0 ∧ B ≠ 0) ∨ (kc = E ∧ B = 0 ∧ A ≠ 0) ∨ ((kc < 0 ∨ E < kc) ∧ A ≠ 0 ∧ B ≠ 0 ∧ sgn A = sgn B) ∨ (0 < kc ∧ kc < E ∧ A ≠ 0 ∧ B ≠ 0 ∧ sgn A ≠ sgn B) := by
  have s1 := sgn_scale hE h1
  have s2 := sgn_scale hE h2
  have c1 := sgn_cases kc
  have c2 := sgn_cases (kc - E)
  have c3 := sgn_cases D
  have c4 := sgn_cases A
  have c5 := sgn_cases B
  rcases c1 with ⟨e1, t1⟩ | ⟨e1, t1⟩ | ⟨e1, t1⟩ <;> rcases c2 with ⟨e2, t2⟩ | ⟨e2, t2⟩ | ⟨e2, t2⟩ <;> rw [e1] at s1 <;> rw [e2] at s2 <;> omega
theorem s0 : sgn 0 = 0 := rfl
theorem kk_same (a b : Pt) : kk a b a = 0 := by unfold kk; simp
theorem kk_far (a b : Pt) : kk a b b = EE a b := rfl
theorem det_1 (a b : Pt) : det a b a = 0 := by unfold det; grind
theorem det_2 (a b : Pt) : det a b b = 0 := by unfold det; grind
theorem meet_eq (a b c d : Pt) : meetS a b c d = meetR a b c d := by
  by_cases s : Seg2 a b c d
  case neg => rw [meetS_none s, meetR_none s]
  case pos =>
  by_cases hl : det a b c = 0 ∧ det a b d = 0
  · rw [meetS_line s hl, meetR_line s hl, mil_key s, lap_key s]
  rw [meetR_main s hl, tch_k s.va s.vc s.vd s.ncd, tch_k s.vb s.vc s.vd s.ncd, tch_k s.vc s.va s.vb s.nab, tch_k s.vd s.va s.vb s.nab]
  have hE := EE_pos s.nab
  have hF := EE_pos s.ncd
  have i1 := I1 a b c d
  have i2 := I2 a b c d
  have i3 := I1 c d a b
  have i4 := I2 c d a b
  -- ends in common
  have e1 : a = c → det c d a = 0 ∧ det a b c = 0 ∧ kk c d a = 0 ∧ kk a b c = 0 := by rintro rfl; exact ⟨det_1 _ _, det_1 _ _, kk_same _ _, kk_same _ _⟩
  have e2 : a = d → det c d a = 0 ∧ det a b d = 0 ∧ kk c d a = EE c d ∧ kk a b d = 0 := by rintro rfl; exact ⟨det_2 _ _, det_1 _ _, kk_far _ _, kk_same _ _⟩
  have e3 : b = c → det c d b = 0 ∧ det a b c = 0 ∧ kk c d b = 0 ∧ kk a b c = EE a b := by rintro rfl; exact ⟨det_1 _ _, det_2 _ _, kk_same _ _, kk_far _ _⟩
  have e4 : b = d → det c d b = 0 ∧ det a b d = 0 ∧ kk c d b = EE c d ∧ kk a b d = EE a b := by rintro rfl; exact ⟨det_2 _ _, det_2 _ _, kk_far _ _, kk_far _ _⟩
  have f1 : det a b c = 0 → kk a b c = 0 → a = c := fun h k => by
    obtain ⟨c1, c2⟩ := coll h; rw [k] at c1 c2; simp only [Int.zero_mul] at c1 c2
    rw [Pt.eq_iff]; rcases Int.mul_eq_zero.1 c1 with h1 | h1 <;> rcases Int.mul_eq_zero.1 c2 with h2 | h2 <;> omega
  have f2 : det a b d = 0 → kk a b d = 0 → a = d := fun h k => by
    obtain ⟨c1, c2⟩ := coll h; rw [k] at c1 c2; simp only [Int.zero_mul] at c1 c2
    rw [Pt.eq_iff]; rcases Int.mul_eq_zero.1 c1 with h1 | h1 <;> rcases Int.mul_eq_zero.1 c2 with h2 | h2 <;> omega
  have f3 : det a b c = 0 → kk a b c = EE a b → b = c := fun h k => by
    obtain ⟨c1, c2⟩ := coll2 h; rw [k] at c1 c2; simp only [Int.sub_self, Int.zero_mul] at c1 c2
    rw [Pt.eq_iff]; rcases Int.mul_eq_zero.1 c1 with h1 | h1 <;> rcases Int.mul_eq_zero.1 c2 with h2 | h2 <;> omega
  have f4 : det a b d = 0 → kk a b d = EE a b → b = d := fun h k => by
    obtain ⟨c1, c2⟩ := coll2 h; rw [k] at c1 c2; simp only [Int.sub_self, Int.zero_mul] at c1 c2
    rw [Pt.eq_iff]; rcases Int.mul_eq_zero.1 c1 with h1 | h1 <;> rcases Int.mul_eq_zero.1 c2 with h2 | h2 <;> omega
  by_cases hs : a = c ∨ a = d ∨ b = c ∨ b = d
  · rw [meetS_end s hl hs]
    clear f1 f2 f3 f4
    generalize det a b c = C at *
    generalize det a b d = D at *
    generalize det c d a = A at *
    generalize det c d b = B at *
    generalize kk a b c = kc at *
    generalize kk a b d = kd at *
    generalize kk c d a = la at *
    generalize kk c d b = lb at *
    generalize EE a b = E at *
    generalize EE c d = F at *
    rcases hs with h | h | h | h
    · obtain ⟨g1, g2, g3, g4⟩ := e1 h
      subst g1 g2 g3 g4
      have hD : D ≠ 0 := fun k => hl ⟨rfl, k⟩
      have hB : B ≠ 0 := by rcases side_k (A := 0) (B := B) (kc := 0) hE hD (by simp) (by simpa using i2) with x | x | x | x <;> omega
      simp [sgn, mx4, hD, hB]
    · obtain ⟨g1, g2, g3, g4⟩ := e2 h
      subst g1 g2 g3 g4
      have hC : C ≠ 0 := fun k => hl ⟨k, rfl⟩
      have hB : B ≠ 0 := by
        rintro rfl
        simp only [Int.mul_zero, Int.zero_sub] at i2
        have := Int.mul_eq_zero.1 (show C * -E = 0 by omega)
        omega
      simp [sgn, mx4, hC, hB]
    · obtain ⟨g1, g2, g3, g4⟩ := e3 h
      subst g1 g2 g3 g4
      have hD : D ≠ 0 := fun k => hl ⟨rfl, k⟩
      have hA : A ≠ 0 := by
        rintro rfl
        simp only [Int.mul_zero, Int.zero_mul, Int.sub_zero] at i1
        have := Int.mul_eq_zero.1 i1.symm
        omega
      simp [sgn, mx4, hD, hA]
    · obtain ⟨g1, g2, g3, g4⟩ := e4 h
      subst g1 g2 g3 g4
      have hC : C ≠ 0 := fun k => hl ⟨k, rfl⟩
      have hA : A ≠ 0 := by
        rintro rfl
        simp only [Int.mul_zero, Int.zero_sub] at i1
        have := Int.mul_eq_zero.1 (show C * kd = 0 by omega)
        omega
      simp [sgn, mx4, hC, hA]
  · rw [meetS_fin s hl hs]
    have n1 : ¬ a = c := fun h => hs (.inl h)
    have n2 : ¬ a = d := fun h => hs (.inr (.inl h))
    have n3 : ¬ b = c := fun h => hs (.inr (.inr (.inl h)))
    have n4 : ¬ b = d := fun h => hs (.inr (.inr (.inr h)))
    clear e1 e2 e3 e4 hs
    generalize det a b c = C at *
    generalize det a b d = D at *
    generalize det c d a = A at *
    generalize det c d b = B at *
    generalize kk a b c = kc at *
    generalize kk a b d = kd at *
    generalize kk c d a = la at *
    generalize kk c d b = lb at *
    generalize EE a b = E at *
    generalize EE c d = F at *
    by_cases hC : C = 0
    · subst hC
      have hD : D ≠ 0 := fun k => hl ⟨rfl, k⟩
      have k1 : kc ≠ 0 := fun k => n1 (f1 rfl k)
      have k2 : kc ≠ E := fun k => n3 (f3 rfl k)
      rcases side_k (A := A) (B := B) hE hD (by simpa using i1) (by simpa using i2) with x | x | ⟨x1, x2, x3, x4⟩ | ⟨x1, x2, x3, x4, x5⟩
      · omega
      · omega
      · rw [s0, fin_0 (.inl x4), if_neg (by simp), if_neg (by omega), if_neg (by omega), if_neg (by omega), if_neg (by omega)]; rfl
      · rw [s0, fin_2 x5 (by have := sgn_cases D; omega) (.inr (.inr (.inl rfl))), if_neg (by simp), if_neg (by omega), if_neg (by omega), if_pos (by omega), if_neg (by omega)]; rfl
    · by_cases hD : D = 0
      · subst hD
        have k1 : kd ≠ 0 := fun k => n2 (f2 rfl k)
        have k2 : kd ≠ E := fun k => n4 (f4 rfl k)
        rcases side_k (A := -A) (B := -B) (kc := kd) hE hC (by simp only [Int.mul_zero, Int.zero_sub] at i1; rw [Int.mul_neg, i1, Int.mul_comm C]; simp) (by simp only [Int.mul_zero, Int.zero_sub] at i2; rw [Int.mul_neg, i2, Int.mul_comm C]; simp) with x | x | ⟨x1, x2, x3, x4⟩ | ⟨x1, x2, x3, x4, x5⟩
        · omega
        · omega
        · rw [sgn_neg, sgn_neg] at x4
          rw [s0, fin_0 (.inl (by omega)), if_neg (by simp), if_neg (by omega), if_neg (by omega), if_neg (by omega), if_neg (by omega)]; rfl
        · rw [sgn_neg, sgn_neg] at x5
          rw [s0, fin_2 (by omega) (by have := sgn_cases C; omega) (.inr (.inr (.inr rfl))), if_neg (by simp), if_neg (by omega), if_neg (by omega), if_neg (by omega), if_pos (by omega)]; rfl
      · by_cases hA : A = 0
        · subst hA
          have hB : B ≠ 0 := by
            rintro rfl
            simp only [Int.mul_zero, Int.zero_mul, Int.sub_zero] at i3
            rcases Int.mul_eq_zero.1 i3 with h | h <;> omega
          rcases side_k (A := C) (B := D) (kc := la) hF hB (by simpa using i3) (by simpa using i4) with x | x | ⟨x1, x2, x3, x4⟩ | ⟨x1, x2, x3, x4, x5⟩
          · omega
          · omega
          · rw [s0, fin_0 (.inr x4), if_neg (by simp), if_neg (by omega), if_neg (by omega), if_neg (by omega), if_neg (by omega)]; rfl
          · rw [s0, fin_2 (by have := sgn_cases B; omega) x5 (.inl rfl), if_neg (by simp), if_pos (by omega), if_neg (by omega), if_neg (by omega), if_neg (by omega)]; rfl
        · by_cases hB : B = 0
          · subst hB
            rcases side_k (A := -C) (B := -D) (kc := lb) hF hA (by simp only [Int.mul_zero, Int.zero_sub] at i3; rw [Int.mul_neg, i3, Int.mul_comm A]; simp) (by simp only [Int.mul_zero, Int.zero_sub] at i4; rw [Int.mul_neg, i4, Int.mul_comm A]; simp) with x | x | ⟨x1, x2, x3, x4⟩ | ⟨x1, x2, x3, x4, x5⟩
            · omega
            · omega
            · rw [sgn_neg, sgn_neg] at x4
              rw [s0, fin_0 (.inr (by omega)), if_neg (by simp), if_neg (by omega), if_neg (by omega), if_neg (by omega), if_neg (by omega)]; rfl
            · rw [sgn_neg, sgn_neg] at x5
              rw [s0, fin_2 (by have := sgn_cases A; omega) (by omega) (.inr (.inl rfl)), if_neg (by simp), if_neg (by omega), if_pos (by omega), if_neg (by omega), if_neg (by omega)]; rfl
          · have c1 := sgn_cases A
            have c2 := sgn_cases B
            have c3 := sgn_cases C
            have c4 := sgn_cases D
            simp only [hA, hB, hC, hD, false_and, if_false]
            have m0 : mx4 0 0 0 0 = 0 := rfl
            rw [m0]
            generalize sgn A = sA at *
            generalize sgn B = sB at *
            generalize sgn C = sC at *
            generalize sgn D = sD at *
            have d1 : sA = 1 ∨ sA = -1 := by omega
            have d2 : sB = 1 ∨ sB = -1 := by omega
            have d3 : sC = 1 ∨ sC = -1 := by omega
            have d4 : sD = 1 ∨ sD = -1 := by omega
            clear c1 c2 c3 c4
            rcases d1 with rfl | rfl <;> rcases d2 with rfl | rfl <;> rcases d3 with rfl | rfl <;> rcases d4 with rfl | rfl <;> rfl
end Go.Proofs.Ytijdbddjhnjcdaa
