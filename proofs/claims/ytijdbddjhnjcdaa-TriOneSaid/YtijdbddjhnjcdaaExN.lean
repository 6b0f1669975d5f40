/- Plain mathematics of points of the grid: one order, sides, circles. -/
import Derived.Test.YtijdbddjhnjcdaaExF
import Derived.Test.YtijdbddjhnjcdaaExJ
namespace Go.Proofs.Ytijdbddjhnjcdaa
open Go.RowKit

theorem sgn_neg (n : Int) : sgn (-n) = -sgn n := by unfold sgn; (repeat' split) <;> omega
theorem sgn_n {n : Int} (h : n < 0) : sgn n = -1 := by unfold sgn; rw [if_pos h]
theorem sgn_p {n : Int} (h : 0 < n) : sgn n = 1 := by unfold sgn; rw [if_neg (by omega), if_pos h]
theorem sgn_mul (a b : Int) : sgn (a * b) = sgn a * sgn b := by
  rcases Int.lt_trichotomy a 0 with ha | ha | ha <;> rcases Int.lt_trichotomy b 0 with hb | hb | hb
  · rw [sgn_n ha, sgn_n hb, sgn_p (Int.mul_pos_of_neg_of_neg ha hb)]; rfl
  · subst hb; simp [sgn]
  · rw [sgn_n ha, sgn_p hb, sgn_n (Int.mul_neg_of_neg_of_pos ha hb)]; rfl
  · subst ha; simp [sgn]
  · subst ha; simp [sgn]
  · subst ha; simp [sgn]
  · rw [sgn_p ha, sgn_n hb, sgn_n (Int.mul_neg_of_pos_of_neg ha hb)]; rfl
  · subst hb; simp [sgn]
  · rw [sgn_p ha, sgn_p hb, sgn_p (Int.mul_pos ha hb)]; rfl
theorem sgn_zero {n : Int} : sgn n = 0 ↔ n = 0 := by unfold sgn; (repeat' split) <;> omega
theorem sgn_pos {n : Int} : sgn n = 1 ↔ 0 < n := by unfold sgn; (repeat' split) <;> omega
theorem sgn_mone {n : Int} : sgn n = -1 ↔ n < 0 := by unfold sgn; (repeat' split) <;> omega
theorem sgn_cases (n : Int) : sgn n = -1 ∧ n < 0 ∨ sgn n = 0 ∧ n = 0 ∨ sgn n = 1 ∧ 0 < n := by unfold sgn; (repeat' split) <;> omega
theorem ori_v {a b c : Pt} (ha : vld a = true) (hb : vld b = true) (hc : vld c = true) : ori a b c = sgn (det a b c) := by unfold ori; rw [if_pos ⟨ha, hb, hc⟩]
theorem det_cyc (a b c : Pt) : det b c a = det a b c := by unfold det; grind
theorem det_swap (a b c : Pt) : det b a c = -det a b c := by unfold det; grind
theorem ori_cyc (a b c : Pt) : ori b c a = ori a b c := by
  unfold ori; rw [det_cyc]
  by_cases h : vld a = true ∧ vld b = true ∧ vld c = true
  · rw [if_pos h, if_pos ⟨h.2.1, h.2.2, h.1⟩]
  · rw [if_neg h, if_neg (fun k => h ⟨k.2.2, k.1, k.2.1⟩)]
theorem ori_swap (a b c : Pt) : ori b a c = -ori a b c := by
  unfold ori; rw [det_swap, sgn_neg]
  by_cases h : vld a = true ∧ vld b = true ∧ vld c = true
  · rw [if_pos h, if_pos ⟨h.2.1, h.1, h.2.2⟩]
  · rw [if_neg h, if_neg (fun k => h ⟨k.2.1, k.1, k.2.2⟩)]; rfl
theorem ori_swap2 (a b c : Pt) : ori a c b = -ori a b c := by
  rw [← ori_cyc a c b, ori_swap b c a, ori_cyc a b c]
theorem lft_cyc (a b c d : Pt) : lft b c a d = lft a b c d := by unfold lft; omega
theorem lft_swap (a b c d : Pt) : lft b a c d = -lft a b c d := by unfold lft ht cr; grind
theorem lft_swap2 (a b c d : Pt) : lft a c b d = -lft a b c d := by
  rw [← lft_cyc a c b, lft_swap b c a, lft_cyc a b c]
theorem lft_last (a b c d : Pt) : lft a b d c = -lft a b c d := by unfold lft ht cr way; grind
/-- One number for a point of the grid, in the points' order. -/
def key (p : Pt) : Int := p.x * 16777216 + p.y
theorem cmpP_key {p q : Pt} (hp : vld p = true) (hq : vld q = true) : cmpP p q = sgn (key p - key q) := by
  rw [vld_iff] at hp hq
  unfold cmpP cmpN key
  unfold sgn
  (repeat' split) <;> omega
theorem key_inj {p q : Pt} (hp : vld p = true) (hq : vld q = true) (h : key p = key q) : p = q := by
  rw [vld_iff] at hp hq
  rw [Pt.eq_iff]
  unfold key at h; omega
theorem lsr_vld {p m : Pt} (hp : vld p = true) (hm : vld m = true) : vld (lsr p m) = true := by unfold lsr; split <;> assumption
theorem lsr_key {p m : Pt} (hp : vld p = true) (hm : vld m = true) : key (lsr p m) = min (key p) (key m) := by
  unfold lsr
  rw [cmpP_key hp hm]
  have := sgn_cases (key p - key m)
  split <;> omega
theorem peqI_eq {p q : Pt} : peqI p.x p.y q.x q.y = true ↔ p = q := by rw [peqI_iff, Pt.eq_iff]
theorem peqI_ne {p q : Pt} : peqI p.x p.y q.x q.y = false ↔ p ≠ q := by rw [← Bool.not_eq_true, peqI_eq]
theorem pp {p q : Pt} (h : p = q) : peqI p.x p.y q.x q.y = true := peqI_eq.2 h
theorem np {p q : Pt} (h : ¬ p = q) : ¬ peqI p.x p.y q.x q.y = true := fun k => h (peqI_eq.1 k)
theorem lsr_or (p m : Pt) : lsr p m = p ∨ lsr p m = m := by unfold lsr; split <;> simp
theorem min4_or (a b c d : Pt) : min4 a b c d = a ∨ min4 a b c d = b ∨ min4 a b c d = c ∨ min4 a b c d = d := by
  unfold min4
  rcases lsr_or d (lsr c (lsr b a)) with h | h <;> rw [h]
  · simp
  rcases lsr_or c (lsr b a) with h | h <;> rw [h]
  · simp
  rcases lsr_or b a with h | h <;> rw [h] <;> simp
section
variable {a b c d : Pt} (ha : vld a = true) (hb : vld b = true) (hc : vld c = true) (hd : vld d = true)
include ha hb hc hd
theorem min4_vld : vld (min4 a b c d) = true := lsr_vld hd (lsr_vld hc (lsr_vld hb ha))
theorem min4_key : key (min4 a b c d) = min (key d) (min (key c) (min (key b) (key a))) := by
  unfold min4; rw [lsr_key hd (lsr_vld hc (lsr_vld hb ha)), lsr_key hc (lsr_vld hb ha), lsr_key hb ha]
theorem min4_r : lsr c (lsr b (lsr a d)) = min4 a b c d := by
  refine key_inj (lsr_vld hc (lsr_vld hb (lsr_vld ha hd))) (min4_vld ha hb hc hd) ?_
  rw [min4_key ha hb hc hd, lsr_key hc (lsr_vld hb (lsr_vld ha hd)), lsr_key hb (lsr_vld ha hd), lsr_key ha hd]
  omega
theorem min4_swap : min4 b a c d = min4 a b c d := by
  refine key_inj (min4_vld hb ha hc hd) (min4_vld ha hb hc hd) ?_
  rw [min4_key ha hb hc hd, min4_key hb ha hc hd]; omega
theorem min4_cyc : min4 b c a d = min4 a b c d := by
  refine key_inj (min4_vld hb hc ha hd) (min4_vld ha hb hc hd) ?_
  rw [min4_key ha hb hc hd, min4_key hb hc ha hd]; omega
theorem min4_last : min4 a b d c = min4 a b c d := by
  refine key_inj (min4_vld ha hb hd hc) (min4_vld ha hb hc hd) ?_
  rw [min4_key ha hb hc hd, min4_key ha hb hd hc]; omega
end
/-- The whole of a circle where there is one and the point is none of the corners. -/
theorem circ_main {a b c d : Pt} (h0 : ¬ ori a b c = 0) (hv : vld d = true) (e1 : d ≠ a) (e2 : d ≠ b) (e3 : d ≠ c) :
    circ a b c d = if ¬ sgn (lft a b c d) = 0 then sgn (lft a b c d) else tie a b c d (min4 a b c d) (ori a b c) := by
  unfold circ
  rw [if_neg h0, if_neg (by rw [hv]; simp), if_neg (np e1), if_neg (np e2), if_neg (np e3)]
theorem circ_none {a b c d : Pt} (h : ori a b c = 0 ∨ vld d = false ∨ d = a ∨ d = b ∨ d = c) : circ a b c d = 0 := by
  unfold circ
  rcases h with h | h | h | h | h
  · rw [if_pos h]
  · simp [h]
  all_goals (have k := pp h; simp [k])
theorem ori_distinct {a b c : Pt} (h : ¬ ori a b c = 0) : b ≠ a ∧ c ≠ a ∧ c ≠ b := by
  refine ⟨?_, ?_, ?_⟩
  all_goals (rintro rfl; apply h; unfold ori; split)
  all_goals first | rfl | (rw [sgn_zero]; unfold det; grind)
theorem tie_swap {a b c d m : Pt} {o : Int} (n1 : b ≠ a) : tie b a c d m (-o) = -tie a b c d m o := by
  unfold tie
  by_cases h1 : m = d
  · rw [if_pos (pp h1), if_pos (pp h1)]
  rw [if_neg (np h1), if_neg (np h1)]
  by_cases h2 : m = a
  · have h3 : ¬ m = b := by rw [h2]; exact n1.symm
    rw [if_neg (np h3), if_pos (pp h2), if_pos (pp h2)]
    rw [ori_swap d b c]
  · rw [if_neg (np h2) (c := peqI m.x m.y a.x a.y = true) (e := if peqI m.x m.y b.x b.y = true then -ori a d c else -ori a b d)]
    by_cases h3 : m = b
    · rw [if_pos (pp h3), if_pos (pp h3), ori_swap a d c]
    · rw [if_neg (np h3), if_neg (np h2), if_neg (np h3), ori_swap a b d]
theorem tie_cyc {a b c d m : Pt} {o : Int} (hm : m = a ∨ m = b ∨ m = c ∨ m = d) (n1 : b ≠ a) (n2 : c ≠ a) (n3 : c ≠ b) : tie b c a d m o = tie a b c d m o := by
  unfold tie
  by_cases h1 : m = d
  · rw [if_pos (pp h1), if_pos (pp h1)]
  rw [if_neg (np h1), if_neg (np h1)]
  rcases hm with h | h | h | h
  · subst h; rw [if_neg (np n1.symm), if_neg (np n2.symm), if_pos (pp rfl)]
    rw [← ori_cyc d b c]
  · subst h; rw [if_pos (pp rfl), if_neg (np n1), if_pos (pp rfl)]
    rw [ori_cyc a d c]
  · subst h; rw [if_neg (np n3), if_pos (pp rfl), if_neg (np n2), if_neg (np n3)]
    rw [ori_cyc a b d]
  · exact absurd h h1
theorem circ_swap (a b c d : Pt) : circ b a c d = -circ a b c d := by
  by_cases h0 : ori a b c = 0
  · rw [circ_none (.inl h0), circ_none (.inl (by rw [ori_swap, h0]; rfl))]; rfl
  cases hv : vld d with
  | false => rw [circ_none (.inr (.inl hv)), circ_none (.inr (.inl hv))]; rfl
  | true =>
  by_cases e1 : d = a
  · rw [circ_none (.inr (.inr (.inl e1))), circ_none (.inr (.inr (.inr (.inl e1))))]; rfl
  by_cases e2 : d = b
  · rw [circ_none (.inr (.inr (.inl e2))), circ_none (.inr (.inr (.inr (.inl e2))))]; rfl
  by_cases e3 : d = c
  · rw [circ_none (.inr (.inr (.inr (.inr e3)))), circ_none (.inr (.inr (.inr (.inr e3))))]; rfl
  obtain ⟨va, vb, vc⟩ := ori_vld h0
  obtain ⟨n1, n2, n3⟩ := ori_distinct h0
  rw [circ_main h0 hv e1 e2 e3, circ_main (by rw [ori_swap]; omega) hv e2 e1 e3, lft_swap, sgn_neg, min4_swap va vb vc hv, ori_swap, tie_swap n1]
  split <;> split <;> omega
theorem circ_cyc (a b c d : Pt) : circ b c a d = circ a b c d := by
  by_cases h0 : ori a b c = 0
  · rw [circ_none (.inl h0), circ_none (.inl (by rw [ori_cyc, h0]))]
  cases hv : vld d with
  | false => rw [circ_none (.inr (.inl hv)), circ_none (.inr (.inl hv))]
  | true =>
  by_cases e1 : d = a
  · rw [circ_none (.inr (.inr (.inl e1))), circ_none (.inr (.inr (.inr (.inr e1))))]
  by_cases e2 : d = b
  · rw [circ_none (.inr (.inr (.inl e2))), circ_none (.inr (.inr (.inr (.inl e2))))]
  by_cases e3 : d = c
  · rw [circ_none (.inr (.inr (.inr (.inl e3)))), circ_none (.inr (.inr (.inr (.inr e3))))]
  obtain ⟨va, vb, vc⟩ := ori_vld h0
  obtain ⟨n1, n2, n3⟩ := ori_distinct h0
  rw [circ_main h0 hv e1 e2 e3, circ_main (by rw [ori_cyc]; omega) hv e2 e3 e1, lft_cyc, min4_cyc va vb vc hv, ori_cyc, tie_cyc (min4_or a b c d) n1 n2 n3]
/-- Of four on one circle no three are on a line. -/
theorem no_three {a b c d : Pt} (hl : lft a b c d = 0) (h0 : det a b c ≠ 0) (e2 : d ≠ b) (e3 : d ≠ c) : det d b c ≠ 0 := by
  intro hd
  have e0 : det a b c = cr (way d b) (way d c) + cr (way d c) (way d a) + cr (way d a) (way d b) := by unfold det cr way; grind
  have ed : det d b c = cr (way d b) (way d c) := by unfold det cr way; grind
  have n2 : way d b ≠ ⟨0, 0⟩ := fun h => e2 (by rw [Pt.eq_iff] at h ⊢; unfold way at h; simp only at h; omega)
  have n3 : way d c ≠ ⟨0, 0⟩ := fun h => e3 (by rw [Pt.eq_iff] at h ⊢; unfold way at h; simp only at h; omega)
  rw [ed] at hd
  rw [e0] at h0
  unfold lft at hl
  generalize way d a = u at *
  generalize way d b = v at *
  generalize way d c = z at *
  have i1 : ht u * cr v z + ht v * cr z u + ht z * cr u v = ht u * cr v z + (v.x * z.x + v.y * z.y) * (cr v u + cr u z) - cr v z * (v.x * u.x + v.y * u.y + z.x * u.x + z.y * u.y) := by unfold ht cr; grind
  have i2 : cr v u + cr u z = -(cr z u + cr u v) := by unfold cr; grind
  have i3 : ht v * ht z = (v.x * z.x + v.y * z.y) * (v.x * z.x + v.y * z.y) + cr v z * cr v z := by unfold ht cr; grind
  rw [hl, i2, hd] at i1
  simp only [Int.mul_zero, Int.zero_mul, Int.zero_add, Int.sub_zero] at i1
  have h1 : (v.x * z.x + v.y * z.y) = 0 := by
    rcases Int.mul_eq_zero.1 i1.symm with h | h
    · exact h
    · exfalso; apply h0; omega
  rw [h1, hd] at i3
  simp only [Int.mul_zero, Int.zero_add] at i3
  have key0 : ∀ p : Pt, ht p = 0 → p = ⟨0, 0⟩ := fun p hp => by
    have a1 := sq_pos p.x; have a2 := sq_pos p.y
    unfold ht at hp
    have b1 : p.x * p.x = 0 := by omega
    have b2 : p.y * p.y = 0 := by omega
    rw [Pt.eq_iff]
    exact ⟨by rcases Int.mul_eq_zero.1 b1 with h | h <;> exact h, by rcases Int.mul_eq_zero.1 b2 with h | h <;> exact h⟩
  rcases Int.mul_eq_zero.1 i3 with h | h
  · exact n2 (key0 v h)
  · exact n3 (key0 z h)
theorem circ_sign {a b c d : Pt} (h0 : ¬ ori a b c = 0) (hv : vld d = true) (e1 : d ≠ a) (e2 : d ≠ b) (e3 : d ≠ c) : circ a b c d = 1 ∨ circ a b c d = -1 := by
  rw [circ_main h0 hv e1 e2 e3]
  obtain ⟨va, vb, vc⟩ := ori_vld h0
  have o3 : ∀ p q r : Pt, vld p = true → vld q = true → vld r = true → det p q r ≠ 0 → ori p q r = 1 ∨ ori p q r = -1 := fun p q r hp hq hr h => by
    rw [ori_v hp hq hr]; have := sgn_cases (det p q r); omega
  have hdet : det a b c ≠ 0 := fun h => h0 (by rw [ori_v va vb vc, h]; rfl)
  split
  · rename_i h; have := sgn_cases (lft a b c d); omega
  · rename_i h
    have hl : lft a b c d = 0 := by rw [← sgn_zero]; omega
    unfold tie
    split
    · exact o3 _ _ _ va vb vc hdet
    split
    · have := o3 d b c hv vb vc (no_three hl hdet e2 e3); omega
    split
    · have h3 := no_three (a := b) (b := c) (c := a) (d := d) (by rw [lft_cyc]; exact hl) (by rw [det_cyc]; exact hdet) e3 e1
      have := o3 a d c va hv vc (by rw [← det_cyc a d c]; exact h3); omega
    · have h3 := no_three (a := c) (b := a) (c := b) (d := d) (by rw [lft_cyc b c a, lft_cyc]; exact hl) (by rw [det_cyc b c a, det_cyc]; exact hdet) e1 e2
      have := o3 a b d va vb hv (by rw [← det_cyc a b d, ← det_cyc b d a]; exact h3); omega
/-- The third corner and the point change places. -/
theorem circ_last {a b c d : Pt} (h0 : ¬ ori a b c = 0) (h1 : ¬ ori a b d = 0) (e : d ≠ c) : circ a b d c = -circ a b c d := by
  obtain ⟨va, vb, vc⟩ := ori_vld h0
  obtain ⟨_, _, vd⟩ := ori_vld h1
  obtain ⟨n1, n2, n3⟩ := ori_distinct h0
  obtain ⟨_, k2, k3⟩ := ori_distinct h1
  rw [circ_main h0 vd k2 k3 e, circ_main h1 vc n2 n3 e.symm, lft_last, sgn_neg, min4_last va vb vc vd]
  by_cases hs : sgn (lft a b c d) = 0
  · rw [if_neg (by omega), if_neg (by omega)]
    unfold tie
    rcases min4_or a b c d with h | h | h | h <;> rw [h]
    · rw [if_neg (np n2.symm), if_pos (pp rfl), if_neg (np k2.symm), if_pos (pp rfl), ori_swap b c d, ori_cyc d b c]
    · rw [if_neg (np n3.symm), if_neg (np n1), if_pos (pp rfl), if_neg (np k3.symm), if_neg (np n1), if_pos (pp rfl), ori_swap2]
    · rw [if_pos (pp rfl), if_neg (np e.symm), if_neg (np n2), if_neg (np n3)]; omega
    · rw [if_neg (np e), if_neg (np k2), if_neg (np k3), if_pos (pp rfl)]
  · rw [if_pos (by omega), if_pos hs]
end Go.Proofs.Ytijdbddjhnjcdaa
