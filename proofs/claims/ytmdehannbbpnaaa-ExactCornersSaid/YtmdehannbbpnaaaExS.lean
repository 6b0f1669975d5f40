/- Plain mathematics: what is told of circles and segments is the same from whichever end, and moved along the grid. -/
import Derived.Test.YtmdehannbbpnaaaExQ
namespace Go.Proofs.Ytmdehannbbpnaaa
open Go.RowKit

theorem seg_sw {a b c d : Pt} (s : Seg2 a b c d) : Seg2 b a c d := ⟨s.vb, s.va, s.vc, s.vd, s.nab.symm, s.ncd⟩
theorem seg_sw2 {a b c d : Pt} (s : Seg2 a b c d) : Seg2 a b d c := ⟨s.va, s.vb, s.vd, s.vc, s.nab, s.ncd.symm⟩
theorem seg_sw3 {a b c d : Pt} (s : Seg2 a b c d) : Seg2 c d a b := ⟨s.vc, s.vd, s.va, s.vb, s.ncd, s.nab⟩
theorem det_swap2 (a b c : Pt) : det a c b = -det a b c := by unfold det; grind
theorem line_sw {a b c d : Pt} (s : Seg2 a b c d) (h : det a b c = 0 ∧ det a b d = 0) : det c d a = 0 ∧ det c d b = 0 := by
  have i1 := I1 a b c d
  have i2 := I2 a b c d
  have hE := EE_pos s.nab
  rw [h.1, h.2] at i1 i2
  simp only [Int.mul_zero, Int.zero_mul, Int.sub_zero] at i1 i2
  constructor
  · rcases Int.mul_eq_zero.1 i1 with h | h
    · omega
    · exact h
  · rcases Int.mul_eq_zero.1 i2 with h | h
    · omega
    · exact h
theorem meet_sw1 (a b c d : Pt) : meetS b a c d = meetS a b c d := by
  by_cases s : Seg2 a b c d
  case neg => rw [meetS_none s, meetS_none (fun k => s (seg_sw k))]
  case pos =>
  have d1 := det_swap a b c
  have d2 := det_swap a b d
  by_cases hl : det a b c = 0 ∧ det a b d = 0
  · rw [meetS_line s hl, meetS_line (seg_sw s) (by omega), mil_key s, mil_key (seg_sw s)]
    (repeat' split) <;> omega
  · by_cases e : a = c ∨ a = d ∨ b = c ∨ b = d
    · rw [meetS_end s hl e, meetS_end (seg_sw s) (by omega) (by rcases e with e | e | e | e <;> simp [e])]
    · rw [meetS_fin s hl e, meetS_fin (seg_sw s) (by omega) (fun k => e (by rcases k with k | k | k | k <;> simp [k])), d1, d2, sgn_neg, sgn_neg]
      unfold fin; (repeat' split) <;> omega
theorem meet_sw2 (a b c d : Pt) : meetS a b d c = meetS a b c d := by
  by_cases s : Seg2 a b c d
  case neg => rw [meetS_none s, meetS_none (fun k => s (seg_sw2 k))]
  case pos =>
  have d1 := det_swap c d a
  have d2 := det_swap c d b
  by_cases hl : det a b c = 0 ∧ det a b d = 0
  · rw [meetS_line s hl, meetS_line (seg_sw2 s) (by omega), mil_key s, mil_key (seg_sw2 s)]
    (repeat' split) <;> omega
  · by_cases e : a = c ∨ a = d ∨ b = c ∨ b = d
    · rw [meetS_end s hl e, meetS_end (seg_sw2 s) (by omega) (by rcases e with e | e | e | e <;> simp [e])]
    · rw [meetS_fin s hl e, meetS_fin (seg_sw2 s) (by omega) (fun k => e (by rcases k with k | k | k | k <;> simp [k])), d1, d2, sgn_neg, sgn_neg]
      unfold fin; (repeat' split) <;> omega
theorem meet_sw3 (a b c d : Pt) : meetS c d a b = meetS a b c d := by
  by_cases s : Seg2 a b c d
  case neg => rw [meetS_none s, meetS_none (fun k => s (seg_sw3 k))]
  case pos =>
  by_cases hl : det a b c = 0 ∧ det a b d = 0
  · rw [meetS_line s hl, meetS_line (seg_sw3 s) (line_sw s hl), mil_key s, mil_key (seg_sw3 s)]
    (repeat' split) <;> omega
  · have hl2 : ¬ (det c d a = 0 ∧ det c d b = 0) := fun k => hl (line_sw (seg_sw3 s) k)
    by_cases e : a = c ∨ a = d ∨ b = c ∨ b = d
    · rw [meetS_end s hl e, meetS_end (seg_sw3 s) hl2 (by rcases e with e | e | e | e <;> simp [e])]
    · rw [meetS_fin s hl e, meetS_fin (seg_sw3 s) hl2 (fun k => e (by rcases k with k | k | k | k <;> simp [k]))]
      unfold fin; (repeat' split) <;> omega
theorem meet_bd (a b c d : Pt) : 0 ≤ meetS a b c d ∧ meetS a b c d ≤ 3 := by
  by_cases s : Seg2 a b c d
  case neg => rw [meetS_none s]; omega
  case pos =>
  by_cases hl : det a b c = 0 ∧ det a b d = 0
  · rw [meetS_line s hl, mil_key s]; split <;> omega
  · by_cases e : a = c ∨ a = d ∨ b = c ∨ b = d
    · rw [meetS_end s hl e]; omega
    · rw [meetS_fin s hl e]; unfold fin; (repeat' split) <;> omega
theorem meet_self {a b : Pt} (ha : vld a = true) (hb : vld b = true) (h : a ≠ b) : meetS a b b a = 3 := by
  have s : Seg2 a b b a := ⟨ha, hb, hb, ha, h, h.symm⟩
  have n := key_n s
  rw [meetS_line s ⟨det_2 _ _, det_1 _ _⟩, mil_key s, if_pos (by omega)]
theorem meet_no_self {a b : Pt} (h : vld a = false ∨ vld b = false ∨ a = b) : meetS a b b a = 0 := by
  refine meetS_none fun s => ?_
  rcases h with h | h | h
  · rw [s.va] at h; cases h
  · rw [s.vb] at h; cases h
  · exact s.nab h
theorem meet_one {a b c d : Pt} (h : meetS a b c d = 1) : ori a b c * ori a b d = -1 ∧ ori c d a * ori c d b = -1 := by
  by_cases s : Seg2 a b c d
  case neg => rw [meetS_none s] at h; omega
  case pos =>
  rw [ori_v s.va s.vb s.vc, ori_v s.va s.vb s.vd, ori_v s.vc s.vd s.va, ori_v s.vc s.vd s.vb]
  by_cases hl : det a b c = 0 ∧ det a b d = 0
  · rw [meetS_line s hl, mil_key s] at h; split at h <;> omega
  · by_cases e : a = c ∨ a = d ∨ b = c ∨ b = d
    · rw [meetS_end s hl e] at h; omega
    · rw [meetS_fin s hl e] at h
      have c1 := sgn_cases (det c d a)
      have c2 := sgn_cases (det c d b)
      have c3 := sgn_cases (det a b c)
      have c4 := sgn_cases (det a b d)
      generalize sgn (det c d a) = A at *
      generalize sgn (det c d b) = B at *
      generalize sgn (det a b c) = C at *
      generalize sgn (det a b d) = D at *
      have hh : A ≠ B ∧ C ≠ D ∧ A ≠ 0 ∧ B ≠ 0 ∧ C ≠ 0 ∧ D ≠ 0 := by
        unfold fin at h; (repeat' split at h) <;> omega
      have k1 : A = 1 ∧ B = -1 ∨ A = -1 ∧ B = 1 := by omega
      have k2 : C = 1 ∧ D = -1 ∨ C = -1 ∧ D = 1 := by omega
      rcases k1 with ⟨rfl, rfl⟩ | ⟨rfl, rfl⟩ <;> rcases k2 with ⟨rfl, rfl⟩ | ⟨rfl, rfl⟩ <;> decide
theorem on_of_key {p a b : Pt} (hp : vld p = true) (ha : vld a = true) (hb : vld b = true) (hd : det a b p = 0) (h : key a ≤ key p ∧ key p ≤ key b ∨ key b ≤ key p ∧ key p ≤ key a) : onS p a b = true := by
  unfold onS
  rw [hp, ha, hb, ori_v ha hb hp, hd, cmpP_key ha hp, cmpP_key hp hb]
  have c1 := sgn_cases (key a - key p)
  have c2 := sgn_cases (key p - key b)
  have : 0 ≤ sgn (key a - key p) * sgn (key p - key b) := by
    rcases c1 with ⟨e1, t1⟩ | ⟨e1, t1⟩ | ⟨e1, t1⟩ <;> rcases c2 with ⟨e2, t2⟩ | ⟨e2, t2⟩ | ⟨e2, t2⟩ <;> rw [e1, e2] <;> omega
  simp [s0, this]
theorem tch_on {p a b : Pt} (h : tch p a b ≠ 0) : onS p a b = true := by
  rw [on_eq]
  unfold tch at h
  cases k : onR p a b with
  | true => rfl
  | false => rw [if_pos k] at h; exact absurd rfl h
theorem meet_two {a b c d : Pt} (h : 2 ≤ meetS a b c d) : (onS a c d || (onS b c d || (onS c a b || onS d a b))) = true := by
  by_cases s : Seg2 a b c d
  case neg => rw [meetS_none s] at h; omega
  case pos =>
  by_cases hl : det a b c = 0 ∧ det a b d = 0
  · rw [meetS_line s hl, mil_key s] at h
    have l2 := line_sw s hl
    split at h
    case isFalse => omega
    case isTrue k =>
    rcases Int.le_total (min (key a) (key b)) (min (key c) (key d)) with t | t
    · rcases Int.le_total (key c) (key d) with u | u
      · rw [on_of_key s.vc s.va s.vb hl.1 (by omega)]; simp
      · rw [on_of_key s.vd s.va s.vb hl.2 (by omega)]; simp
    · rcases Int.le_total (key a) (key b) with u | u
      · rw [on_of_key s.va s.vc s.vd l2.1 (by omega)]; simp
      · rw [on_of_key s.vb s.vc s.vd l2.2 (by omega)]; simp
  · rw [meet_eq, meetR_main s hl] at h
    split at h
    · omega
    · by_cases t1 : tch a c d = 0
      · by_cases t2 : tch b c d = 0
        · by_cases t3 : tch c a b = 0
          · by_cases t4 : tch d a b = 0
            · rw [t1, t2, t3, t4] at h; exact absurd h (by decide)
            · rw [tch_on t4]; simp
          · rw [tch_on t3]; simp
        · rw [tch_on t2]; simp
      · rw [tch_on t1]; simp
-- moved along the grid
def mv (p : Pt) (x y : Int) : Pt := ⟨p.x + x, p.y + y⟩
section
variable (x y : Int)
theorem det_mv (a b c : Pt) : det (mv a x y) (mv b x y) (mv c x y) = det a b c := by unfold det mv; grind
theorem way_mv (a b : Pt) : way (mv a x y) (mv b x y) = way a b := by unfold way mv; rw [Pt.eq_iff]; constructor <;> simp only <;> omega
theorem lft_mv (a b c d : Pt) : lft (mv a x y) (mv b x y) (mv c x y) (mv d x y) = lft a b c d := by unfold lft; rw [way_mv, way_mv, way_mv]
theorem cmpN_mv (a b n : Int) : cmpN (a + n) (b + n) = cmpN a b := by unfold cmpN; rw [show a + n - (b + n) = a - b by omega]
theorem cmpP_mv (a b : Pt) : cmpP (mv a x y) (mv b x y) = cmpP a b := by
  unfold cmpP mv
  simp only [cmpN_mv]
  by_cases h : a.x = b.x
  · rw [if_pos h, if_pos (by omega)]
  · rw [if_neg h, if_neg (by omega)]
theorem peqI_mv (a b : Pt) : peqI (mv a x y).x (mv a x y).y (mv b x y).x (mv b x y).y = peqI a.x a.y b.x b.y := by
  rw [Bool.eq_iff_iff, peqI_iff, peqI_iff]; unfold mv; simp only; omega
theorem mv_inj {a b : Pt} : mv a x y = mv b x y ↔ a = b := by
  rw [Pt.eq_iff, Pt.eq_iff]; unfold mv; simp only; omega
theorem lsr_mv (a b : Pt) : lsr (mv a x y) (mv b x y) = mv (lsr a b) x y := by
  unfold lsr; rw [cmpP_mv]; split <;> rfl
theorem lo2_mv (a b : Pt) : lo2 (mv a x y) (mv b x y) = mv (lo2 a b) x y := by
  unfold lo2; rw [cmpP_mv]; split <;> rfl
theorem hi2_mv (a b : Pt) : hi2 (mv a x y) (mv b x y) = mv (hi2 a b) x y := by
  unfold hi2; rw [cmpP_mv]; split <;> rfl
theorem mil_mv (a b c d : Pt) : mil (mv a x y) (mv b x y) (mv c x y) (mv d x y) = mil a b c d := by
  unfold mil; rw [lo2_mv, lo2_mv, hi2_mv, hi2_mv, cmpP_mv, cmpP_mv]
theorem ori_mv {a b c : Pt} (ha : vld a = true) (hb : vld b = true) (hc : vld c = true) (ha' : vld (mv a x y) = true) (hb' : vld (mv b x y) = true) (hc' : vld (mv c x y) = true) :
    ori (mv a x y) (mv b x y) (mv c x y) = ori a b c := by rw [ori_v ha hb hc, ori_v ha' hb' hc', det_mv]
variable {a b c d : Pt} (ha : vld a = true) (hb : vld b = true) (hc : vld c = true) (hd : vld d = true) (ha' : vld (mv a x y) = true) (hb' : vld (mv b x y) = true) (hc' : vld (mv c x y) = true) (hd' : vld (mv d x y) = true)
include ha hb hc hd ha' hb' hc' hd'
theorem circ_mv : circ (mv a x y) (mv b x y) (mv c x y) (mv d x y) = circ a b c d := by
  unfold circ min4
  rw [ori_mv x y ha hb hc ha' hb' hc', hd, hd', peqI_mv, peqI_mv, peqI_mv, lft_mv, lsr_mv, lsr_mv, lsr_mv]
  unfold tie
  rw [peqI_mv, peqI_mv, peqI_mv, ori_mv x y hd hb hc hd' hb' hc', ori_mv x y ha hd hc ha' hd' hc', ori_mv x y ha hb hd ha' hb' hd']
theorem meet_mv : meetS (mv a x y) (mv b x y) (mv c x y) (mv d x y) = meetS a b c d := by
  unfold meetS
  rw [ori_mv x y ha hb hc ha' hb' hc', ori_mv x y ha hb hd ha' hb' hd', ori_mv x y hc hd ha hc' hd' ha', ori_mv x y hc hd hb hc' hd' hb', ha, hb, hc, hd, ha', hb', hc', hd', peqI_mv, peqI_mv, peqI_mv, peqI_mv, peqI_mv, peqI_mv, mil_mv]
end
end Go.Proofs.Ytmdehannbbpnaaa
