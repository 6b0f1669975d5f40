/- Put together: ExS, WalU, Trod. -/
import Derived.Test.YtpeehjkpglkikaaPut15
import Derived.Test.YtpeehjkpglkikaaRows
import Derived.Test.YtpeehjkpglkikaaPut28
import Derived.WalkKit
import Derived.Carry
import Derived.ProofKit
import Derived.Lib.SmallJoins
namespace Go.Proofs.Ytpeehjkpglkikaa
open Go.RowKit

theorem seg_sw {a b c d : Pt} (s : Seg2 a b c d) : Seg2 b a c d := ⟨s.vb, s.va, s.vc, s.vd, s.nab.symm, s.ncd⟩
theorem seg_sw2 {a b c d : Pt} (s : Seg2 a b c d) : Seg2 a b d c := ⟨s.va, s.vb, s.vd, s.vc, s.nab, s.ncd.symm⟩
theorem seg_sw3 {a b c d : Pt} (s : Seg2 a b c d) : Seg2 c d a b := ⟨s.vc, s.vd, s.va, s.vb, s.ncd, s.nab⟩
theorem det_swap2 (a b c : Pt) : det a c b = -det a b c := by unfold det; grind
theorem line_sw {a b c d : Pt} (s : Seg2 a b c d) (h : det a b c = 0 ∧ det a b d = 0) : det c d a = 0 ∧ det c d b = 0 := by
  have i1 := I1 a b c d
  have i2 := I2 a b c d
  have hE := EE_pos s.nab
  rw [h.1, h.2] at i1 i2
  simp only [Int.mul_zero, Int.zero_mul, Int.sub_zero] at i1 i2
  constructor
  · rcases Int.mul_eq_zero.1 i1 with h | h
    · omega
    · exact h
  · rcases Int.mul_eq_zero.1 i2 with h | h
    · omega
    · exact h
theorem meet_sw1 (a b c d : Pt) : meetS b a c d = meetS a b c d := by
  by_cases s : Seg2 a b c d
  case neg => rw [meetS_none s, meetS_none (fun k => s (seg_sw k))]
  case pos =>
  have d1 := det_swap a b c
  have d2 := det_swap a b d
  by_cases hl : det a b c = 0 ∧ det a b d = 0
  · rw [meetS_line s hl, meetS_line (seg_sw s) (by omega), mil_key s, mil_key (seg_sw s)]
    (repeat' split) <;> omega
  · by_cases e : a = c ∨ a = d ∨ b = c ∨ b = d
    · rw [meetS_end s hl e, meetS_end (seg_sw s) (by omega) (by rcases e with e | e | e | e <;> simp [e])]
    · rw [meetS_fin s hl e, meetS_fin (seg_sw s) (by omega) (fun k => e (by rcases k with k | k | k | k <;> simp [k])), d1, d2, sgn_neg, sgn_neg]
      unfold fin; (repeat' split) <;> omega
theorem meet_sw2 (a b c d : Pt) : meetS a b d c = meetS a b c d := by
  by_cases s : Seg2 a b c d
  case neg => rw [meetS_none s, meetS_none (fun k => s (seg_sw2 k))]
  case pos =>
  have d1 := det_swap c d a
  have d2 := det_swap c d b
  by_cases hl : det a b c = 0 ∧ det a b d = 0
  · rw [meetS_line s hl, meetS_line (seg_sw2 s) (by omega), mil_key s, mil_key (seg_sw2 s)]
    (repeat' split) <;> omega
  · by_cases e : a = c ∨ a = d ∨ b = c ∨ b = d
    · rw [meetS_end s hl e, meetS_end (seg_sw2 s) (by omega) (by rcases e with e | e | e | e <;> simp [e])]
    · rw [meetS_fin s hl e, meetS_fin (seg_sw2 s) (by omega) (fun k => e (by rcases k with k | k | k | k <;> simp [k])), d1, d2, sgn_neg, sgn_neg]
      unfold fin; (repeat' split) <;> omega
theorem meet_sw3 (a b c d : Pt) : meetS c d a b = meetS a b c d := by
  by_cases s : Seg2 a b c d
  case neg => rw [meetS_none s, meetS_none (fun k => s (seg_sw3 k))]
  case pos =>
  by_cases hl : det a b c = 0 ∧ det a b d = 0
  · rw [meetS_line s hl, meetS_line (seg_sw3 s) (line_sw s hl), mil_key s, mil_key (seg_sw3 s)]
    (repeat' split) <;> omega
  · have hl2 : ¬ (det c d a = 0 ∧ det c d b = 0) := fun k => hl (line_sw (seg_sw3 s) k)
    by_cases e : a = c ∨ a = d ∨ b = c ∨ b = d
    · rw [meetS_end s hl e, meetS_end (seg_sw3 s) hl2 (by rcases e with e | e | e | e <;> simp [e])]
    · rw [meetS_fin s hl e, meetS_fin (seg_sw3 s) hl2 (fun k => e (by rcases k with k | k | k | k <;> simp [k]))]
      unfold fin; (repeat' split) <;> omega
theorem meet_bd (a b c d : Pt) : 0 ≤ meetS a b c d ∧ meetS a b c d ≤ 3 := by
  by_cases s : Seg2 a b c d
  case neg => rw [meetS_none s]; omega
  case pos =>
  by_cases hl : det a b c = 0 ∧ det a b d = 0
  · rw [meetS_line s hl, mil_key s]; split <;> omega
  · by_cases e : a = c ∨ a = d ∨ b = c ∨ b = d
    · rw [meetS_end s hl e]; omega
    · rw [meetS_fin s hl e]; unfold fin; (repeat' split) <;> omega
theorem meet_self {a b : Pt} (ha : vld a = true) (hb : vld b = true) (h : a ≠ b) : meetS a b b a = 3 := by
  have s : Seg2 a b b a := ⟨ha, hb, hb, ha, h, h.symm⟩
  have n := key_n s
  rw [meetS_line s ⟨det_2 _ _, det_1 _ _⟩, mil_key s, if_pos (by omega)]
theorem meet_no_self {a b : Pt} (h : vld a = false ∨ vld b = false ∨ a = b) : meetS a b b a = 0 := by
  refine meetS_none fun s => ?_
  rcases h with h | h | h
  · rw [s.va] at h; cases h
  · rw [s.vb] at h; cases h
  · exact s.nab h
theorem meet_one {a b c d : Pt} (h : meetS a b c d = 1) : ori a b c * ori a b d = -1 ∧ ori c d a * ori c d b = -1 := by
  by_cases s : Seg2 a b c d
  case neg => rw [meetS_none s] at h; omega
  case pos =>
  rw [ori_v s.va s.vb s.vc, ori_v s.va s.vb s.vd, ori_v s.vc s.vd s.va, ori_v s.vc s.vd s.vb]
  by_cases hl : det a b c = 0 ∧ det a b d = 0
  · rw [meetS_line s hl, mil_key s] at h; split at h <;> omega
  · by_cases e : a = c ∨ a = d ∨ b = c ∨ b = d
    · rw [meetS_end s hl e] at h; omega
    · rw [meetS_fin s hl e] at h
      have c1 := sgn_cases (det c d a)
      have c2 := sgn_cases (det c d b)
      have c3 := sgn_cases (det a b c)
      have c4 := sgn_cases (det a b d)
      generalize sgn (det c d a) = A at *
      generalize sgn (det c d b) = B at *
      generalize sgn (det a b c) = C at *
      generalize sgn (det a b d) = D at *
      have hh : A ≠ B ∧ C ≠ D ∧ A ≠ 0 ∧ B ≠ 0 ∧ C ≠ 0 ∧ D ≠ 0 := by
        unfold fin at h; (repeat' split at h) <;> omega
      have k1 : A = 1 ∧ B = -1 ∨ A = -1 ∧ B = 1 := by omega
      have k2 : C = 1 ∧ D = -1 ∨ C = -1 ∧ D = 1 := by omega
      rcases k1 with ⟨rfl, rfl⟩ | ⟨rfl, rfl⟩ <;> rcases k2 with ⟨rfl, rfl⟩ | ⟨rfl, rfl⟩ <;> decide
theorem on_of_key {p a b : Pt} (hp : vld p = true) (ha : vld a = true) (hb : vld b = true) (hd : det a b p = 0) (h : key a ≤ key p ∧ key p ≤ key b ∨ key b ≤ key p ∧ key p ≤ key a) : onS p a b = true := by
  unfold onS
  rw [hp, ha, hb, ori_v ha hb hp, hd, cmpP_key ha hp, cmpP_key hp hb]
  have c1 := sgn_cases (key a - key p)
  have c2 := sgn_cases (key p - key b)
  have : 0 ≤ sgn (key a - key p) * sgn (key p - key b) := by
    rcases c1 with ⟨e1, t1⟩ | ⟨e1, t1⟩ | ⟨e1, t1⟩ <;> rcases c2 with ⟨e2, t2⟩ | ⟨e2, t2⟩ | ⟨e2, t2⟩ <;> rw [e1, e2] <;> omega
  simp [s0, this]
theorem tch_on {p a b : Pt} (h : tch p a b ≠ 0) : onS p a b = true := by
  rw [on_eq]
  unfold tch at h
  cases k : onR p a b with
  | true => rfl
  | false => rw [if_pos k] at h; exact absurd rfl h
theorem meet_two {a b c d : Pt} (h : 2 ≤ meetS a b c d) : (onS a c d || (onS b c d || (onS c a b || onS d a b))) = true := by
  by_cases s : Seg2 a b c d
  case neg => rw [meetS_none s] at h; omega
  case pos =>
  by_cases hl : det a b c = 0 ∧ det a b d = 0
  · rw [meetS_line s hl, mil_key s] at h
    have l2 := line_sw s hl
    split at h
    case isFalse => omega
    case isTrue k =>
    rcases Int.le_total (min (key a) (key b)) (min (key c) (key d)) with t | t
    · rcases Int.le_total (key c) (key d) with u | u
      · rw [on_of_key s.vc s.va s.vb hl.1 (by omega)]; simp
      · rw [on_of_key s.vd s.va s.vb hl.2 (by omega)]; simp
    · rcases Int.le_total (key a) (key b) with u | u
      · rw [on_of_key s.va s.vc s.vd l2.1 (by omega)]; simp
      · rw [on_of_key s.vb s.vc s.vd l2.2 (by omega)]; simp
  · rw [meet_eq, meetR_main s hl] at h
    split at h
    · omega
    · by_cases t1 : tch a c d = 0
      · by_cases t2 : tch b c d = 0
        · by_cases t3 : tch c a b = 0
          · by_cases t4 : tch d a b = 0
            · rw [t1, t2, t3, t4] at h; exact absurd h (by decide)
            · rw [tch_on t4]; simp
          · rw [tch_on t3]; simp
        · rw [tch_on t2]; simp
      · rw [tch_on t1]; simp
-- moved along the grid
def mv (p : Pt) (x y : Int) : Pt := ⟨p.x + x, p.y + y⟩
section
variable (x y : Int)
theorem det_mv (a b c : Pt) : det (mv a x y) (mv b x y) (mv c x y) = det a b c := by unfold det mv; grind
theorem way_mv (a b : Pt) : way (mv a x y) (mv b x y) = way a b := by unfold way mv; rw [Pt.eq_iff]; constructor <;> simp only <;> omega
theorem lft_mv (a b c d : Pt) : lft (mv a x y) (mv b x y) (mv c x y) (mv d x y) = lft a b c d := by unfold lft; rw [way_mv, way_mv, way_mv]
theorem cmpN_mv (a b n : Int) : cmpN (a + n) (b + n) = cmpN a b := by unfold cmpN; rw [show a + n - (b + n) = a - b by omega]
theorem cmpP_mv (a b : Pt) : cmpP (mv a x y) (mv b x y) = cmpP a b := by
  unfold cmpP mv
  simp only [cmpN_mv]
  by_cases h : a.x = b.x
  · rw [if_pos h, if_pos (by omega)]
  · rw [if_neg h, if_neg (by omega)]
theorem peqI_mv (a b : Pt) : peqI (mv a x y).x (mv a x y).y (mv b x y).x (mv b x y).y = peqI a.x a.y b.x b.y := by
  rw [Bool.eq_iff_iff, peqI_iff, peqI_iff]; unfold mv; simp only; omega
theorem mv_inj {a b : Pt} : mv a x y = mv b x y ↔ a = b := by
  rw [Pt.eq_iff, Pt.eq_iff]; unfold mv; simp only; omega
theorem lsr_mv (a b : Pt) : lsr (mv a x y) (mv b x y) = mv (lsr a b) x y := by
  unfold lsr; rw [cmpP_mv]; split <;> rfl
theorem lo2_mv (a b : Pt) : lo2 (mv a x y) (mv b x y) = mv (lo2 a b) x y := by
  unfold lo2; rw [cmpP_mv]; split <;> rfl
theorem hi2_mv (a b : Pt) : hi2 (mv a x y) (mv b x y) = mv (hi2 a b) x y := by
  unfold hi2; rw [cmpP_mv]; split <;> rfl
theorem mil_mv (a b c d : Pt) : mil (mv a x y) (mv b x y) (mv c x y) (mv d x y) = mil a b c d := by
  unfold mil; rw [lo2_mv, lo2_mv, hi2_mv, hi2_mv, cmpP_mv, cmpP_mv]
theorem ori_mv {a b c : Pt} (ha : vld a = true) (hb : vld b = true) (hc : vld c = true) (ha' : vld (mv a x y) = true) (hb' : vld (mv b x y) = true) (hc' : vld (mv c x y) = true) :
    ori (mv a x y) (mv b x y) (mv c x y) = ori a b c := by rw [ori_v ha hb hc, ori_v ha' hb' hc', det_mv]
variable {a b c d : Pt} (ha : vld a = true) (hb : vld b = true) (hc : vld c = true) (hd : vld d = true) (ha' : vld (mv a x y) = true) (hb' : vld (mv b x y) = true) (hc' : vld (mv c x y) = true) (hd' : vld (mv d x y) = true)
include ha hb hc hd ha' hb' hc' hd'
theorem circ_mv : circ (mv a x y) (mv b x y) (mv c x y) (mv d x y) = circ a b c d := by
  unfold circ min4
  rw [ori_mv x y ha hb hc ha' hb' hc', hd, hd', peqI_mv, peqI_mv, peqI_mv, lft_mv, lsr_mv, lsr_mv, lsr_mv]
  unfold tie
  rw [peqI_mv, peqI_mv, peqI_mv, ori_mv x y hd hb hc hd' hb' hc', ori_mv x y ha hd hc ha' hd' hc', ori_mv x y ha hb hd ha' hb' hd']
theorem meet_mv : meetS (mv a x y) (mv b x y) (mv c x y) (mv d x y) = meetS a b c d := by
  unfold meetS
  rw [ori_mv x y ha hb hc ha' hb' hc', ori_mv x y ha hb hd ha' hb' hd', ori_mv x y hc hd ha hc' hd' ha', ori_mv x y hc hd hb hc' hd' hb', ha, hb, hc, hd, ha', hb', hc', hd', peqI_mv, peqI_mv, peqI_mv, peqI_mv, peqI_mv, peqI_mv, mil_mv]
end
end Go.Proofs.Ytpeehjkpglkikaa

namespace Go.Proofs.Ytpeehjkpglkikaa

theorem on_one (X : Wl) (p : Pt) : (bgL [X] p).find? (onW p) = if cmpP X.A p ≤ 0 ∧ onW p X = true then some X else none := by
  unfold bgL
  by_cases h1 : cmpP X.A p ≤ 0
  · rw [List.filter_cons_of_pos (by simpa using h1)]
    cases h2 : onW p X <;> simp [h1, h2]
  · rw [List.filter_cons_of_neg (by simpa using h1)]
    simp [h1]
theorem mul_mono {i k x : Int} (h0 : 0 ≤ i) (h1 : i ≤ k) : (0 ≤ x → 0 ≤ i * x ∧ i * x ≤ k * x) ∧ (x ≤ 0 → k * x ≤ i * x ∧ i * x ≤ 0) := by
  refine ⟨fun hx => ⟨Int.mul_nonneg h0 hx, Int.mul_le_mul_of_nonneg_right h1 hx⟩, fun hx => ⟨?_, ?_⟩⟩
  · have := Int.mul_le_mul_of_nonneg_right h1 (show 0 ≤ -x by omega)
    rw [Int.mul_neg, Int.mul_neg] at this; omega
  · have := Int.mul_nonneg h0 (show 0 ≤ -x by omega)
    rw [Int.mul_neg] at this; omega
theorem mul_strict {i k x : Int} (h0 : 0 < i) (h1 : i < k) (hx : x ≠ 0) : i * x ≠ 0 ∧ i * x ≠ k * x := by
  refine ⟨fun h => ?_, fun h => ?_⟩
  · rcases Int.mul_eq_zero.1 h with h | h <;> omega
  · have : (k - i) * x = 0 := by rw [Int.sub_mul]; omega
    rcases Int.mul_eq_zero.1 this with h | h <;> omega
theorem mul_bd {i x : Int} (h0 : 0 ≤ i) (h1 : i ≤ 20) (hx : -50 ≤ x ∧ x ≤ 50) : -1000 ≤ i * x ∧ i * x ≤ 1000 := by
  have a1 := Int.mul_le_mul_of_nonneg_left hx.2 h0
  have a2 := Int.mul_le_mul_of_nonneg_left hx.1 h0
  omega
section
variable {a : Pt} {x y k i : Int}
def pI (a : Pt) (x y i : Int) : Pt := ⟨a.x + i * x, a.y + i * y⟩
theorem pI_vld (h0 : 0 ≤ i) (h1 : i ≤ k) (ha : vld a = true) (hb : vld (pI a x y k) = true) : vld (pI a x y i) = true := by
  rw [vld_iff] at *
  unfold pI at *
  simp only at *
  have mx := mul_mono (x := x) h0 h1
  have my := mul_mono (x := y) h0 h1
  constructor
  · rcases Int.le_total 0 x with h | h
    · have := mx.1 h; omega
    · have := mx.2 h; omega
  · rcases Int.le_total 0 y with h | h
    · have := my.1 h; omega
    · have := my.2 h; omega
theorem pI_det : det a (pI a x y k) (pI a x y i) = 0 := by
  unfold det pI
  simp only
  grind
theorem pI_key : key (pI a x y i) = key a + i * (x * 16777216 + y) := by
  unfold key pI
  simp only
  grind
theorem pI_on (h0 : 0 ≤ i) (h1 : i ≤ k) (ha : vld a = true) (hb : vld (pI a x y k) = true) : onS (pI a x y i) a (pI a x y k) = true ∧ onS (pI a x y i) (pI a x y k) a = true := by
  have hp := pI_vld h0 h1 ha hb
  have hm := mul_mono (x := x * 16777216 + y) h0 h1
  have k1 := pI_key (a := a) (x := x) (y := y) (i := i)
  have k2 := pI_key (a := a) (x := x) (y := y) (i := k)
  have hk : key a ≤ key (pI a x y i) ∧ key (pI a x y i) ≤ key (pI a x y k) ∨ key (pI a x y k) ≤ key (pI a x y i) ∧ key (pI a x y i) ≤ key a := by
    rcases Int.le_total 0 (x * 16777216 + y) with h | h
    · have := hm.1 h; omega
    · have := hm.2 h; omega
  refine ⟨on_of_key hp ha hb pI_det hk, on_of_key hp hb ha ?_ (by omega)⟩
  rw [det_swap, pI_det]; rfl
theorem pI_ne (h0 : 0 < i) (h1 : i < k) (hab : a ≠ pI a x y k) : pI a x y i ≠ a ∧ pI a x y i ≠ pI a x y k := by
  have hxy : x ≠ 0 ∨ y ≠ 0 := by
    by_cases hx : x = 0
    · by_cases hy : y = 0
      · exact absurd (by rw [Pt.eq_iff]; unfold pI; simp [hx, hy]) hab
      · exact .inr hy
    · exact .inl hx
  constructor
  · intro e
    rw [Pt.eq_iff] at e
    unfold pI at e
    simp only at e
    rcases hxy with h | h
    · have := mul_strict h0 h1 h; omega
    · have := mul_strict h0 h1 h; omega
  · intro e
    rw [Pt.eq_iff] at e
    unfold pI at e
    simp only at e
    rcases hxy with h | h
    · have := mul_strict h0 h1 h; omega
    · have := mul_strict h0 h1 h; omega
theorem pI_box (h0 : 0 ≤ i) (h1 : i ≤ k) : min a.x (pI a x y k).x ≤ (pI a x y i).x ∧ (pI a x y i).x ≤ max a.x (pI a x y k).x ∧ min a.y (pI a x y k).y ≤ (pI a x y i).y ∧ (pI a x y i).y ≤ max a.y (pI a x y k).y := by
  have mx := mul_mono (x := x) h0 h1
  have my := mul_mono (x := y) h0 h1
  unfold pI
  simp only
  rcases Int.le_total 0 x with h | h <;> rcases Int.le_total 0 y with h' | h'
  · have := mx.1 h; have := my.1 h'; omega
  · have := mx.1 h; have := my.2 h'; omega
  · have := mx.2 h; have := my.1 h'; omega
  · have := mx.2 h; have := my.2 h'; omega
end
theorem lo_le {a b : Pt} : (lo2 a b = a ∧ hi2 a b = b ∧ ¬ cmpP b a < 0) ∨ (lo2 a b = b ∧ hi2 a b = a ∧ cmpP b a < 0) := by
  unfold lo2 hi2
  by_cases h : cmpP b a < 0
  · simp [h]
  · simp [h]
theorem bsd_no {X : Wl} {p : Pt} (h1 : X.A.x ≤ p.x) (h2 : p.x ≤ X.B.x) (h3 : min X.A.y X.B.y ≤ p.y) (h4 : p.y ≤ max X.A.y X.B.y) : bsd X p p = false := by
  unfold bsd mxI mnI
  simp only [Bool.or_eq_false_iff, decide_eq_false_iff_not]
  (repeat' split) <;> omega
/-- A point within is had; an end is not. -/
theorem ends_on {a : Pt} {x y k i kd : Int} (h0 : 0 < i) (h1 : i < k) (ha : vld a = true) (hb : vld (pI a x y k) = true) (hab : a ≠ pI a x y k) :
    (bgL [⟨lo2 a (pI a x y k), hi2 a (pI a x y k), kd⟩] (pI a x y i)).find? (onW (pI a x y i)) = some ⟨lo2 a (pI a x y k), hi2 a (pI a x y k), kd⟩ := by
  rw [on_one, if_pos]
  have ho := pI_on (x := x) (y := y) (by omega) (Int.le_of_lt h1) ha hb
  have hn := pI_ne h0 h1 hab
  have hx := pI_box (a := a) (x := x) (y := y) (i := i) (k := k) (by omega) (by omega)
  have hp := pI_vld (x := x) (y := y) (by omega) (Int.le_of_lt h1) ha hb
  have hm := mul_mono (i := i) (k := k) (x := x * 16777216 + y) (by omega) (by omega)
  have k1 := pI_key (a := a) (x := x) (y := y) (i := i)
  have k2 := pI_key (a := a) (x := x) (y := y) (i := k)
  have hkp : (key a ≤ key (pI a x y i) ∧ key (pI a x y i) ≤ key (pI a x y k)) ∨ (key (pI a x y k) ≤ key (pI a x y i) ∧ key (pI a x y i) ≤ key a) := by
    rcases Int.le_total 0 (x * 16777216 + y) with h | h
    · have := hm.1 h; omega
    · have := hm.2 h; omega
  clear k1 k2 hm
  generalize pI a x y i = p at *
  generalize pI a x y k = b at *
  have hle : ∀ {p q : Pt}, vld p = true → vld q = true → key p ≤ key q → cmpP p q ≤ 0 := fun hp hq h => by
    have : ¬ cmpP _ _ < 0 := fun e => by have := (cmp_lt hq hp).1 e; omega
    rw [cmpP_neg] at this; omega
  rcases lo_le (a := a) (b := b) with ⟨e1, e2, e3⟩ | ⟨e1, e2, e3⟩
  · rw [e1, e2]
    have hk : key a ≤ key b := by have := (not_congr (cmp_lt hb ha)).1 e3; omega
    have hax : a.x ≤ b.x := by
      rw [vld_iff] at ha hb; unfold key at hk; omega
    refine ⟨(show cmpP a p ≤ 0 from hle ha hp (by omega)), ?_⟩
    unfold onW
    simp only
    rw [bsd_no (X := ⟨a, b, kd⟩) (by simp only; omega) (by simp only; omega) (by simp only; omega) (by simp only; omega), ho.1, decide_eq_false (Ne.symm hn.1), decide_eq_false (Ne.symm hn.2)]
    rfl
  · rw [e1, e2]
    have hk : key b < key a := (cmp_lt hb ha).1 e3
    have hax : b.x ≤ a.x := by
      rw [vld_iff] at ha hb; unfold key at hk; omega
    refine ⟨(show cmpP b p ≤ 0 from hle hb hp (by omega)), ?_⟩
    unfold onW
    simp only
    rw [bsd_no (X := ⟨b, a, kd⟩) (by simp only; omega) (by simp only; omega) (by simp only; omega) (by simp only; omega), ho.2, decide_eq_false (Ne.symm hn.1), decide_eq_false (Ne.symm hn.2)]
    rfl
theorem ends_off {a b p : Pt} {kd : Int} (h : p = a ∨ p = b) : (bgL [⟨lo2 a b, hi2 a b, kd⟩] p).find? (onW p) = none := by
  rw [on_one, if_neg]
  rintro ⟨_, h2⟩
  unfold onW at h2
  simp only [Bool.and_eq_true, Bool.not_eq_true', decide_eq_false_iff_not] at h2
  rcases lo_le (a := a) (b := b) with ⟨e1, e2, _⟩ | ⟨e1, e2, _⟩ <;> rw [e1, e2] at h2 <;> rcases h with rfl | rfl
  · exact h2.1 rfl
  · exact h2.2.1 rfl
  · exact h2.2.1 rfl
  · exact h2.1 rfl
theorem lo_sw {a b : Pt} (h : a ≠ b) : lo2 b a = lo2 a b ∧ hi2 b a = hi2 a b := by
  have h0 : cmpP b a ≠ 0 := fun e => h (cmpP_eq0.1 e).symm
  unfold lo2 hi2
  rw [cmpP_neg b a]
  by_cases e : cmpP b a < 0
  · rw [if_pos e, if_pos e, if_neg (by omega), if_neg (by omega)]; exact ⟨rfl, rfl⟩
  · rw [if_neg e, if_neg e, if_pos (by omega), if_pos (by omega)]; exact ⟨rfl, rfl⟩
theorem one_kind (p q : Pt) (kd : Int) : kindW [⟨p, q, kd⟩] p q = kd := by simp [kindW, isW]
theorem one_good {a b : Pt} {kd : Int} (h : mkOk a b kd = true) : GoodW ⟨lo2 a b, hi2 a b, kd⟩ := by
  have h3 := h
  unfold mkOk mkK at h3
  simp only [Bool.and_eq_true, Bool.or_eq_true, decide_eq_true_eq, Bool.not_eq_true', decide_eq_false_iff_not] at h3
  obtain ⟨hk, hab, ha, hb⟩ := h3
  have h0 : cmpP b a ≠ 0 := fun e => hab (cmpP_eq0.1 e).symm
  rcases lo_le (a := a) (b := b) with ⟨e1, e2, e3⟩ | ⟨e1, e2, e3⟩ <;> rw [e1, e2]
  · exact ⟨ha, hb, by show cmpP a b < 0; rw [cmpP_neg b a]; omega, hk⟩
  · exact ⟨hb, ha, e3, hk⟩
theorem one_at {a b : Pt} {kd : Int} (h : a ≠ b) : (bgL [⟨lo2 a b, hi2 a b, kd⟩] a).filter (endW a) = [⟨lo2 a b, hi2 a b, kd⟩] ∧ (bgL [⟨lo2 a b, hi2 a b, kd⟩] b).filter (endW b) = [⟨lo2 a b, hi2 a b, kd⟩] := by
  have h0 : cmpP b a ≠ 0 := fun e => h (cmpP_eq0.1 e).symm
  have ha := cmpP_eq0.2 (rfl : a = a)
  have hb := cmpP_eq0.2 (rfl : b = b)
  have hn := cmpP_neg b a
  rcases lo_le (a := a) (b := b) with ⟨e1, e2, e3⟩ | ⟨e1, e2, e3⟩ <;> rw [e1, e2] <;> unfold bgL endW
  · have : cmpP a b ≤ 0 := by omega
    simp [ha, this]
  · have : cmpP b a ≤ 0 := by omega
    simp [hb, this]
theorem one_clash {a b : Pt} {kd : Int} (h : mkOk a b kd = true) : clashW [⟨lo2 a b, hi2 a b, kd⟩] a b = 5 := by
  have h3 := h
  unfold mkOk mkK at h3
  simp only [Bool.and_eq_true, Bool.or_eq_true, decide_eq_true_eq] at h3
  have h1 : mkOk a b 1 = true := by unfold mkOk mkK; simp only [Bool.and_eq_true]; exact ⟨by decide, h3.2⟩
  unfold clashW
  rw [if_pos h1, one_kind, if_neg (by omega)]
theorem one_rem {a b : Pt} {kd : Int} (h : mkOk a b kd = true) : remE [⟨lo2 a b, hi2 a b, kd⟩] (lo2 a b) (hi2 a b) = 0 ∧ remL [⟨lo2 a b, hi2 a b, kd⟩] (lo2 a b) (hi2 a b) = [] := by
  have hg := (one_good h).k
  simp only at hg
  have hp : posW [⟨lo2 a b, hi2 a b, kd⟩] (lo2 a b) (hi2 a b) = 0 := by
    unfold posW
    rw [List.filter_cons_of_neg]
    · rfl
    · simp only [decide_eq_true_eq]
      intro e
      rw [cmpW_lt] at e
      simp only [cmpP_eq0.2 rfl] at e
      omega
  unfold remE remL
  rw [hp]
  simp [fnd]
end Go.Proofs.Ytpeehjkpglkikaa

namespace Go.Proofs.Ytpeehjkpglkikaa
open Go.RowKit Go.Sort Go.ChangeShapes Go.WideShapes Go.ChangeAt

section
variable {H : Type} {enc : TypeId × Value → H} {P : Program} {w : World} {base : Nat} {spare : Nat → Bool} {held : Bool}
theorem trodAll_five {t0 t1 t2 t3 t4 : TypeId} {args : Array Value} {ds : List (DataW H)} {ps : List MemPlace} (h : DataW.TrodAll enc P w base spare held [t0, t1, t2, t3, t4] args.toList ds ps) :
    ∃ v0 v1 v2 v3 v4 d0 d1 d2 d3 d4 q0 q1 q2 q3 q4, args = #[v0, v1, v2, v3, v4] ∧ ds = [d0, d1, d2, d3, d4] ∧ ps = q0 ++ (q1 ++ (q2 ++ (q3 ++ q4))) ∧ DataW.Trod enc P w base spare held t0 v0 d0 q0 ∧ DataW.Trod enc P w base spare held t1 v1 d1 q1 ∧ DataW.Trod enc P w base spare held t2 v2 d2 q2 ∧ DataW.Trod enc P w base spare held t3 v3 d3 q3 ∧ DataW.Trod enc P w base spare held t4 v4 d4 q4 := by
  obtain ⟨v0, vs0, d0, ds0, q0, r0, hargs, rfl, rfl, h0, k0⟩ := trodAll_cons h
  obtain ⟨v1, vs1, d1, ds1, q1, r1, rfl, rfl, rfl, h1, k1⟩ := trodAll_cons k0
  obtain ⟨v2, vs2, d2, ds2, q2, r2, rfl, rfl, rfl, h2, k2⟩ := trodAll_cons k1
  obtain ⟨v3, vs3, d3, ds3, q3, r3, rfl, rfl, rfl, h3, k3⟩ := trodAll_cons k2
  obtain ⟨v4, vs4, d4, ds4, q4, r4, rfl, rfl, rfl, h4, k4⟩ := trodAll_cons k3
  obtain ⟨rfl, rfl, rfl⟩ := trodAll_nil k4
  exact ⟨v0, v1, v2, v3, v4, d0, d1, d2, d3, d4, q0, q1, q2, q3, q4, by cases args; simp_all, rfl, by simp, h0, h1, h2, h3, h4⟩
theorem trodAll_mk5 {t0 t1 t2 t3 t4 : TypeId} {v0 v1 v2 v3 v4 : Value} {d0 d1 d2 d3 d4 : DataW H} {q0 q1 q2 q3 q4 : List MemPlace} (h0 : DataW.Trod enc P w base spare held t0 v0 d0 q0) (h1 : DataW.Trod enc P w base spare held t1 v1 d1 q1) (h2 : DataW.Trod enc P w base spare held t2 v2 d2 q2) (h3 : DataW.Trod enc P w base spare held t3 v3 d3 q3) (h4 : DataW.Trod enc P w base spare held t4 v4 d4 q4) :
    DataW.TrodAll enc P w base spare held [t0, t1, t2, t3, t4] [v0, v1, v2, v3, v4] [d0, d1, d2, d3, d4] (q0 ++ (q1 ++ (q2 ++ (q3 ++ q4)))) := ⟨q0, _, h0, trodAll_mk4 h1 h2 h3 h4, rfl⟩
theorem trodAll_six {t0 t1 t2 t3 t4 t5 : TypeId} {args : Array Value} {ds : List (DataW H)} {ps : List MemPlace} (h : DataW.TrodAll enc P w base spare held [t0, t1, t2, t3, t4, t5] args.toList ds ps) :
    ∃ v0 v1 v2 v3 v4 v5 d0 d1 d2 d3 d4 d5 q0 q1 q2 q3 q4 q5, args = #[v0, v1, v2, v3, v4, v5] ∧ ds = [d0, d1, d2, d3, d4, d5] ∧ ps = q0 ++ (q1 ++ (q2 ++ (q3 ++ (q4 ++ q5)))) ∧ DataW.Trod enc P w base spare held t0 v0 d0 q0 ∧ DataW.Trod enc P w base spare held t1 v1 d1 q1 ∧ DataW.Trod enc P w base spare held t2 v2 d2 q2 ∧ DataW.Trod enc P w base spare held t3 v3 d3 q3 ∧ DataW.Trod enc P w base spare held t4 v4 d4 q4 ∧ DataW.Trod enc P w base spare held t5 v5 d5 q5 := by
  obtain ⟨v0, vs0, d0, ds0, q0, r0, hargs, rfl, rfl, h0, k0⟩ := trodAll_cons h
  obtain ⟨v1, vs1, d1, ds1, q1, r1, rfl, rfl, rfl, h1, k1⟩ := trodAll_cons k0
  obtain ⟨v2, vs2, d2, ds2, q2, r2, rfl, rfl, rfl, h2, k2⟩ := trodAll_cons k1
  obtain ⟨v3, vs3, d3, ds3, q3, r3, rfl, rfl, rfl, h3, k3⟩ := trodAll_cons k2
  obtain ⟨v4, vs4, d4, ds4, q4, r4, rfl, rfl, rfl, h4, k4⟩ := trodAll_cons k3
  obtain ⟨v5, vs5, d5, ds5, q5, r5, rfl, rfl, rfl, h5, k5⟩ := trodAll_cons k4
  obtain ⟨rfl, rfl, rfl⟩ := trodAll_nil k5
  exact ⟨v0, v1, v2, v3, v4, v5, d0, d1, d2, d3, d4, d5, q0, q1, q2, q3, q4, q5, by cases args; simp_all, rfl, by simp, h0, h1, h2, h3, h4, h5⟩
theorem trodAll_mk6 {t0 t1 t2 t3 t4 t5 : TypeId} {v0 v1 v2 v3 v4 v5 : Value} {d0 d1 d2 d3 d4 d5 : DataW H} {q0 q1 q2 q3 q4 q5 : List MemPlace} (h0 : DataW.Trod enc P w base spare held t0 v0 d0 q0) (h1 : DataW.Trod enc P w base spare held t1 v1 d1 q1) (h2 : DataW.Trod enc P w base spare held t2 v2 d2 q2) (h3 : DataW.Trod enc P w base spare held t3 v3 d3 q3) (h4 : DataW.Trod enc P w base spare held t4 v4 d4 q4) (h5 : DataW.Trod enc P w base spare held t5 v5 d5 q5) :
    DataW.TrodAll enc P w base spare held [t0, t1, t2, t3, t4, t5] [v0, v1, v2, v3, v4, v5] [d0, d1, d2, d3, d4, d5] (q0 ++ (q1 ++ (q2 ++ (q3 ++ (q4 ++ q5))))) := ⟨q0, _, h0, ⟨q1, _, h1, trodAll_mk4 h2 h3 h4 h5, rfl⟩, rfl⟩
theorem trodAll_seven {t0 t1 t2 t3 t4 t5 t6 : TypeId} {args : Array Value} {ds : List (DataW H)} {ps : List MemPlace} (h : DataW.TrodAll enc P w base spare held [t0, t1, t2, t3, t4, t5, t6] args.toList ds ps) :
    ∃ v0 v1 v2 v3 v4 v5 v6 d0 d1 d2 d3 d4 d5 d6 q0 q1 q2 q3 q4 q5 q6, args = #[v0, v1, v2, v3, v4, v5, v6] ∧ ds = [d0, d1, d2, d3, d4, d5, d6] ∧ ps = q0 ++ (q1 ++ (q2 ++ (q3 ++ (q4 ++ (q5 ++ q6))))) ∧ DataW.Trod enc P w base spare held t0 v0 d0 q0 ∧ DataW.Trod enc P w base spare held t1 v1 d1 q1 ∧ DataW.Trod enc P w base spare held t2 v2 d2 q2 ∧ DataW.Trod enc P w base spare held t3 v3 d3 q3 ∧ DataW.Trod enc P w base spare held t4 v4 d4 q4 ∧ DataW.Trod enc P w base spare held t5 v5 d5 q5 ∧ DataW.Trod enc P w base spare held t6 v6 d6 q6 := by
  obtain ⟨v0, vs0, d0, ds0, q0, r0, hargs, rfl, rfl, h0, k0⟩ := trodAll_cons h
  obtain ⟨v1, vs1, d1, ds1, q1, r1, rfl, rfl, rfl, h1, k1⟩ := trodAll_cons k0
  obtain ⟨v2, vs2, d2, ds2, q2, r2, rfl, rfl, rfl, h2, k2⟩ := trodAll_cons k1
  obtain ⟨v3, vs3, d3, ds3, q3, r3, rfl, rfl, rfl, h3, k3⟩ := trodAll_cons k2
  obtain ⟨v4, vs4, d4, ds4, q4, r4, rfl, rfl, rfl, h4, k4⟩ := trodAll_cons k3
  obtain ⟨v5, vs5, d5, ds5, q5, r5, rfl, rfl, rfl, h5, k5⟩ := trodAll_cons k4
  obtain ⟨v6, vs6, d6, ds6, q6, r6, rfl, rfl, rfl, h6, k6⟩ := trodAll_cons k5
  obtain ⟨rfl, rfl, rfl⟩ := trodAll_nil k6
  exact ⟨v0, v1, v2, v3, v4, v5, v6, d0, d1, d2, d3, d4, d5, d6, q0, q1, q2, q3, q4, q5, q6, by cases args; simp_all, rfl, by simp, h0, h1, h2, h3, h4, h5, h6⟩
theorem trodAll_mk7 {t0 t1 t2 t3 t4 t5 t6 : TypeId} {v0 v1 v2 v3 v4 v5 v6 : Value} {d0 d1 d2 d3 d4 d5 d6 : DataW H} {q0 q1 q2 q3 q4 q5 q6 : List MemPlace} (h0 : DataW.Trod enc P w base spare held t0 v0 d0 q0) (h1 : DataW.Trod enc P w base spare held t1 v1 d1 q1) (h2 : DataW.Trod enc P w base spare held t2 v2 d2 q2) (h3 : DataW.Trod enc P w base spare held t3 v3 d3 q3) (h4 : DataW.Trod enc P w base spare held t4 v4 d4 q4) (h5 : DataW.Trod enc P w base spare held t5 v5 d5 q5) (h6 : DataW.Trod enc P w base spare held t6 v6 d6 q6) :
    DataW.TrodAll enc P w base spare held [t0, t1, t2, t3, t4, t5, t6] [v0, v1, v2, v3, v4, v5, v6] [d0, d1, d2, d3, d4, d5, d6] (q0 ++ (q1 ++ (q2 ++ (q3 ++ (q4 ++ (q5 ++ q6)))))) := ⟨q0, _, h0, ⟨q1, _, h1, ⟨q2, _, h2, trodAll_mk4 h3 h4 h5 h6, rfl⟩, rfl⟩, rfl⟩
end
end Go.Proofs.Ytpeehjkpglkikaa
