/- Put together: WalU, WalV, WalW. -/
import Derived.Test.YtnocdecimcpkfaaRows
import Derived.Test.YtnocdecimcpkfaaPut26
import Derived.Test.YtnocdecimcpkfaaPut2
import Derived.WalkKit
import Derived.WalkSpells
import Derived.WalkLawsBesides
import Derived.Laws.Externs
import Derived.Deep.QuietTactic
import Derived.BigQuiet
import Derived.Lib.Hide
import Derived.Handy
import Derived.LoopN
import Derived.RegionTactic
namespace Go.Proofs.Ytnocdecimcpkfaa

theorem on_one (X : Wl) (p : Pt) : (bgL [X] p).find? (onW p) = if cmpP X.A p ≤ 0 ∧ onW p X = true then some X else none := by
  unfold bgL
  by_cases h1 : cmpP X.A p ≤ 0
  · rw [List.filter_cons_of_pos (by simpa using h1)]
    cases h2 : onW p X <;> simp [h1, h2]
  · rw [List.filter_cons_of_neg (by simpa using h1)]
    simp [h1]
theorem mul_mono {i k x : Int} (h0 : 0 ≤ i) (h1 : i ≤ k) : (0 ≤ x → 0 ≤ i * x ∧ i * x ≤ k * x) ∧ (x ≤ 0 → k * x ≤ i * x ∧ i * x ≤ 0) := by
  refine ⟨fun hx => ⟨Int.mul_nonneg h0 hx, Int.mul_le_mul_of_nonneg_right h1 hx⟩, fun hx => ⟨?_, ?_⟩⟩
  · have := Int.mul_le_mul_of_nonneg_right h1 (show 0 ≤ -x by omega)
    rw [Int.mul_neg, Int.mul_neg] at this; omega
  · have := Int.mul_nonneg h0 (show 0 ≤ -x by omega)
    rw [Int.mul_neg] at this; omega
theorem mul_strict {i k x : Int} (h0 : 0 < i) (h1 : i < k) (hx : x ≠ 0) : i * x ≠ 0 ∧ i * x ≠ k * x := by
  refine ⟨fun h => ?_, fun h => ?_⟩
  · rcases Int.mul_eq_zero.1 h with h | h <;> omega
  · have : (k - i) * x = 0 := by rw [Int.sub_mul]; omega
    rcases Int.mul_eq_zero.1 this with h | h <;> omega
theorem mul_bd {i x : Int} (h0 : 0 ≤ i) (h1 : i ≤ 20) (hx : -50 ≤ x ∧ x ≤ 50) : -1000 ≤ i * x ∧ i * x ≤ 1000 := by
  have a1 := Int.mul_le_mul_of_nonneg_left hx.2 h0
  have a2 := Int.mul_le_mul_of_nonneg_left hx.1 h0
  omega
section
variable {a : Pt} {x y k i : Int}
def pI (a : Pt) (x y i : Int) : Pt := ⟨a.x + i * x, a.y + i * y⟩
theorem pI_vld (h0 : 0 ≤ i) (h1 : i ≤ k) (ha : vld a = true) (hb : vld (pI a x y k) = true) : vld (pI a x y i) = true := by
  rw [vld_iff] at *
  unfold pI at *
  simp only at *
  have mx := mul_mono (x := x) h0 h1
  have my := mul_mono (x := y) h0 h1
  constructor
  · rcases Int.le_total 0 x with h | h
    · have := mx.1 h; omega
    · have := mx.2 h; omega
  · rcases Int.le_total 0 y with h | h
    · have := my.1 h; omega
    · have := my.2 h; omega
theorem pI_det : det a (pI a x y k) (pI a x y i) = 0 := by
  unfold det pI
  simp only
  grind
theorem pI_key : key (pI a x y i) = key a + i * (x * 16777216 + y) := by
  unfold key pI
  simp only
  grind
theorem pI_on (h0 : 0 ≤ i) (h1 : i ≤ k) (ha : vld a = true) (hb : vld (pI a x y k) = true) : onS (pI a x y i) a (pI a x y k) = true ∧ onS (pI a x y i) (pI a x y k) a = true := by
  have hp := pI_vld h0 h1 ha hb
  have hm := mul_mono (x := x * 16777216 + y) h0 h1
  have k1 := pI_key (a := a) (x := x) (y := y) (i := i)
  have k2 := pI_key (a := a) (x := x) (y := y) (i := k)
  have hk : key a ≤ key (pI a x y i) ∧ key (pI a x y i) ≤ key (pI a x y k) ∨ key (pI a x y k) ≤ key (pI a x y i) ∧ key (pI a x y i) ≤ key a := by
    rcases Int.le_total 0 (x * 16777216 + y) with h | h
    · have := hm.1 h; omega
    · have := hm.2 h; omega
  refine ⟨on_of_key hp ha hb pI_det hk, on_of_key hp hb ha ?_ (by omega)⟩
  rw [det_swap, pI_det]; rfl
theorem pI_ne (h0 : 0 < i) (h1 : i < k) (hab : a ≠ pI a x y k) : pI a x y i ≠ a ∧ pI a x y i ≠ pI a x y k := by
  have hxy : x ≠ 0 ∨ y ≠ 0 := by
    by_cases hx : x = 0
    · by_cases hy : y = 0
      · exact absurd (by rw [Pt.eq_iff]; unfold pI; simp [hx, hy]) hab
      · exact .inr hy
    · exact .inl hx
  constructor
  · intro e
    rw [Pt.eq_iff] at e
    unfold pI at e
    simp only at e
    rcases hxy with h | h
    · have := mul_strict h0 h1 h; omega
    · have := mul_strict h0 h1 h; omega
  · intro e
    rw [Pt.eq_iff] at e
    unfold pI at e
    simp only at e
    rcases hxy with h | h
    · have := mul_strict h0 h1 h; omega
    · have := mul_strict h0 h1 h; omega
theorem pI_box (h0 : 0 ≤ i) (h1 : i ≤ k) : min a.x (pI a x y k).x ≤ (pI a x y i).x ∧ (pI a x y i).x ≤ max a.x (pI a x y k).x ∧ min a.y (pI a x y k).y ≤ (pI a x y i).y ∧ (pI a x y i).y ≤ max a.y (pI a x y k).y := by
  have mx := mul_mono (x := x) h0 h1
  have my := mul_mono (x := y) h0 h1
  unfold pI
  simp only
  rcases Int.le_total 0 x with h | h <;> rcases Int.le_total 0 y with h' | h'
  · have := mx.1 h; have := my.1 h'; omega
  · have := mx.1 h; have := my.2 h'; omega
  · have := mx.2 h; have := my.1 h'; omega
  · have := mx.2 h; have := my.2 h'; omega
end
theorem lo_le {a b : Pt} : (lo2 a b = a ∧ hi2 a b = b ∧ ¬ cmpP b a < 0) ∨ (lo2 a b = b ∧ hi2 a b = a ∧ cmpP b a < 0) := by
  unfold lo2 hi2
  by_cases h : cmpP b a < 0
  · simp [h]
  · simp [h]
theorem bsd_no {X : Wl} {p : Pt} (h1 : X.A.x ≤ p.x) (h2 : p.x ≤ X.B.x) (h3 : min X.A.y X.B.y ≤ p.y) (h4 : p.y ≤ max X.A.y X.B.y) : bsd X p p = false := by
  unfold bsd mxI mnI
  simp only [Bool.or_eq_false_iff, decide_eq_false_iff_not]
  (repeat' split) <;> omega
/-- A point within is had; an end is not. -/
theorem ends_on {a : Pt} {x y k i kd : Int} (h0 : 0 < i) (h1 : i < k) (ha : vld a = true) (hb : vld (pI a x y k) = true) (hab : a ≠ pI a x y k) :
    (bgL [⟨lo2 a (pI a x y k), hi2 a (pI a x y k), kd⟩] (pI a x y i)).find? (onW (pI a x y i)) = some ⟨lo2 a (pI a x y k), hi2 a (pI a x y k), kd⟩ := by
  rw [on_one, if_pos]
  have ho := pI_on (x := x) (y := y) (by omega) (Int.le_of_lt h1) ha hb
  have hn := pI_ne h0 h1 hab
  have hx := pI_box (a := a) (x := x) (y := y) (i := i) (k := k) (by omega) (by omega)
  have hp := pI_vld (x := x) (y := y) (by omega) (Int.le_of_lt h1) ha hb
  have hm := mul_mono (i := i) (k := k) (x := x * 16777216 + y) (by omega) (by omega)
  have k1 := pI_key (a := a) (x := x) (y := y) (i := i)
  have k2 := pI_key (a := a) (x := x) (y := y) (i := k)
  have hkp : (key a ≤ key (pI a x y i) ∧ key (pI a x y i) ≤ key (pI a x y k)) ∨ (key (pI a x y k) ≤ key (pI a x y i) ∧ key (pI a x y i) ≤ key a) := by
    rcases Int.le_total 0 (x * 16777216 + y) with h | h
    · have := hm.1 h; omega
    · have := hm.2 h; omega
  clear k1 k2 hm
  generalize pI a x y i = p at *
  generalize pI a x y k = b at *
  have hle : ∀ {p q : Pt}, vld p = true → vld q = true → key p ≤ key q → cmpP p q ≤ 0 := fun hp hq h => by
    have : ¬ cmpP _ _ < 0 := fun e => by have := (cmp_lt hq hp).1 e; omega
    rw [cmpP_neg] at this; omega
  rcases lo_le (a := a) (b := b) with ⟨e1, e2, e3⟩ | ⟨e1, e2, e3⟩
  · rw [e1, e2]
    have hk : key a ≤ key b := by have := (not_congr (cmp_lt hb ha)).1 e3; omega
    have hax : a.x ≤ b.x := by
      rw [vld_iff] at ha hb; unfold key at hk; omega
    refine ⟨(show cmpP a p ≤ 0 from hle ha hp (by omega)), ?_⟩
    unfold onW
    simp only
    rw [bsd_no (X := ⟨a, b, kd⟩) (by simp only; omega) (by simp only; omega) (by simp only; omega) (by simp only; omega), ho.1, decide_eq_false (Ne.symm hn.1), decide_eq_false (Ne.symm hn.2)]
    rfl
  · rw [e1, e2]
    have hk : key b < key a := (cmp_lt hb ha).1 e3
    have hax : b.x ≤ a.x := by
      rw [vld_iff] at ha hb; unfold key at hk; omega
    refine ⟨(show cmpP b p ≤ 0 from hle hb hp (by omega)), ?_⟩
    unfold onW
    simp only
    rw [bsd_no (X := ⟨b, a, kd⟩) (by simp only; omega) (by simp only; omega) (by simp only; omega) (by simp only; omega), ho.2, decide_eq_false (Ne.symm hn.1), decide_eq_false (Ne.symm hn.2)]
    rfl
theorem ends_off {a b p : Pt} {kd : Int} (h : p = a ∨ p = b) : (bgL [⟨lo2 a b, hi2 a b, kd⟩] p).find? (onW p) = none := by
  rw [on_one, if_neg]
  rintro ⟨_, h2⟩
  unfold onW at h2
  simp only [Bool.and_eq_true, Bool.not_eq_true', decide_eq_false_iff_not] at h2
  rcases lo_le (a := a) (b := b) with ⟨e1, e2, _⟩ | ⟨e1, e2, _⟩ <;> rw [e1, e2] at h2 <;> rcases h with rfl | rfl
  · exact h2.1 rfl
  · exact h2.2.1 rfl
  · exact h2.2.1 rfl
  · exact h2.1 rfl
theorem lo_sw {a b : Pt} (h : a ≠ b) : lo2 b a = lo2 a b ∧ hi2 b a = hi2 a b := by
  have h0 : cmpP b a ≠ 0 := fun e => h (cmpP_eq0.1 e).symm
  unfold lo2 hi2
  rw [cmpP_neg b a]
  by_cases e : cmpP b a < 0
  · rw [if_pos e, if_pos e, if_neg (by omega), if_neg (by omega)]; exact ⟨rfl, rfl⟩
  · rw [if_neg e, if_neg e, if_pos (by omega), if_pos (by omega)]; exact ⟨rfl, rfl⟩
theorem one_kind (p q : Pt) (kd : Int) : kindW [⟨p, q, kd⟩] p q = kd := by simp [kindW, isW]
theorem one_good {a b : Pt} {kd : Int} (h : mkOk a b kd = true) : GoodW ⟨lo2 a b, hi2 a b, kd⟩ := by
  have h3 := h
  unfold mkOk mkK at h3
  simp only [Bool.and_eq_true, Bool.or_eq_true, decide_eq_true_eq, Bool.not_eq_true', decide_eq_false_iff_not] at h3
  obtain ⟨hk, hab, ha, hb⟩ := h3
  have h0 : cmpP b a ≠ 0 := fun e => hab (cmpP_eq0.1 e).symm
  rcases lo_le (a := a) (b := b) with ⟨e1, e2, e3⟩ | ⟨e1, e2, e3⟩ <;> rw [e1, e2]
  · exact ⟨ha, hb, by show cmpP a b < 0; rw [cmpP_neg b a]; omega, hk⟩
  · exact ⟨hb, ha, e3, hk⟩
theorem one_at {a b : Pt} {kd : Int} (h : a ≠ b) : (bgL [⟨lo2 a b, hi2 a b, kd⟩] a).filter (endW a) = [⟨lo2 a b, hi2 a b, kd⟩] ∧ (bgL [⟨lo2 a b, hi2 a b, kd⟩] b).filter (endW b) = [⟨lo2 a b, hi2 a b, kd⟩] := by
  have h0 : cmpP b a ≠ 0 := fun e => h (cmpP_eq0.1 e).symm
  have ha := cmpP_eq0.2 (rfl : a = a)
  have hb := cmpP_eq0.2 (rfl : b = b)
  have hn := cmpP_neg b a
  rcases lo_le (a := a) (b := b) with ⟨e1, e2, e3⟩ | ⟨e1, e2, e3⟩ <;> rw [e1, e2] <;> unfold bgL endW
  · have : cmpP a b ≤ 0 := by omega
    simp [ha, this]
  · have : cmpP b a ≤ 0 := by omega
    simp [hb, this]
theorem one_clash {a b : Pt} {kd : Int} (h : mkOk a b kd = true) : clashW [⟨lo2 a b, hi2 a b, kd⟩] a b = 5 := by
  have h3 := h
  unfold mkOk mkK at h3
  simp only [Bool.and_eq_true, Bool.or_eq_true, decide_eq_true_eq] at h3
  have h1 : mkOk a b 1 = true := by unfold mkOk mkK; simp only [Bool.and_eq_true]; exact ⟨by decide, h3.2⟩
  unfold clashW
  rw [if_pos h1, one_kind, if_neg (by omega)]
theorem one_rem {a b : Pt} {kd : Int} (h : mkOk a b kd = true) : remE [⟨lo2 a b, hi2 a b, kd⟩] (lo2 a b) (hi2 a b) = 0 ∧ remL [⟨lo2 a b, hi2 a b, kd⟩] (lo2 a b) (hi2 a b) = [] := by
  have hg := (one_good h).k
  simp only at hg
  have hp : posW [⟨lo2 a b, hi2 a b, kd⟩] (lo2 a b) (hi2 a b) = 0 := by
    unfold posW
    rw [List.filter_cons_of_neg]
    · rfl
    · simp only [decide_eq_true_eq]
      intro e
      rw [cmpW_lt] at e
      simp only [cmpP_eq0.2 rfl] at e
      omega
  unfold remE remL
  rw [hp]
  simp [fnd]
end Go.Proofs.Ytnocdecimcpkfaa

namespace Go.Proofs.Ytnocdecimcpkfaa

/-- A height over the plane. -/
def ff (al be : Int) (p : Pt) : Int := al * p.x + be * p.y
theorem cross_eq (al be : Int) (a b c d : Pt) : det a b d * ff al be c - det a b c * ff al be d = det c d a * ff al be b - det c d b * ff al be a := by
  unfold det ff; grind
theorem cross_d (a b c d : Pt) : det a b d - det a b c = det c d a - det c d b := by unfold det; grind
theorem on_ff {p a b : Pt} (al be : Int) (hab : a ≠ b) (h : onS p a b = true) {m : Int} : (ff al be a < m → ff al be b < m → ff al be p < m) ∧ (m ≤ ff al be a → m ≤ ff al be b → m ≤ ff al be p) := by
  unfold onS at h
  simp only [Bool.and_eq_true, decide_eq_true_eq] at h
  obtain ⟨hp, ha, hb, h0, h1⟩ := h
  have hd : det a b p = 0 := by rw [ori_v ha hb hp] at h0; exact sgn_zero.1 h0
  obtain ⟨k0, k1⟩ := (on_k hab hd).1 h1
  obtain ⟨c1, c2⟩ := coll hd
  have hE := EE_pos hab
  have e : EE a b * (ff al be p - ff al be a) = kk a b p * (ff al be b - ff al be a) := by
    have : EE a b * (ff al be p - ff al be a) = al * (EE a b * (p.x - a.x)) + be * (EE a b * (p.y - a.y)) := by unfold ff; grind
    rw [this, c1, c2]; unfold ff; grind
  generalize ff al be p = fp at *
  generalize ff al be a = fa at *
  generalize ff al be b = fb at *
  generalize EE a b = E at *
  generalize kk a b p = k at *
  have e2 : E * (fp - m) = k * (fb - m) + (E - k) * (fa - m) := by grind
  constructor
  · intro ha' hb'
    have x1 : k * (fb - m) ≤ 0 := Int.mul_nonpos_of_nonneg_of_nonpos k0 (by omega)
    have x2 : (E - k) * (fa - m) ≤ 0 := Int.mul_nonpos_of_nonneg_of_nonpos (by omega) (by omega)
    have x3 : E * (fp - m) < 0 := by
      rcases Int.lt_or_eq_of_le k0 with hk | hk
      · have := Int.mul_neg_of_pos_of_neg hk (show fb - m < 0 by omega); omega
      · have : (E - k) * (fa - m) < 0 := Int.mul_neg_of_pos_of_neg (by omega) (by omega)
        omega
    rcases Int.lt_or_le (fp - m) 0 with h | h
    · omega
    · have := Int.mul_nonneg (Int.le_of_lt hE) h; omega
  · intro ha' hb'
    have x1 : 0 ≤ k * (fb - m) := Int.mul_nonneg k0 (by omega)
    have x2 : 0 ≤ (E - k) * (fa - m) := Int.mul_nonneg (by omega) (by omega)
    rcases Int.lt_or_le (fp - m) 0 with h | h
    · have := Int.mul_neg_of_pos_of_neg hE h; omega
    · omega
/-- Apart by a line: they do not meet. -/
theorem meet_apart {a b c d : Pt} (al be m : Int) (ha : ff al be a < m) (hb : ff al be b < m) (hc : m ≤ ff al be c) (hd : m ≤ ff al be d) : meetS a b c d = 0 := by
  have hbd := meet_bd a b c d
  by_cases hs : Seg2 a b c d
  case neg => exact meetS_none hs
  by_cases h2 : 2 ≤ meetS a b c d
  · have h := meet_two h2
    simp only [Bool.or_eq_true] at h
    rcases h with h | h | h | h
    · have := (on_ff al be hs.ncd h (m := m)).2 hc hd; omega
    · have := (on_ff al be hs.ncd h (m := m)).2 hc hd; omega
    · have := (on_ff al be hs.nab h (m := m)).1 ha hb; omega
    · have := (on_ff al be hs.nab h (m := m)).1 ha hb; omega
  · by_cases h1 : meetS a b c d = 1
    · obtain ⟨o1, o2⟩ := meet_one h1
      rw [ori_v hs.va hs.vb hs.vc, ori_v hs.va hs.vb hs.vd] at o1
      rw [ori_v hs.vc hs.vd hs.va, ori_v hs.vc hs.vd hs.vb] at o2
      have e := cross_eq al be a b c d
      have e' := cross_d a b c d
      generalize ff al be a = fa at *
      generalize ff al be b = fb at *
      generalize ff al be c = fc at *
      generalize ff al be d = fd at *
      generalize det a b c = s at *
      generalize det a b d = t at *
      generalize det c d a = u at *
      generalize det c d b = v at *
      have x : t * (fc - m) - s * (fd - m) = u * (fb - m) - v * (fa - m) := by grind
      rcases sgn_cases s with ⟨s1, s2⟩ | ⟨s1, s2⟩ | ⟨s1, s2⟩ <;> rcases sgn_cases t with ⟨t1, t2⟩ | ⟨t1, t2⟩ | ⟨t1, t2⟩ <;> rw [s1, t1] at o1 <;> try omega
      · rcases sgn_cases u with ⟨u1, u2⟩ | ⟨u1, u2⟩ | ⟨u1, u2⟩ <;> rcases sgn_cases v with ⟨v1, v2⟩ | ⟨v1, v2⟩ | ⟨v1, v2⟩ <;> rw [u1, v1] at o2 <;> try omega
        have y1 : 0 ≤ t * (fc - m) := Int.mul_nonneg (by omega) (by omega)
        have y2 : s * (fd - m) ≤ 0 := Int.mul_nonpos_of_nonpos_of_nonneg (by omega) (by omega)
        have y3 : u * (fb - m) < 0 := Int.mul_neg_of_pos_of_neg u2 (by omega)
        have y4 : 0 < v * (fa - m) := Int.mul_pos_of_neg_of_neg v2 (by omega)
        omega
      · rcases sgn_cases u with ⟨u1, u2⟩ | ⟨u1, u2⟩ | ⟨u1, u2⟩ <;> rcases sgn_cases v with ⟨v1, v2⟩ | ⟨v1, v2⟩ | ⟨v1, v2⟩ <;> rw [u1, v1] at o2 <;> try omega
        have y1 : t * (fc - m) ≤ 0 := Int.mul_nonpos_of_nonpos_of_nonneg (by omega) (by omega)
        have y2 : 0 ≤ s * (fd - m) := Int.mul_nonneg (by omega) (by omega)
        have y3 : 0 < u * (fb - m) := Int.mul_pos_of_neg_of_neg u2 (by omega)
        have y4 : v * (fa - m) < 0 := Int.mul_neg_of_pos_of_neg v2 (by omega)
        omega
    · omega
/-- A wall that is beside another one, or begins behind its end, does not meet it. -/
theorem bar_meet {X V : Wl} (hX : GoodW X) (hV : GoodW V) : (cmpP X.A V.B ≤ 0 ∧ bar1 X V = true) ↔ meetS X.A X.B V.A V.B ≠ 0 := by
  have kX : key X.A < key X.B := (cmp_lt hX.va hX.vb).1 hX.ab
  have kV : key V.A < key V.B := (cmp_lt hV.va hV.vb).1 hV.ab
  have fk : ∀ p : Pt, ff 16777216 1 p = key p := fun p => by unfold ff key; omega
  constructor
  · rintro ⟨_, h⟩
    unfold bar1 at h
    simp only [Bool.and_eq_true, decide_eq_true_eq] at h
    exact h.2
  · intro h
    have h1 : cmpP X.A V.B ≤ 0 := by
      rcases Int.lt_or_le 0 (cmpP X.A V.B) with h0 | h0
      · exfalso
        have hk : key V.B < key X.A := (cmp_lt hV.vb hX.va).1 (by rw [cmpP_neg]; omega)
        refine h ?_
        rw [← meet_sw3]
        exact meet_apart 16777216 1 (key X.A) (by rw [fk]; omega) (by rw [fk]; omega) (by rw [fk]; omega) (by rw [fk]; omega)
      · exact h0
    refine ⟨h1, ?_⟩
    unfold bar1
    simp only [Bool.and_eq_true, decide_eq_true_eq, Bool.not_eq_true']
    refine ⟨?_, h⟩
    have vX := vld_iff.1 hX.va
    have vX2 := vld_iff.1 hX.vb
    have vV := vld_iff.1 hV.va
    have vV2 := vld_iff.1 hV.vb
    have xX : X.A.x ≤ X.B.x := by unfold key at kX; omega
    have xV : V.A.x ≤ V.B.x := by unfold key at kV; omega
    cases hb : bsd X V.A V.B with
    | false => rfl
    | true =>
      exfalso
      refine h ?_
      unfold bsd mxI mnI at hb
      simp only [Bool.or_eq_true, decide_eq_true_eq] at hb
      rcases hb with hb | hb | hb | hb
      · exact meet_apart 1 0 V.A.x (by unfold ff; omega) (by unfold ff; omega) (by unfold ff; omega) (by unfold ff; omega)
      · rw [← meet_sw3]; exact meet_apart 1 0 X.A.x (by unfold ff; omega) (by unfold ff; omega) (by unfold ff; omega) (by unfold ff; omega)
      · refine meet_apart 0 1 (if V.B.y < V.A.y then V.B.y else V.A.y) ?_ ?_ ?_ ?_ <;> unfold ff <;> (repeat' split at *) <;> omega
      · rw [← meet_sw3]; refine meet_apart 0 1 (if X.B.y < X.A.y then X.B.y else X.A.y) ?_ ?_ ?_ ?_ <;> unfold ff <;> (repeat' split at *) <;> omega
/-- No two meet. -/
def Apart (L : List Wl) : Prop := L.Pairwise fun x y => meetS x.A x.B y.A y.B = 0
theorem clash_zero {L : List Wl} {X : Wl} (hX : GoodW X) (hg : ∀ x ∈ L, GoodW x) (h : clashW L X.A X.B = 0) : ∀ x ∈ L, meetS x.A x.B X.A X.B = 0 := by
  intro x hx
  obtain ⟨hA, hB⟩ := good_lo hX
  unfold clashW at h
  rw [hA, hB] at h
  split at h
  · split at h
    · split at h
      · cases h
      · rename_i hb
        by_cases hm : meetS x.A x.B X.A X.B = 0
        · exact hm
        · exfalso
          have hX1 : GoodW (⟨X.A, X.B, 1⟩ : Wl) := ⟨hX.va, hX.vb, hX.ab, .inl rfl⟩
          have := (bar_meet (hg x hx) hX1).2 hm
          refine hb (List.any_eq_true.2 ⟨x, ?_, this.2⟩)
          exact List.mem_filter.2 ⟨hx, by simpa using this.1⟩
    · cases h
  · cases h
theorem apart_add {L : List Wl} {X : Wl} (hg : ∀ x ∈ L, GoodW x) (h : Apart L) : Apart (addL L X) := by
  unfold addL
  split
  · rename_i hc
    have hX := mkOk_good hc.1
    have hz := clash_zero hX hg hc.2
    have hp : (L.take (posW L X.A X.B) ++ X :: L.drop (posW L X.A X.B)).Perm (X :: L) := by
      have := List.perm_middle (a := X) (l₁ := L.take (posW L X.A X.B)) (l₂ := L.drop (posW L X.A X.B))
      rwa [List.take_append_drop] at this
    unfold Apart
    refine (hp.pairwise_iff (fun {x y} e => by rw [← meet_sw3]; exact e)).2 ?_
    rw [List.pairwise_cons]
    exact ⟨fun y hy => by rw [← meet_sw3]; exact hz y hy, h⟩
  · exact h
theorem meet_self1 {X : Wl} (h : GoodW X) : meetS X.A X.B X.A X.B ≠ 0 := by
  have hab : X.A ≠ X.B := fun e => by have := h.ab; rw [e, cmpP_eq0.2 rfl] at this; omega
  rw [meet_sw2, meet_self h.va h.vb hab]; decide
end Go.Proofs.Ytnocdecimcpkfaa

namespace Go.Proofs.Ytnocdecimcpkfaa
open Go.RowKit Go.Sort
attribute [local go_sem] rOper rAt rUpon cell_set sg_i64 sg_u64 alloc_cell alloc_frozen
attribute [local go_sem 10000] pt_eql pt_neq wal_eql wal_neq
attribute [local irreducible] rWalk

set_option maxHeartbeats 400000 in
theorem alike_W (a1 a2 : Option Addr) (c1 c2 : Nat) (L1 L2 : List Wl) (w : World) (h1 : RowAt cW 5 w a1 L1) (h2 : RowAt cW 5 w a2 L2) (hl1 : L1.length ≤ 1000000) :
    Calls Try.prog 22 #[.slice a1 L1.length c1, .slice a2 L2.length c2] w fun e w' => e = .returned (.bool (decide (L1 = L2))) ∧ Below w.heap.size w w' := by
  by_cases hl : L1.length = L2.length
  case neg =>
    have hne : L1 ≠ L2 := fun e => hl (by rw [e])
    have hd : decide (L1 = L2) = false := by simpa using hne
    rw [hd]
    have hb2 : ((L1.length : Int) != L2.length) = true := by rw [bne_iff_ne]; omega
    clear h1 h2 hne hd
    generalize L1.length = n1 at *
    generalize L2.length = n2 at *
    go_enter Try.func22, Try.ntmps22
    go_wp2
    go_ret
    exact ⟨rfl, Below.refl _ _⟩
  case pos =>
    obtain ⟨n, hn1⟩ : ∃ n, L1.length = n := ⟨_, rfl⟩
    have hn2 : L2.length = n := by rw [← hl, hn1]
    have hb2 : ((n : Int) != n) = false := by simp
    rw [hn1, hn2]
    have hn : n ≤ 1000000 := hn1 ▸ hl1
    have H1 := Lib.hid hn1
    have H2 := Lib.hid hn2
    clear hn1 hn2 hl hl1
    go_enter Try.func22, Try.ntmps22
    go_wp2
    go_loopw [5] (fun i wr => ∃ k : Nat, k ≤ n ∧ i = .int .i64 k ∧ Hid (L1.take k = L2.take k) ∧ Below w.heap.size w wr) (fun i _ => n - (intOf i).toNat)
    case atStart => exact ⟨0, Nat.zero_le _, rfl, Lib.hid rfl, Below.refl _ _⟩
    case round =>
      obtain ⟨k, hk, rfl, hT, hw⟩ := hrel
      by_cases hlt : k < n
      · have r1 := h1.ext hw rfl
        have r2 := h2.ext hw rfl
        obtain ⟨ad1, A1, ea1, eA1, hA1⟩ := r1.five (j := k) (by rw [H1.out]; exact hlt)
        obtain ⟨_, q0, q1, q2, q3, q4⟩ := hA1.facts
        obtain ⟨ad2, A2, ea2, eA2, hA2⟩ := r2.five (j := k) (by rw [H2.out]; exact hlt)
        obtain ⟨_, p0, p1, p2, p3, p4⟩ := hA2.facts
        clear r1 r2 hA1 hA2
        have e1 : L1[k]'(by rw [H1.out]; exact hlt) = L1[k]'(by rw [H1.out]; exact hlt) := rfl
        by_cases he : L1[k]'(by rw [H1.out]; exact hlt) = L2[k]'(by rw [H2.out]; exact hlt)
        · have hd : weqI (L1[k]'(by rw [H1.out]; exact hlt)).A.x (L1[k]'(by rw [H1.out]; exact hlt)).A.y (L1[k]'(by rw [H1.out]; exact hlt)).B.x (L1[k]'(by rw [H1.out]; exact hlt)).B.y (L1[k]'(by rw [H1.out]; exact hlt)).K (L2[k]'(by rw [H2.out]; exact hlt)).A.x (L2[k]'(by rw [H2.out]; exact hlt)).A.y (L2[k]'(by rw [H2.out]; exact hlt)).B.x (L2[k]'(by rw [H2.out]; exact hlt)).B.y (L2[k]'(by rw [H2.out]; exact hlt)).K = true := weqI_iff.2 he
          have HE := Lib.hid he
          clear he e1
          go_wp2
          go_quiet (fail)
          go_wp2
          go_roundw
          case rel => 
            refine ⟨k + 1, by omega, by go_num, Lib.hid ?_, ?_⟩
            · rw [List.take_succ_eq_append_getElem (by rw [H1.out]; exact hlt), List.take_succ_eq_append_getElem (by rw [H2.out]; exact hlt), hT.out, HE.out]
            · exact hw.trans ⟨rfl, rfl, rfl, Nat.le_refl _, fun _ _ => rfl⟩
          case measure => simp [intOf]; omega
        · have hd : weqI (L1[k]'(by rw [H1.out]; exact hlt)).A.x (L1[k]'(by rw [H1.out]; exact hlt)).A.y (L1[k]'(by rw [H1.out]; exact hlt)).B.x (L1[k]'(by rw [H1.out]; exact hlt)).B.y (L1[k]'(by rw [H1.out]; exact hlt)).K (L2[k]'(by rw [H2.out]; exact hlt)).A.x (L2[k]'(by rw [H2.out]; exact hlt)).A.y (L2[k]'(by rw [H2.out]; exact hlt)).B.x (L2[k]'(by rw [H2.out]; exact hlt)).B.y (L2[k]'(by rw [H2.out]; exact hlt)).K = false := by rw [← Bool.not_eq_true, weqI_iff]; exact he
          have hne : decide (L1 = L2) = false := by rw [decide_eq_false_iff_not]; intro e; subst e; exact he rfl
          have HN := Lib.hid hne
          clear he e1 hne
          go_wp2
          go_quiet (fail)
          go_wp2
          go_ret
          exact ⟨ret_bool HN.out.symm, hw.trans ⟨rfl, rfl, rfl, Nat.le_refl _, fun _ _ => rfl⟩⟩
      · have he : L1 = L2 := by
          have := hT.out
          rwa [List.take_of_length_le (by rw [H1.out]; omega), List.take_of_length_le (by rw [H2.out]; omega)] at this
        have hd : decide (L1 = L2) = true := by simpa using he
        have HN := Lib.hid hd
        clear he hd
        go_wp2
        go_ret
        exact ⟨ret_bool HN.out.symm, hw⟩
theorem rcmpW_0 (S T : Wl) (h0 : ¬ cmpP S.A T.A = 0) (w : World) :
    Calls Try.prog 28 #[.agg #[.int .i64 S.A.x, .int .i64 S.A.y, .int .i64 S.B.x, .int .i64 S.B.y, .int .i64 S.K], .agg #[.int .i64 T.A.x, .int .i64 T.A.y, .int .i64 T.B.x, .int .i64 T.B.y, .int .i64 T.K]] w fun e w' => e = .returned (.int .i64 (cmpP S.A T.A)) ∧ Below w.heap.size w w' := by
  have c1 := rcmp_pt S.A T.A
  have hd : (cmpP S.A T.A == 0) = false := by simpa using h0
  clear h0
  generalize cmpP S.A T.A = n at *
  go_enter Try.func28, Try.ntmps28
  go_wp2_with fail
  refine at_call fun W1 hW => ?_
  have Bs : Box W1 (w.heap.size) [.int .i64 S.A.x, .int .i64 S.A.y, .int .i64 S.B.x, .int .i64 S.B.y, .int .i64 S.K] 35 := by rw [hW]; exact (Box.new rfl).old _
  have Bt : Box W1 (w.heap.size + 1) [.int .i64 T.A.x, .int .i64 T.A.y, .int .i64 T.B.x, .int .i64 T.B.y, .int .i64 T.K] 35 := by rw [hW]; exact Box.new (by simp)
  have hw : Below w.heap.size w W1 := by rw [hW]; go_grown
  clear hW
  refine (c1 _).mono ?_
  rintro e w2 ⟨rfl, hb⟩
  replace Bs := Bs.ext hb rfl
  replace Bt := Bt.ext hb rfl
  replace hw := hw.trans (hb.mono hw.size)
  clear hb
  obtain ⟨xs, ys, zs, vs⟩ := Bs.facts
  obtain ⟨xt, yt, zt, vt⟩ := Bt.facts
  go_wp2
  go_ret
  exact ⟨rfl, by have hl := hw.size; go_grown⟩

theorem rcmpW_1 (S T : Wl) (h0 : cmpP S.A T.A = 0) (h1 : ¬ cmpP S.B T.B = 0) (w : World) :
    Calls Try.prog 28 #[.agg #[.int .i64 S.A.x, .int .i64 S.A.y, .int .i64 S.B.x, .int .i64 S.B.y, .int .i64 S.K], .agg #[.int .i64 T.A.x, .int .i64 T.A.y, .int .i64 T.B.x, .int .i64 T.B.y, .int .i64 T.K]] w fun e w' => e = .returned (.int .i64 (cmpP S.B T.B)) ∧ Below w.heap.size w w' := by
  have c1 := rcmp_pt S.A T.A
  have c2 := rcmp_pt S.B T.B
  rw [h0] at c1
  have hd : (cmpP S.B T.B == 0) = false := by simpa using h1
  clear h0 h1
  generalize cmpP S.B T.B = n at *
  go_enter Try.func28, Try.ntmps28
  go_wp2_with fail
  refine at_call fun W1 hW => ?_
  have Bs : Box W1 (w.heap.size) [.int .i64 S.A.x, .int .i64 S.A.y, .int .i64 S.B.x, .int .i64 S.B.y, .int .i64 S.K] 35 := by rw [hW]; exact (Box.new rfl).old _
  have Bt : Box W1 (w.heap.size + 1) [.int .i64 T.A.x, .int .i64 T.A.y, .int .i64 T.B.x, .int .i64 T.B.y, .int .i64 T.K] 35 := by rw [hW]; exact Box.new (by simp)
  have hw : Below w.heap.size w W1 := by rw [hW]; go_grown
  clear hW
  refine (c1 _).mono ?_
  rintro e w2 ⟨rfl, hb⟩
  replace Bs := Bs.ext hb rfl
  replace Bt := Bt.ext hb rfl
  replace hw := hw.trans (hb.mono hw.size)
  clear hb
  obtain ⟨xs, ys, zs, vs⟩ := Bs.facts
  obtain ⟨xt, yt, zt, vt⟩ := Bt.facts
  go_wp2_with fail
  refine (c2 _).mono ?_
  rintro e w3 ⟨rfl, hb⟩
  clear xs ys zs vs xt yt zt vt
  replace Bs := Bs.ext hb rfl
  replace Bt := Bt.ext hb rfl
  replace hw := hw.trans (hb.mono hw.size)
  clear hb
  obtain ⟨xs, ys, zs, vs⟩ := Bs.facts
  obtain ⟨xt, yt, zt, vt⟩ := Bt.facts
  go_wp2
  go_ret
  exact ⟨rfl, by have hl := hw.size; go_grown⟩

theorem rcmpW_2 (S T : Wl) (h0 : cmpP S.A T.A = 0) (h1 : cmpP S.B T.B = 0) (hs : 0 ≤ S.K ∧ S.K ≤ 2) (ht : 0 ≤ T.K ∧ T.K ≤ 2) (w : World) :
    Calls Try.prog 28 #[.agg #[.int .i64 S.A.x, .int .i64 S.A.y, .int .i64 S.B.x, .int .i64 S.B.y, .int .i64 S.K], .agg #[.int .i64 T.A.x, .int .i64 T.A.y, .int .i64 T.B.x, .int .i64 T.B.y, .int .i64 T.K]] w fun e w' => e = .returned (.int .i64 (cmpN S.K T.K)) ∧ Below w.heap.size w w' := by
  have c1 := rcmp_pt S.A T.A
  have c2 := rcmp_pt S.B T.B
  rw [h0] at c1
  rw [h1] at c2
  have c3 : ∀ W : World, Calls Try.prog 54 #[.int .i64 (S.K - T.K)] W fun e w' => e = .returned (.int .i64 (sgn (S.K - T.K))) ∧ Below W.heap.size W w' := fun W => (rsign_any (S.K - T.K) W).mono fun _ _ ⟨h1, h2⟩ => ⟨h1, by rw [h2]; exact Below.refl _ _⟩
  have hw0 : wrap64 (S.K - T.K) = S.K - T.K := by rw [w64]; omega
  rw [show cmpN S.K T.K = sgn (S.K - T.K) by rfl]
  generalize sgn (S.K - T.K) = n at *
  clear h0 h1
  go_enter Try.func28, Try.ntmps28
  go_wp2_with fail
  refine at_call fun W1 hW => ?_
  have Bs : Box W1 (w.heap.size) [.int .i64 S.A.x, .int .i64 S.A.y, .int .i64 S.B.x, .int .i64 S.B.y, .int .i64 S.K] 35 := by rw [hW]; exact (Box.new rfl).old _
  have Bt : Box W1 (w.heap.size + 1) [.int .i64 T.A.x, .int .i64 T.A.y, .int .i64 T.B.x, .int .i64 T.B.y, .int .i64 T.K] 35 := by rw [hW]; exact Box.new (by simp)
  have hw : Below w.heap.size w W1 := by rw [hW]; go_grown
  clear hW
  refine (c1 _).mono ?_
  rintro e w2 ⟨rfl, hb⟩
  replace Bs := Bs.ext hb rfl
  replace Bt := Bt.ext hb rfl
  replace hw := hw.trans (hb.mono hw.size)
  clear hb
  obtain ⟨xs, ys, zs, vs⟩ := Bs.facts
  obtain ⟨xt, yt, zt, vt⟩ := Bt.facts
  go_wp2_with fail
  refine (c2 _).mono ?_
  rintro e w3 ⟨rfl, hb⟩
  clear xs ys zs vs xt yt zt vt
  replace Bs := Bs.ext hb rfl
  replace Bt := Bt.ext hb rfl
  replace hw := hw.trans (hb.mono hw.size)
  clear hb
  obtain ⟨xs, ys, zs, vs⟩ := Bs.facts
  obtain ⟨xt, yt, zt, vt⟩ := Bt.facts
  go_wp2_with fail
  refine (c3 _).mono ?_
  rintro e w4 ⟨rfl, hb⟩
  clear xs ys zs vs xt yt zt vt
  replace Bs := Bs.ext hb rfl
  replace Bt := Bt.ext hb rfl
  replace hw := hw.trans (hb.mono hw.size)
  clear hb
  obtain ⟨xs, ys, zs, vs⟩ := Bs.facts
  obtain ⟨xt, yt, zt, vt⟩ := Bt.facts
  go_wp2
  go_ret
  exact ⟨rfl, by have hl := hw.size; go_grown⟩

theorem rcmpW_any (S T : Wl) (hs : 0 ≤ S.K ∧ S.K ≤ 2) (ht : 0 ≤ T.K ∧ T.K ≤ 2) (w : World) :
    Calls Try.prog 28 #[.agg #[.int .i64 S.A.x, .int .i64 S.A.y, .int .i64 S.B.x, .int .i64 S.B.y, .int .i64 S.K], .agg #[.int .i64 T.A.x, .int .i64 T.A.y, .int .i64 T.B.x, .int .i64 T.B.y, .int .i64 T.K]] w fun e w' => e = .returned (.int .i64 (cmpW S T)) ∧ Below w.heap.size w w' := by
  by_cases h0 : cmpP S.A T.A = 0
  · by_cases h1 : cmpP S.B T.B = 0
    · rw [show cmpW S T = cmpN S.K T.K by unfold cmpW; simp [h0, h1]]; exact rcmpW_2 S T h0 h1 hs ht w
    · rw [show cmpW S T = cmpP S.B T.B by unfold cmpW; simp [h0, h1]]; exact rcmpW_1 S T h0 h1 w
  · rw [show cmpW S T = cmpP S.A T.A by unfold cmpW; simp [h0]]; exact rcmpW_0 S T h0 w
end Go.Proofs.Ytnocdecimcpkfaa
