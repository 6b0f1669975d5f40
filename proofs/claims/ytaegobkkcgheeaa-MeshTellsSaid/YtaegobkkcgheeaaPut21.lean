/- Put together: TrM, Ord, Rise, Shelf. -/
import Derived.Test.YtaegobkkcgheeaaPut20
import Derived.Test.YtaegobkkcgheeaaRows
import Derived.Test.YtaegobkkcgheeaaPut13
import Derived.Test.YtaegobkkcgheeaaPut18
import Derived.Shelf.SlSortCmp.NoneTotal
import Derived.Ground.SlsfProg
import Derived.Test.YtaegobkkcgheeaaProg
namespace Go.Proofs.Ytaegobkkcgheeaa
open Go.RowKit
theorem mk_ok {a b c : Pt} (h0 : ¬ ori a b c = 0) : valT (mk a b c) = true ∧
    (mk a b c = ⟨a, b, c⟩ ∨ mk a b c = ⟨b, c, a⟩ ∨ mk a b c = ⟨c, a, b⟩ ∨ mk a b c = ⟨a, c, b⟩ ∨ mk a b c = ⟨c, b, a⟩ ∨ mk a b c = ⟨b, a, c⟩) := by
  obtain ⟨va, vb, vc, n1, n2, n3⟩ := mk_keys h0
  have hb := ori_bd a b c
  rw [val_eq]; unfold valS lds
  by_cases h1 : ori a b c = 1
  · have e0 : mk a b c = mkT a b c := by unfold mk; rw [if_neg h0, if_pos h1]
    rw [e0]
    rcases mkT_rot va vb vc n1 n2 n3 with ⟨x1, x2, e⟩ | ⟨x1, x2, e⟩ | ⟨x1, x2, e⟩ <;> rw [e] <;> simp only
    · rw [leq_key va vb, leq_key va vc]; refine ⟨?_, by simp⟩; simp only [Bool.and_eq_true, decide_eq_true_eq]; omega
    · rw [ori_cyc, leq_key vb vc, leq_key vb va]; refine ⟨?_, by simp⟩; simp only [Bool.and_eq_true, decide_eq_true_eq]; omega
    · rw [ori_cyc, ori_cyc, leq_key vc va, leq_key vc vb]; refine ⟨?_, by simp⟩; simp only [Bool.and_eq_true, decide_eq_true_eq]; omega
  · have e0 : mk a b c = mkT a c b := by unfold mk; rw [if_neg h0, if_neg h1]
    have h2 : ori a c b = 1 := by rw [ori_swap2]; omega
    rw [e0]
    rcases mkT_rot va vc vb n2 n1 n3.symm with ⟨x1, x2, e⟩ | ⟨x1, x2, e⟩ | ⟨x1, x2, e⟩ <;> rw [e] <;> simp only
    · rw [leq_key va vb, leq_key va vc]; refine ⟨?_, by simp⟩; simp only [Bool.and_eq_true, decide_eq_true_eq]; omega
    · rw [ori_cyc, leq_key vc vb, leq_key vc va]; refine ⟨?_, by simp⟩; simp only [Bool.and_eq_true, decide_eq_true_eq]; omega
    · rw [ori_cyc, ori_cyc, leq_key vb va, leq_key vb vc]; refine ⟨?_, by simp⟩; simp only [Bool.and_eq_true, decide_eq_true_eq]; omega
theorem mk_corners {a b c : Pt} (h0 : ¬ ori a b c = 0) (p : Pt) : (p = a ∨ p = b ∨ p = c) ↔ (p = (mk a b c).A ∨ p = (mk a b c).B ∨ p = (mk a b c).C) := by
  obtain ⟨_, e | e | e | e | e | e⟩ := mk_ok h0 <;> rw [e] <;> simp only <;> constructor <;> rintro (h | h | h) <;> simp [h]
theorem tri_signs {T : Tri3} (h : valT T = true) : vld T.A = true ∧ vld T.B = true ∧ vld T.C = true ∧ 0 < det T.A T.B T.C := by
  obtain ⟨va, vb, vc⟩ := valT_vld h
  rw [val_eq] at h
  unfold valS at h
  simp only [Bool.and_eq_true, decide_eq_true_eq] at h
  have h1 := h.1
  rw [ori_v va vb vc] at h1
  have := sgn_cases (det T.A T.B T.C)
  exact ⟨va, vb, vc, by omega⟩
theorem det_sum (a b c p : Pt) : det a b p + det b c p + det c a p = det a b c := by unfold det; grind
theorem corner0 {a b c : Pt} (p : Pt) (hD : 0 < det a b c) : p = a ↔ det a b p = 0 ∧ det c a p = 0 := by
  constructor
  · intro h; subst h; constructor <;> (unfold det; grind)
  · intro ⟨h1, h2⟩
    have e1 : det a b c * (p.x - a.x) = det c a p * (b.x - a.x) + det a b p * (c.x - a.x) := by unfold det; grind
    have e2 : det a b c * (p.y - a.y) = det c a p * (b.y - a.y) + det a b p * (c.y - a.y) := by unfold det; grind
    rw [h1, h2] at e1 e2
    simp only [Int.zero_mul, Int.add_zero] at e1 e2
    rw [Pt.eq_iff]
    rcases Int.mul_eq_zero.1 e1 with h | h
    · omega
    · rcases Int.mul_eq_zero.1 e2 with h' | h'
      · omega
      · omega
theorem scale_le {E x y D : Int} (hE : 0 < E) (hD : 0 < D) (h : E * x = y * D) : 0 ≤ x ↔ 0 ≤ y := by
  have := sgn_scale hE h
  rw [sgn_p hD, Int.mul_one] at this
  have h1 := sgn_cases x
  have h2 := sgn_cases y
  omega
theorem seg_iff {a b c p : Pt} (va : vld a = true) (vb : vld b = true) (vp : vld p = true) (hD : 0 < det a b c) (h : det a b p = 0) :
    onR p a b = true ↔ 0 ≤ det b c p ∧ 0 ≤ det c a p := by
  have hab : a ≠ b := by
    intro e; subst e
    have : det a a c = 0 := by unfold det; grind
    omega
  have hE := EE_pos hab
  obtain ⟨c1, c2⟩ := coll h
  obtain ⟨c3, c4⟩ := coll2 h
  have hb := btw_k hab h
  have e1 : EE a b * det b c p = (EE a b - kk a b p) * det a b c := by
    generalize EE a b = E at *
    generalize kk a b p = k at *
    unfold det at *; grind
  have e2 : EE a b * det c a p = kk a b p * det a b c := by
    generalize EE a b = E at *
    generalize kk a b p = k at *
    unfold det at *; grind
  have s1 := scale_le hE hD e1
  have s2 := scale_le hE hD e2
  unfold onR
  rw [vp, va, vb, h, decide_eq_true rfl, Bool.true_and, Bool.true_and, Bool.true_and, Bool.true_and, hb]
  omega
theorem on_det {p a b : Pt} (h : onR p a b = true) : det a b p = 0 := by
  unfold onR at h
  simp only [Bool.and_eq_true, decide_eq_true_eq] at h
  exact h.2.2.2.1
theorem on_vld {p a b : Pt} (h : onR p a b = true) : vld p = true := by
  unfold onR at h
  simp only [Bool.and_eq_true] at h
  exact h.1
theorem seg_on {a b c p : Pt} (va : vld a = true) (vb : vld b = true) (vp : vld p = true) (hD : 0 < det a b c) :
    onR p a b = true ↔ det a b p = 0 ∧ 0 ≤ det b c p ∧ 0 ≤ det c a p := by
  constructor
  · intro h; exact ⟨on_det h, (seg_iff va vb vp hD (on_det h)).1 h⟩
  · intro ⟨h, k⟩; exact (seg_iff va vb vp hD h).2 k
/-- How many edges have the point on their inside. -/
def cntN (T : Tri3) (p : Pt) : Nat → Int
  | 0 => 0
  | k + 1 => cntN T p k + (if 0 < ori (crn T k) (crn T (k + 1)) p then 1 else 0)
/-- How many edges have the point on them. -/
def cntS (T : Tri3) (p : Pt) : Nat → Int
  | 0 => 0
  | k + 1 => cntS T p k + (if onR p (crn T k) (crn T (k + 1)) = true then 1 else 0)
/-- How many edges make a triangle with the point. -/
def cntP (T : Tri3) (p : Pt) : Nat → Int
  | 0 => 0
  | k + 1 => cntP T p k + (if ori (crn T k) (crn T (k + 1)) p = 0 then 0 else 1)
def sumP (T : Tri3) (p : Pt) : Nat → Int
  | 0 => 0
  | k + 1 => sumP T p k + (if ori (crn T k) (crn T (k + 1)) p = 0 then 0 else twi (mk (crn T k) (crn T (k + 1)) p))
theorem cntN_bd (T : Tri3) (p : Pt) (k : Nat) : 0 ≤ cntN T p k ∧ cntN T p k ≤ k := by
  induction k with
  | zero => exact ⟨Int.le_refl 0, Int.le_refl 0⟩
  | succ k ih => unfold cntN; split <;> omega
theorem cntS_bd (T : Tri3) (p : Pt) (k : Nat) : 0 ≤ cntS T p k ∧ cntS T p k ≤ k := by
  induction k with
  | zero => exact ⟨Int.le_refl 0, Int.le_refl 0⟩
  | succ k ih => unfold cntS; split <;> omega
theorem cntP_bd (T : Tri3) (p : Pt) (k : Nat) : 0 ≤ cntP T p k ∧ cntP T p k ≤ k := by
  induction k with
  | zero => exact ⟨Int.le_refl 0, Int.le_refl 0⟩
  | succ k ih => unfold cntP; split <;> omega
theorem det_bd {a b c : Pt} (ha : vld a = true) (hb : vld b = true) (hc : vld c = true) : -562949886312450 ≤ det a b c ∧ det a b c ≤ 562949886312450 := by
  have := cr_bd (way_sm ha hb) (way_sm ha hc)
  exact this
theorem twi_bd (T : Tri3) : 0 ≤ twi T ∧ twi T ≤ 562949886312450 := by
  unfold twi
  split
  · rename_i h
    obtain ⟨va, vb, vc, hD⟩ := tri_signs h
    have := det_bd va vb vc
    omega
  · omega
theorem sumP_bd (T : Tri3) (p : Pt) (k : Nat) : 0 ≤ sumP T p k ∧ sumP T p k ≤ k * 562949886312450 := by
  induction k with
  | zero => exact ⟨Int.le_refl 0, by simp [sumP]⟩
  | succ k ih =>
    have := twi_bd (mk (crn T k) (crn T (k + 1)) p)
    unfold sumP; split <;> omega
theorem crns (T : Tri3) : crn T 0 = T.A ∧ crn T 1 = T.B ∧ crn T 2 = T.C ∧ crn T 3 = T.A := ⟨rfl, rfl, rfl, rfl⟩
theorem cntN3 (T : Tri3) (p : Pt) : cntN T p 3 = (if 0 < ori T.A T.B p then 1 else 0) + (if 0 < ori T.B T.C p then 1 else 0) + (if 0 < ori T.C T.A p then 1 else 0) := by
  show 0 + _ + _ + _ = _
  rw [Int.zero_add]; rfl
theorem cntS3 (T : Tri3) (p : Pt) : cntS T p 3 = (if onR p T.A T.B = true then 1 else 0) + (if onR p T.B T.C = true then 1 else 0) + (if onR p T.C T.A = true then 1 else 0) := by
  show 0 + _ + _ + _ = _
  rw [Int.zero_add]; rfl
theorem cntP3 (T : Tri3) (p : Pt) : cntP T p 3 = (if ori T.A T.B p = 0 then 0 else 1) + (if ori T.B T.C p = 0 then 0 else 1) + (if ori T.C T.A p = 0 then 0 else 1) := by
  show 0 + _ + _ + _ = _
  rw [Int.zero_add]; rfl
theorem sumP3 (T : Tri3) (p : Pt) : sumP T p 3 = (if ori T.A T.B p = 0 then 0 else twi (mk T.A T.B p)) + (if ori T.B T.C p = 0 then 0 else twi (mk T.B T.C p)) + (if ori T.C T.A p = 0 then 0 else twi (mk T.C T.A p)) := by
  show 0 + _ + _ + _ = _
  rw [Int.zero_add]; rfl
theorem ori_sg {a b p : Pt} (va : vld a = true) (vb : vld b = true) (vp : vld p = true) : (0 < ori a b p ↔ 0 < det a b p) ∧ (0 ≤ ori a b p ↔ 0 ≤ det a b p) ∧ (ori a b p = 0 ↔ det a b p = 0) := by
  rw [ori_v va vb vp]
  have := sgn_cases (det a b p)
  omega
theorem twi_mk {x y z : Pt} (h : ori x y z = 1) : twi (mk x y z) = det x y z := by
  have h0 : ¬ ori x y z = 0 := by omega
  obtain ⟨va, vb, vc, n1, n2, n3⟩ := mk_keys h0
  have e0 : mk x y z = mkT x y z := by unfold mk; rw [if_neg h0, if_pos h]
  unfold twi
  rw [if_pos (mk_ok h0).1, e0]
  rcases mkT_rot va vb vc n1 n2 n3 with ⟨_, _, e⟩ | ⟨_, _, e⟩ | ⟨_, _, e⟩ <;> rw [e] <;> simp only
  · rw [det_cyc]
  · rw [det_cyc, det_cyc]
end Go.Proofs.Ytaegobkkcgheeaa

namespace Go.Proofs.Ytaegobkkcgheeaa
open Go.RowKit Go.Sort

theorem cmpP_neg (p q : Pt) : cmpP q p = -cmpP p q := by
  unfold cmpP cmpN sgn; (repeat' split) <;> omega
theorem cmpP_eq0 {p q : Pt} : cmpP p q = 0 ↔ p = q := by
  rw [Pt.eq_iff]; unfold cmpP cmpN sgn; (repeat' split) <;> omega
theorem cmpP_lt {p q : Pt} : cmpP p q < 0 ↔ p.x < q.x ∨ (p.x = q.x ∧ p.y < q.y) := by
  unfold cmpP cmpN sgn; (repeat' split) <;> omega
theorem cmpP_trans {p q r : Pt} (h1 : cmpP p q < 0) (h2 : cmpP q r < 0) : cmpP p r < 0 := by
  rw [cmpP_lt] at *; omega
theorem cmpT_neg (S T : Tri3) : cmpT T S = -cmpT S T := by
  unfold cmpT; rw [cmpP_neg S.A T.A, cmpP_neg S.B T.B, cmpP_neg S.C T.C]; (repeat' split) <;> omega
theorem cmpT_eq0 {S T : Tri3} : cmpT S T = 0 ↔ S = T := by
  rw [Tri3.eq_iff, ← cmpP_eq0, ← cmpP_eq0 (p := S.B), ← cmpP_eq0 (p := S.C)]
  unfold cmpT; (repeat' split) <;> omega
theorem cmpT_lt {S T : Tri3} : cmpT S T < 0 ↔ cmpP S.A T.A < 0 ∨ (S.A = T.A ∧ (cmpP S.B T.B < 0 ∨ (S.B = T.B ∧ cmpP S.C T.C < 0))) := by
  rw [← cmpP_eq0 (p := S.A), ← cmpP_eq0 (p := S.B)]
  unfold cmpT; (repeat' split) <;> omega
theorem cmpT_trans {S T U : Tri3} (h1 : cmpT S T < 0) (h2 : cmpT T U < 0) : cmpT S U < 0 := by
  rw [cmpT_lt] at *
  rcases h1 with h1 | ⟨e1, h1⟩ <;> rcases h2 with h2 | ⟨e2, h2⟩
  · exact .inl (cmpP_trans h1 h2)
  · exact .inl (e2 ▸ h1)
  · exact .inl (e1 ▸ h2)
  · refine .inr ⟨e1.trans e2, ?_⟩
    rcases h1 with h1 | ⟨f1, h1⟩ <;> rcases h2 with h2 | ⟨f2, h2⟩
    · exact .inl (cmpP_trans h1 h2)
    · exact .inl (f2 ▸ h1)
    · exact .inl (f1 ▸ h2)
    · exact .inr ⟨f1.trans f2, cmpP_trans h1 h2⟩
/-- A whole order, as a comparison that tells -1, 0 or 1. -/
structure Whole {α : Type} (c : α → α → Int) : Prop where
  neg : ∀ x y, c y x = -c x y
  eq0 : ∀ {x y}, c x y = 0 ↔ x = y
  trans : ∀ {x y z}, c x y < 0 → c y z < 0 → c x z < 0
theorem wholeP : Whole cmpP := ⟨cmpP_neg, cmpP_eq0, cmpP_trans⟩
theorem wholeT : Whole cmpT := ⟨cmpT_neg, cmpT_eq0, cmpT_trans⟩
section
variable {α : Type} {c : α → α → Int}
theorem Whole.swo (W : Whole c) : SWO (ltOf c) where
  irrefl x := by unfold ltOf; have := (W.eq0 (x := x) (y := x)).2 rfl; simp; omega
  trans x y z h1 h2 := by unfold ltOf at *; simp at *; exact W.trans h1 h2
  ntrans x y z h1 h2 := by
    unfold ltOf at *; simp at *
    rcases Int.lt_or_le (c x z) 0 with h | h
    · exfalso
      have n1 := W.neg x y
      have n2 := W.neg y z
      rcases Int.lt_or_eq_of_le h1 with g1 | g1
      · have := W.trans (x := y) (y := x) (z := z) (by omega) h
        omega
      · have e := W.eq0.1 g1.symm
        subst e; omega
    · exact h
theorem Whole.one (W : Whole c) : ∀ x y, ltOf c x y = false → ltOf c y x = false → x = y := fun x y h1 h2 => by
  unfold ltOf at *
  simp at h1 h2
  rw [W.neg x y] at h2
  exact W.eq0.1 (by omega)
/-- The list in order. -/
def srt (c : α → α → Int) (L : List α) : List α := L.mergeSort fun x y => !(ltOf c) y x
/-- In order: nobody is ahead of one who stands ahead. -/
def InOrder (c : α → α → Int) (L : List α) : Prop := L.Pairwise fun x y => c x y ≤ 0
theorem srt_perm (L : List α) : (srt c L).Perm L := List.mergeSort_perm _ _
theorem Whole.le_trans (W : Whole c) {x y z : α} (h1 : c x y ≤ 0) (h2 : c y z ≤ 0) : c x z ≤ 0 := by
  rcases Int.lt_or_eq_of_le h1 with g1 | g1
  · rcases Int.lt_or_eq_of_le h2 with g2 | g2
    · have := W.trans g1 g2; omega
    · have e := W.eq0.1 g2; subst e; exact h1
  · have e := W.eq0.1 g1; subst e; exact h2
theorem Whole.srt_order (W : Whole c) (L : List α) : InOrder c (srt c L) := by
  have h := List.pairwise_mergeSort (le := fun x y => !(ltOf c) y x) (fun a b d h1 h2 => by
    unfold ltOf at *
    simp at *
    have n1 := W.neg a b
    have n2 := W.neg b d
    have n3 := W.neg a d
    have := W.le_trans (x := a) (y := b) (z := d) (by omega) (by omega)
    omega) (fun a b => by
    unfold ltOf
    have := W.neg a b
    simp
    omega) L
  refine h.imp fun {a b} h1 => ?_
  unfold ltOf at h1
  simp at h1
  have := W.neg a b
  omega
theorem Whole.unique (W : Whole c) : ∀ {L M : List α}, L.Perm M → InOrder c L → InOrder c M → L = M
  | [], M, hp, _, _ => by rw [List.nil_perm.1 hp]
  | x :: L, M, hp, h1, h2 => by
    cases M with
    | nil => exact absurd hp.length_eq (by simp)
    | cons y M =>
      unfold InOrder at *
      rw [List.pairwise_cons] at h1 h2
      have e : x = y := by
        rcases List.mem_cons.1 (hp.mem_iff.1 (List.mem_cons_self)) with e | hx
        · exact e
        · rcases List.mem_cons.1 (hp.mem_iff.2 (List.mem_cons_self)) with e | hy
          · exact e.symm
          · have a1 := h1.1 y hy
            have a2 := h2.1 x hx
            have := W.neg x y
            exact W.eq0.1 (by omega)
      subst e
      rw [Whole.unique W (hp.cons_inv) h1.2 h2.2]
theorem Whole.srt_eq (W : Whole c) {L M : List α} (hp : M.Perm L) (ho : InOrder c M) : M = srt c L :=
  W.unique (hp.trans (srt_perm L).symm) ho (W.srt_order L)
theorem Whole.srt_of_perm (W : Whole c) {L M : List α} (hp : M.Perm L) : srt c M = srt c L := W.srt_eq ((srt_perm M).trans hp) (W.srt_order M)
end
end Go.Proofs.Ytaegobkkcgheeaa

namespace Go.Proofs.Ytaegobkkcgheeaa
section
variable {α : Type} {c : α → α → Int}
def Rising (c : α → α → Int) (L : List α) : Prop := L.Pairwise fun x y => c x y < 0
theorem rising_unique (W : Whole c) : ∀ {L M : List α}, Rising c L → Rising c M → (∀ p, p ∈ L ↔ p ∈ M) → L = M
  | [], M, _, _, h => by
    cases M with
    | nil => rfl
    | cons y M => exact absurd ((h y).2 (by simp)) (by simp)
  | x :: L, M, h1, h2, h => by
    cases M with
    | nil => exact absurd ((h x).1 (by simp)) (by simp)
    | cons y M =>
      unfold Rising at h1 h2
      rw [List.pairwise_cons] at h1 h2
      have irr : ∀ z, ¬ c z z < 0 := fun z => by have := (W.eq0 (x := z) (y := z)).2 rfl; omega
      have e : x = y := by
        rcases List.mem_cons.1 ((h x).1 (by simp)) with e | hx
        · exact e
        · rcases List.mem_cons.1 ((h y).2 (by simp)) with e | hy
          · exact e.symm
          · exact absurd (W.trans (h1.1 y hy) (h2.1 x hx)) (irr _)
      subst e
      rw [rising_unique W h1.2 h2.2 (fun p => ⟨fun hp => ?_, fun hp => ?_⟩)]
      · rcases List.mem_cons.1 ((h p).1 (by simp [hp])) with e | h'
        · subst e; exact absurd (h1.1 p hp) (irr p)
        · exact h'
      · rcases List.mem_cons.1 ((h p).2 (by simp [hp])) with e | h'
        · subst e; exact absurd (h2.1 p hp) (irr p)
        · exact h'
/-- One comes at its place. -/
theorem rising_insert (W : Whole c) {M : List α} {x : α} {k : Nat} (h : Rising c M) (hk : k ≤ M.length) (hlo : ∀ (i : Nat) (hi : i < k), c (M[i]'(by omega)) x < 0) (hhi : ∀ (i : Nat) (_ : k ≤ i) (h2 : i < M.length), 0 < c (M[i]'h2) x) :
    Rising c (M.take k ++ x :: M.drop k) ∧ ∀ p, p ∈ M.take k ++ x :: M.drop k ↔ p ∈ M ∨ p = x := by
  unfold Rising at *
  have hs : M.take k ++ M.drop k = M := List.take_append_drop k M
  rw [← hs, List.pairwise_append] at h
  have g1 : ∀ y ∈ M.take k, c y x < 0 := fun y hy => by
    obtain ⟨i, hi, e⟩ := List.getElem_of_mem hy
    simp only [List.length_take] at hi
    rw [← e, List.getElem_take]
    exact hlo i (by omega)
  have g2 : ∀ y ∈ M.drop k, c x y < 0 := fun y hy => by
    obtain ⟨i, hi, e⟩ := List.getElem_of_mem hy
    simp only [List.length_drop] at hi
    rw [← e, List.getElem_drop]
    have := hhi (k + i) (by omega) (by omega)
    have := W.neg (M[k + i]'(by omega)) x
    omega
  refine ⟨?_, fun p => ?_⟩
  · rw [List.pairwise_append, List.pairwise_cons]
    exact ⟨h.1, ⟨g2, h.2.1⟩, fun a ha b hb => by
      rcases List.mem_cons.1 hb with rfl | hb
      · exact g1 a ha
      · exact h.2.2 a ha b hb⟩
  · constructor
    · intro hp
      rcases List.mem_append.1 hp with hp | hp
      · exact .inl (List.mem_of_mem_take hp)
      · rcases List.mem_cons.1 hp with rfl | hp
        · exact .inr rfl
        · exact .inl (List.mem_of_mem_drop hp)
    · rintro (hp | rfl)
      · rw [← hs] at hp
        rcases List.mem_append.1 hp with hp | hp
        · exact List.mem_append.2 (.inl hp)
        · exact List.mem_append.2 (.inr (List.mem_cons_of_mem _ hp))
      · exact List.mem_append.2 (.inr List.mem_cons_self)
theorem rising_lt {M : List α} (h : Rising c M) {i j : Nat} (hi : i < M.length) (hj : j < M.length) (hij : i < j) : c M[i] M[j] < 0 := by
  unfold Rising at h
  rw [List.pairwise_iff_getElem] at h
  exact h i j hi hj hij
/-- All of those ahead of one that is less are less. -/
theorem rising_below (W : Whole c) {M : List α} {x : α} {k : Nat} (h : Rising c M) (hk : k < M.length) (hx : c M[k] x < 0) : ∀ (i : Nat) (hi : i < k + 1), c (M[i]'(by omega)) x < 0 := fun i hi => by
  by_cases e : i = k
  · subst e; exact hx
  · exact W.trans (rising_lt h (by omega) hk (by omega)) hx
/-- What stands while those behind a place move one on. -/
structure Moved (M S : List α) (k : Nat) : Prop where
  len : S.length = M.length + 1
  lo : S.take k = M.take k
  hi : S.drop (k + 1) = M.drop k
theorem moved_start (M : List α) (x : α) : Moved M (M ++ [x]) M.length := ⟨by simp, by simp, by simp⟩
theorem Moved.get {M S : List α} {k : Nat} (h : Moved M S (k + 1)) (hk : k < M.length) : S[k]'(by rw [h.len]; omega) = M[k] := by
  have := congrArg (fun l => l[k]?) h.lo
  simp only [List.getElem?_take, show k < k + 1 by omega, if_true] at this
  rw [List.getElem?_eq_getElem (by rw [h.len]; omega), List.getElem?_eq_getElem hk] at this
  exact Option.some.inj this
theorem Moved.step {M S : List α} {k : Nat} (h : Moved M S (k + 1)) (hk : k < M.length) : Moved M (S.set (k + 1) M[k]) k := by
  refine ⟨by simp [h.len], ?_, ?_⟩
  · rw [List.take_set_of_le (by omega)]
    have := congrArg (List.take k) h.lo
    simpa [List.take_take, Nat.min_eq_left (Nat.le_succ k)] using this
  · rw [List.drop_set, if_neg (by omega), Nat.sub_self, List.drop_eq_getElem_cons (by rw [h.len]; omega), List.set_cons_zero, h.hi]
    exact (List.drop_eq_getElem_cons hk).symm
theorem Moved.done {M S : List α} {k : Nat} (h : Moved M S k) (hk : k ≤ M.length) (x : α) : S.set k x = M.take k ++ x :: M.drop k := by
  rw [List.set_eq_take_append_cons_drop, if_pos (by rw [h.len]; omega), h.lo, h.hi]
end
end Go.Proofs.Ytaegobkkcgheeaa

namespace Go.Proofs.Ytaegobkkcgheeaa
open Go.Shelf Go.Proofs
def sortTri_ren : Go.Shelf.Ren := ⟨fun | 6 => 67 | 15 => 71 | 14 => 73 | 28 => 82 | 29 => 83 | 20 => 84 | 21 => 85 | 22 => 86 | 23 => 87 | 24 => 88 | 25 => 89 | 26 => 90 | 27 => 91 | 46 => 97 | 47 => 93 | 48 => 94 | 49 => 98 | 50 => 99 | 57 => 101 | n => n, fun | 22 => 42 | 24 => 25 | 25 => 56 | 3 => 3 | 39 => 93 | 0 => 0 | 53 => 104 | 55 => 106 | 4 => 4 | 46 => 97 | 45 => 96 | 50 => 101 | 5 => 5 | 9 => 9 | 66 => 112 | 70 => 116 | 76 => 120 | 77 => 121 | n => n, fun | n => n⟩
theorem sortTri : Go.Proofs.SlLaysF0.n6 Try.prog sortTri_ren := {
  mixed := by kernel_rfl
  f6 := ⟨Try.f67.name, by decide, Try.func67.trans (congrArg some (by kernel_rfl))⟩
  f14 := ⟨Try.f73.name, by decide, Try.func73.trans (congrArg some (by kernel_rfl))⟩
  f15 := Try.func71.trans (congrArg some (by kernel_rfl))
  f20 := ⟨Try.f84.name, by decide, Try.func84.trans (congrArg some (by kernel_rfl))⟩
  f21 := ⟨Try.f85.name, by decide, Try.func85.trans (congrArg some (by kernel_rfl))⟩
  f22 := ⟨Try.f86.name, by decide, Try.func86.trans (congrArg some (by kernel_rfl))⟩
  f23 := ⟨Try.f87.name, by decide, Try.func87.trans (congrArg some (by kernel_rfl))⟩
  f24 := ⟨Try.f88.name, by decide, Try.func88.trans (congrArg some (by kernel_rfl))⟩
  f25 := ⟨Try.f89.name, by decide, Try.func89.trans (congrArg some (by kernel_rfl))⟩
  f26 := ⟨Try.f90.name, by decide, Try.func90.trans (congrArg some (by kernel_rfl))⟩
  f27 := ⟨Try.f91.name, by decide, Try.func91.trans (congrArg some (by kernel_rfl))⟩
  f28 := Try.func82.trans (congrArg some (by kernel_rfl))
  f29 := Try.func83.trans (congrArg some (by kernel_rfl))
  f46 := ⟨Try.f97.name, by decide, Try.func97.trans (congrArg some (by kernel_rfl))⟩
  f47 := Try.func93.trans (congrArg some (by kernel_rfl))
  f48 := Try.func94.trans (congrArg some (by kernel_rfl))
  f49 := ⟨Try.f98.name, by decide, Try.func98.trans (congrArg some (by kernel_rfl))⟩
  f50 := ⟨Try.f99.name, by decide, Try.func99.trans (congrArg some (by kernel_rfl))⟩
  f57 := ⟨Try.f101.name, by decide, Try.func101.trans (congrArg some (by kernel_rfl))⟩
  t0 := Try.underlying0
  a0 := Try.isAgg0
  z0 := Try.sizeOf0
  v0 := Try.zeroValue0
  t3 := Try.underlying3
  a3 := Try.isAgg3
  z3 := Try.sizeOf3
  v3 := Try.zeroValue3
  t4 := Try.underlying4
  a4 := Try.isAgg4
  z4 := Try.sizeOf4
  v4 := Try.zeroValue4
  t5 := Try.underlying5
  a5 := Try.isAgg5
  z5 := Try.sizeOf5
  v5 := Try.zeroValue5
  t9 := Try.underlying9
  a9 := Try.isAgg9
  z9 := Try.sizeOf9
  v9 := Try.zeroValue9
  t22 := Try.underlying42
  a22 := Try.isAgg42
  z22 := Try.sizeOf42
  v22 := Try.zeroValue42
  t25 := Try.underlying56
  a25 := Try.isAgg56
  z25 := Try.sizeOf56
  v25 := Try.zeroValue56
  t39 := Try.underlying93
  a39 := Try.isAgg93
  z39 := Try.sizeOf93
  v39 := Try.zeroValue93
  t45 := Try.underlying96
  a45 := Try.isAgg96
  z45 := Try.sizeOf96
  v45 := Try.zeroValue96
  t46 := Try.underlying97
  a46 := Try.isAgg97
  z46 := Try.sizeOf97
  v46 := Try.zeroValue97
  t50 := Try.underlying101
  a50 := Try.isAgg101
  z50 := Try.sizeOf101
  v50 := Try.zeroValue101
  t53 := Try.underlying104
  a53 := Try.isAgg104
  z53 := Try.sizeOf104
  v53 := Try.zeroValue104
  t55 := Try.underlying106
  a55 := Try.isAgg106
  z55 := Try.sizeOf106
  v55 := Try.zeroValue106
  t66 := Try.underlying112
  a66 := Try.isAgg112
  z66 := Try.sizeOf112
  v66 := Try.zeroValue112
  t70 := Try.underlying116
  a70 := Try.isAgg116
  z70 := Try.sizeOf116
  v70 := Try.zeroValue116
  t76 := Try.underlying120
  a76 := Try.isAgg120
  z76 := Try.sizeOf120
  v76 := Try.zeroValue120
  t77 := Try.underlying121
  a77 := Try.isAgg121
  z77 := Try.sizeOf121
  v77 := Try.zeroValue121 }
def sortPt_ren : Go.Shelf.Ren := ⟨fun | 6 => 59 | 15 => 71 | 14 => 70 | 28 => 82 | 29 => 83 | 20 => 74 | 21 => 75 | 22 => 76 | 23 => 77 | 24 => 78 | 25 => 79 | 26 => 80 | 27 => 81 | 46 => 92 | 47 => 93 | 48 => 94 | 49 => 95 | 50 => 96 | 57 => 100 | n => n, fun | 22 => 32 | 24 => 23 | 25 => 57 | 3 => 3 | 39 => 93 | 0 => 0 | 53 => 104 | 55 => 106 | 4 => 4 | 46 => 97 | 45 => 96 | 50 => 101 | 5 => 5 | 9 => 9 | 66 => 112 | 70 => 116 | 76 => 120 | 77 => 121 | n => n, fun | n => n⟩
theorem sortPt : Go.Proofs.SlLaysF0.n6 Try.prog sortPt_ren := {
  mixed := by kernel_rfl
  f6 := ⟨Try.f59.name, by decide, Try.func59.trans (congrArg some (by kernel_rfl))⟩
  f14 := ⟨Try.f70.name, by decide, Try.func70.trans (congrArg some (by kernel_rfl))⟩
  f15 := Try.func71.trans (congrArg some (by kernel_rfl))
  f20 := ⟨Try.f74.name, by decide, Try.func74.trans (congrArg some (by kernel_rfl))⟩
  f21 := ⟨Try.f75.name, by decide, Try.func75.trans (congrArg some (by kernel_rfl))⟩
  f22 := ⟨Try.f76.name, by decide, Try.func76.trans (congrArg some (by kernel_rfl))⟩
  f23 := ⟨Try.f77.name, by decide, Try.func77.trans (congrArg some (by kernel_rfl))⟩
  f24 := ⟨Try.f78.name, by decide, Try.func78.trans (congrArg some (by kernel_rfl))⟩
  f25 := ⟨Try.f79.name, by decide, Try.func79.trans (congrArg some (by kernel_rfl))⟩
  f26 := ⟨Try.f80.name, by decide, Try.func80.trans (congrArg some (by kernel_rfl))⟩
  f27 := ⟨Try.f81.name, by decide, Try.func81.trans (congrArg some (by kernel_rfl))⟩
  f28 := Try.func82.trans (congrArg some (by kernel_rfl))
  f29 := Try.func83.trans (congrArg some (by kernel_rfl))
  f46 := ⟨Try.f92.name, by decide, Try.func92.trans (congrArg some (by kernel_rfl))⟩
  f47 := Try.func93.trans (congrArg some (by kernel_rfl))
  f48 := Try.func94.trans (congrArg some (by kernel_rfl))
  f49 := ⟨Try.f95.name, by decide, Try.func95.trans (congrArg some (by kernel_rfl))⟩
  f50 := ⟨Try.f96.name, by decide, Try.func96.trans (congrArg some (by kernel_rfl))⟩
  f57 := ⟨Try.f100.name, by decide, Try.func100.trans (congrArg some (by kernel_rfl))⟩
  t0 := Try.underlying0
  a0 := Try.isAgg0
  z0 := Try.sizeOf0
  v0 := Try.zeroValue0
  t3 := Try.underlying3
  a3 := Try.isAgg3
  z3 := Try.sizeOf3
  v3 := Try.zeroValue3
  t4 := Try.underlying4
  a4 := Try.isAgg4
  z4 := Try.sizeOf4
  v4 := Try.zeroValue4
  t5 := Try.underlying5
  a5 := Try.isAgg5
  z5 := Try.sizeOf5
  v5 := Try.zeroValue5
  t9 := Try.underlying9
  a9 := Try.isAgg9
  z9 := Try.sizeOf9
  v9 := Try.zeroValue9
  t22 := Try.underlying32
  a22 := Try.isAgg32
  z22 := Try.sizeOf32
  v22 := Try.zeroValue32
  t25 := Try.underlying57
  a25 := Try.isAgg57
  z25 := Try.sizeOf57
  v25 := Try.zeroValue57
  t39 := Try.underlying93
  a39 := Try.isAgg93
  z39 := Try.sizeOf93
  v39 := Try.zeroValue93
  t45 := Try.underlying96
  a45 := Try.isAgg96
  z45 := Try.sizeOf96
  v45 := Try.zeroValue96
  t46 := Try.underlying97
  a46 := Try.isAgg97
  z46 := Try.sizeOf97
  v46 := Try.zeroValue97
  t50 := Try.underlying101
  a50 := Try.isAgg101
  z50 := Try.sizeOf101
  v50 := Try.zeroValue101
  t53 := Try.underlying104
  a53 := Try.isAgg104
  z53 := Try.sizeOf104
  v53 := Try.zeroValue104
  t55 := Try.underlying106
  a55 := Try.isAgg106
  z55 := Try.sizeOf106
  v55 := Try.zeroValue106
  t66 := Try.underlying112
  a66 := Try.isAgg112
  z66 := Try.sizeOf112
  v66 := Try.zeroValue112
  t70 := Try.underlying116
  a70 := Try.isAgg116
  z70 := Try.sizeOf116
  v70 := Try.zeroValue116
  t76 := Try.underlying120
  a76 := Try.isAgg120
  z76 := Try.sizeOf120
  v76 := Try.zeroValue120
  t77 := Try.underlying121
  a77 := Try.isAgg121
  z77 := Try.sizeOf121
  v77 := Try.zeroValue121 }
end Go.Proofs.Ytaegobkkcgheeaa
