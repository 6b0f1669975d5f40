/- Put together: TrM, Ord, RowK, Wal. -/
import Derived.Test.YtnocdecimcpkfaaPut14
import Derived.Test.YtnocdecimcpkfaaRows
import Derived.Shelf.SlSortCmp.NoneTotal
import Derived.Laws.AppendOwn
import Derived.WalkKit
import Derived.BigCall
import Derived.Test.YtnocdecimcpkfaaPut4
import Derived.Test.YtnocdecimcpkfaaPut6
namespace Go.Proofs.Ytnocdecimcpkfaa
open Go.RowKit
theorem mk_ok {a b c : Pt} (h0 : ¬ ori a b c = 0) : valT (mk a b c) = true ∧
    (mk a b c = ⟨a, b, c⟩ ∨ mk a b c = ⟨b, c, a⟩ ∨ mk a b c = ⟨c, a, b⟩ ∨ mk a b c = ⟨a, c, b⟩ ∨ mk a b c = ⟨c, b, a⟩ ∨ mk a b c = ⟨b, a, c⟩) := by
  obtain ⟨va, vb, vc, n1, n2, n3⟩ := mk_keys h0
  have hb := ori_bd a b c
  rw [val_eq]; unfold valS lds
  by_cases h1 : ori a b c = 1
  · have e0 : mk a b c = mkT a b c := by unfold mk; rw [if_neg h0, if_pos h1]
    rw [e0]
    rcases mkT_rot va vb vc n1 n2 n3 with ⟨x1, x2, e⟩ | ⟨x1, x2, e⟩ | ⟨x1, x2, e⟩ <;> rw [e] <;> simp only
    · rw [leq_key va vb, leq_key va vc]; refine ⟨?_, by simp⟩; simp only [Bool.and_eq_true, decide_eq_true_eq]; omega
    · rw [ori_cyc, leq_key vb vc, leq_key vb va]; refine ⟨?_, by simp⟩; simp only [Bool.and_eq_true, decide_eq_true_eq]; omega
    · rw [ori_cyc, ori_cyc, leq_key vc va, leq_key vc vb]; refine ⟨?_, by simp⟩; simp only [Bool.and_eq_true, decide_eq_true_eq]; omega
  · have e0 : mk a b c = mkT a c b := by unfold mk; rw [if_neg h0, if_neg h1]
    have h2 : ori a c b = 1 := by rw [ori_swap2]; omega
    rw [e0]
    rcases mkT_rot va vc vb n2 n1 n3.symm with ⟨x1, x2, e⟩ | ⟨x1, x2, e⟩ | ⟨x1, x2, e⟩ <;> rw [e] <;> simp only
    · rw [leq_key va vb, leq_key va vc]; refine ⟨?_, by simp⟩; simp only [Bool.and_eq_true, decide_eq_true_eq]; omega
    · rw [ori_cyc, leq_key vc vb, leq_key vc va]; refine ⟨?_, by simp⟩; simp only [Bool.and_eq_true, decide_eq_true_eq]; omega
    · rw [ori_cyc, ori_cyc, leq_key vb va, leq_key vb vc]; refine ⟨?_, by simp⟩; simp only [Bool.and_eq_true, decide_eq_true_eq]; omega
theorem mk_corners {a b c : Pt} (h0 : ¬ ori a b c = 0) (p : Pt) : (p = a ∨ p = b ∨ p = c) ↔ (p = (mk a b c).A ∨ p = (mk a b c).B ∨ p = (mk a b c).C) := by
  obtain ⟨_, e | e | e | e | e | e⟩ := mk_ok h0 <;> rw [e] <;> simp only <;> constructor <;> rintro (h | h | h) <;> simp [h]
theorem tri_signs {T : Tri3} (h : valT T = true) : vld T.A = true ∧ vld T.B = true ∧ vld T.C = true ∧ 0 < det T.A T.B T.C := by
  obtain ⟨va, vb, vc⟩ := valT_vld h
  rw [val_eq] at h
  unfold valS at h
  simp only [Bool.and_eq_true, decide_eq_true_eq] at h
  have h1 := h.1
  rw [ori_v va vb vc] at h1
  have := sgn_cases (det T.A T.B T.C)
  exact ⟨va, vb, vc, by omega⟩
theorem det_sum (a b c p : Pt) : det a b p + det b c p + det c a p = det a b c := by unfold det; grind
theorem corner0 {a b c : Pt} (p : Pt) (hD : 0 < det a b c) : p = a ↔ det a b p = 0 ∧ det c a p = 0 := by
  constructor
  · intro h; subst h; constructor <;> (unfold det; grind)
  · intro ⟨h1, h2⟩
    have e1 : det a b c * (p.x - a.x) = det c a p * (b.x - a.x) + det a b p * (c.x - a.x) := by unfold det; grind
    have e2 : det a b c * (p.y - a.y) = det c a p * (b.y - a.y) + det a b p * (c.y - a.y) := by unfold det; grind
    rw [h1, h2] at e1 e2
    simp only [Int.zero_mul, Int.add_zero] at e1 e2
    rw [Pt.eq_iff]
    rcases Int.mul_eq_zero.1 e1 with h | h
    · omega
    · rcases Int.mul_eq_zero.1 e2 with h' | h'
      · omega
      · omega
theorem scale_le {E x y D : Int} (hE : 0 < E) (hD : 0 < D) (h : E * x = y * D) : 0 ≤ x ↔ 0 ≤ y := by
  have := sgn_scale hE h
  rw [sgn_p hD, Int.mul_one] at this
  have h1 := sgn_cases x
  have h2 := sgn_cases y
  omega
theorem seg_iff {a b c p : Pt} (va : vld a = true) (vb : vld b = true) (vp : vld p = true) (hD : 0 < det a b c) (h : det a b p = 0) :
    onR p a b = true ↔ 0 ≤ det b c p ∧ 0 ≤ det c a p := by
  have hab : a ≠ b := by
    intro e; subst e
    have : det a a c = 0 := by unfold det; grind
    omega
  have hE := EE_pos hab
  obtain ⟨c1, c2⟩ := coll h
  obtain ⟨c3, c4⟩ := coll2 h
  have hb := btw_k hab h
  have e1 : EE a b * det b c p = (EE a b - kk a b p) * det a b c := by
    generalize EE a b = E at *
    generalize kk a b p = k at *
    unfold det at *; grind
  have e2 : EE a b * det c a p = kk a b p * det a b c := by
    generalize EE a b = E at *
    generalize kk a b p = k at *
    unfold det at *; grind
  have s1 := scale_le hE hD e1
  have s2 := scale_le hE hD e2
  unfold onR
  rw [vp, va, vb, h, decide_eq_true rfl, Bool.true_and, Bool.true_and, Bool.true_and, Bool.true_and, hb]
  omega
theorem on_det {p a b : Pt} (h : onR p a b = true) : det a b p = 0 := by
  unfold onR at h
  simp only [Bool.and_eq_true, decide_eq_true_eq] at h
  exact h.2.2.2.1
theorem on_vld {p a b : Pt} (h : onR p a b = true) : vld p = true := by
  unfold onR at h
  simp only [Bool.and_eq_true] at h
  exact h.1
theorem seg_on {a b c p : Pt} (va : vld a = true) (vb : vld b = true) (vp : vld p = true) (hD : 0 < det a b c) :
    onR p a b = true ↔ det a b p = 0 ∧ 0 ≤ det b c p ∧ 0 ≤ det c a p := by
  constructor
  · intro h; exact ⟨on_det h, (seg_iff va vb vp hD (on_det h)).1 h⟩
  · intro ⟨h, k⟩; exact (seg_iff va vb vp hD h).2 k
/-- How many edges have the point on their inside. -/
def cntN (T : Tri3) (p : Pt) : Nat → Int
  | 0 => 0
  | k + 1 => cntN T p k + (if 0 < ori (crn T k) (crn T (k + 1)) p then 1 else 0)
/-- How many edges have the point on them. -/
def cntS (T : Tri3) (p : Pt) : Nat → Int
  | 0 => 0
  | k + 1 => cntS T p k + (if onR p (crn T k) (crn T (k + 1)) = true then 1 else 0)
/-- How many edges make a triangle with the point. -/
def cntP (T : Tri3) (p : Pt) : Nat → Int
  | 0 => 0
  | k + 1 => cntP T p k + (if ori (crn T k) (crn T (k + 1)) p = 0 then 0 else 1)
def sumP (T : Tri3) (p : Pt) : Nat → Int
  | 0 => 0
  | k + 1 => sumP T p k + (if ori (crn T k) (crn T (k + 1)) p = 0 then 0 else twi (mk (crn T k) (crn T (k + 1)) p))
theorem cntN_bd (T : Tri3) (p : Pt) (k : Nat) : 0 ≤ cntN T p k ∧ cntN T p k ≤ k := by
  induction k with
  | zero => exact ⟨Int.le_refl 0, Int.le_refl 0⟩
  | succ k ih => unfold cntN; split <;> omega
theorem cntS_bd (T : Tri3) (p : Pt) (k : Nat) : 0 ≤ cntS T p k ∧ cntS T p k ≤ k := by
  induction k with
  | zero => exact ⟨Int.le_refl 0, Int.le_refl 0⟩
  | succ k ih => unfold cntS; split <;> omega
theorem cntP_bd (T : Tri3) (p : Pt) (k : Nat) : 0 ≤ cntP T p k ∧ cntP T p k ≤ k := by
  induction k with
  | zero => exact ⟨Int.le_refl 0, Int.le_refl 0⟩
  | succ k ih => unfold cntP; split <;> omega
theorem det_bd {a b c : Pt} (ha : vld a = true) (hb : vld b = true) (hc : vld c = true) : -562949886312450 ≤ det a b c ∧ det a b c ≤ 562949886312450 := by
  have := cr_bd (way_sm ha hb) (way_sm ha hc)
  exact this
theorem twi_bd (T : Tri3) : 0 ≤ twi T ∧ twi T ≤ 562949886312450 := by
  unfold twi
  split
  · rename_i h
    obtain ⟨va, vb, vc, hD⟩ := tri_signs h
    have := det_bd va vb vc
    omega
  · omega
theorem sumP_bd (T : Tri3) (p : Pt) (k : Nat) : 0 ≤ sumP T p k ∧ sumP T p k ≤ k * 562949886312450 := by
  induction k with
  | zero => exact ⟨Int.le_refl 0, by simp [sumP]⟩
  | succ k ih =>
    have := twi_bd (mk (crn T k) (crn T (k + 1)) p)
    unfold sumP; split <;> omega
theorem crns (T : Tri3) : crn T 0 = T.A ∧ crn T 1 = T.B ∧ crn T 2 = T.C ∧ crn T 3 = T.A := ⟨rfl, rfl, rfl, rfl⟩
theorem cntN3 (T : Tri3) (p : Pt) : cntN T p 3 = (if 0 < ori T.A T.B p then 1 else 0) + (if 0 < ori T.B T.C p then 1 else 0) + (if 0 < ori T.C T.A p then 1 else 0) := by
  show 0 + _ + _ + _ = _
  rw [Int.zero_add]; rfl
theorem cntS3 (T : Tri3) (p : Pt) : cntS T p 3 = (if onR p T.A T.B = true then 1 else 0) + (if onR p T.B T.C = true then 1 else 0) + (if onR p T.C T.A = true then 1 else 0) := by
  show 0 + _ + _ + _ = _
  rw [Int.zero_add]; rfl
theorem cntP3 (T : Tri3) (p : Pt) : cntP T p 3 = (if ori T.A T.B p = 0 then 0 else 1) + (if ori T.B T.C p = 0 then 0 else 1) + (if ori T.C T.A p = 0 then 0 else 1) := by
  show 0 + _ + _ + _ = _
  rw [Int.zero_add]; rfl
theorem sumP3 (T : Tri3) (p : Pt) : sumP T p 3 = (if ori T.A T.B p = 0 then 0 else twi (mk T.A T.B p)) + (if ori T.B T.C p = 0 then 0 else twi (mk T.B T.C p)) + (if ori T.C T.A p = 0 then 0 else twi (mk T.C T.A p)) := by
  show 0 + _ + _ + _ = _
  rw [Int.zero_add]; rfl
theorem ori_sg {a b p : Pt} (va : vld a = true) (vb : vld b = true) (vp : vld p = true) : (0 < ori a b p ↔ 0 < det a b p) ∧ (0 ≤ ori a b p ↔ 0 ≤ det a b p) ∧ (ori a b p = 0 ↔ det a b p = 0) := by
  rw [ori_v va vb vp]
  have := sgn_cases (det a b p)
  omega
theorem twi_mk {x y z : Pt} (h : ori x y z = 1) : twi (mk x y z) = det x y z := by
  have h0 : ¬ ori x y z = 0 := by omega
  obtain ⟨va, vb, vc, n1, n2, n3⟩ := mk_keys h0
  have e0 : mk x y z = mkT x y z := by unfold mk; rw [if_neg h0, if_pos h]
  unfold twi
  rw [if_pos (mk_ok h0).1, e0]
  rcases mkT_rot va vb vc n1 n2 n3 with ⟨_, _, e⟩ | ⟨_, _, e⟩ | ⟨_, _, e⟩ <;> rw [e] <;> simp only
  · rw [det_cyc]
  · rw [det_cyc, det_cyc]
end Go.Proofs.Ytnocdecimcpkfaa

namespace Go.Proofs.Ytnocdecimcpkfaa
open Go.RowKit Go.Sort

theorem cmpP_neg (p q : Pt) : cmpP q p = -cmpP p q := by
  unfold cmpP cmpN sgn; (repeat' split) <;> omega
theorem cmpP_eq0 {p q : Pt} : cmpP p q = 0 ↔ p = q := by
  rw [Pt.eq_iff]; unfold cmpP cmpN sgn; (repeat' split) <;> omega
theorem cmpP_lt {p q : Pt} : cmpP p q < 0 ↔ p.x < q.x ∨ (p.x = q.x ∧ p.y < q.y) := by
  unfold cmpP cmpN sgn; (repeat' split) <;> omega
theorem cmpP_trans {p q r : Pt} (h1 : cmpP p q < 0) (h2 : cmpP q r < 0) : cmpP p r < 0 := by
  rw [cmpP_lt] at *; omega
theorem cmpT_neg (S T : Tri3) : cmpT T S = -cmpT S T := by
  unfold cmpT; rw [cmpP_neg S.A T.A, cmpP_neg S.B T.B, cmpP_neg S.C T.C]; (repeat' split) <;> omega
theorem cmpT_eq0 {S T : Tri3} : cmpT S T = 0 ↔ S = T := by
  rw [Tri3.eq_iff, ← cmpP_eq0, ← cmpP_eq0 (p := S.B), ← cmpP_eq0 (p := S.C)]
  unfold cmpT; (repeat' split) <;> omega
theorem cmpT_lt {S T : Tri3} : cmpT S T < 0 ↔ cmpP S.A T.A < 0 ∨ (S.A = T.A ∧ (cmpP S.B T.B < 0 ∨ (S.B = T.B ∧ cmpP S.C T.C < 0))) := by
  rw [← cmpP_eq0 (p := S.A), ← cmpP_eq0 (p := S.B)]
  unfold cmpT; (repeat' split) <;> omega
theorem cmpT_trans {S T U : Tri3} (h1 : cmpT S T < 0) (h2 : cmpT T U < 0) : cmpT S U < 0 := by
  rw [cmpT_lt] at *
  rcases h1 with h1 | ⟨e1, h1⟩ <;> rcases h2 with h2 | ⟨e2, h2⟩
  · exact .inl (cmpP_trans h1 h2)
  · exact .inl (e2 ▸ h1)
  · exact .inl (e1 ▸ h2)
  · refine .inr ⟨e1.trans e2, ?_⟩
    rcases h1 with h1 | ⟨f1, h1⟩ <;> rcases h2 with h2 | ⟨f2, h2⟩
    · exact .inl (cmpP_trans h1 h2)
    · exact .inl (f2 ▸ h1)
    · exact .inl (f1 ▸ h2)
    · exact .inr ⟨f1.trans f2, cmpP_trans h1 h2⟩
/-- A whole order, as a comparison that tells -1, 0 or 1. -/
structure Whole {α : Type} (c : α → α → Int) : Prop where
  neg : ∀ x y, c y x = -c x y
  eq0 : ∀ {x y}, c x y = 0 ↔ x = y
  trans : ∀ {x y z}, c x y < 0 → c y z < 0 → c x z < 0
theorem wholeP : Whole cmpP := ⟨cmpP_neg, cmpP_eq0, cmpP_trans⟩
theorem wholeT : Whole cmpT := ⟨cmpT_neg, cmpT_eq0, cmpT_trans⟩
section
variable {α : Type} {c : α → α → Int}
theorem Whole.swo (W : Whole c) : SWO (ltOf c) where
  irrefl x := by unfold ltOf; have := (W.eq0 (x := x) (y := x)).2 rfl; simp; omega
  trans x y z h1 h2 := by unfold ltOf at *; simp at *; exact W.trans h1 h2
  ntrans x y z h1 h2 := by
    unfold ltOf at *; simp at *
    rcases Int.lt_or_le (c x z) 0 with h | h
    · exfalso
      have n1 := W.neg x y
      have n2 := W.neg y z
      rcases Int.lt_or_eq_of_le h1 with g1 | g1
      · have := W.trans (x := y) (y := x) (z := z) (by omega) h
        omega
      · have e := W.eq0.1 g1.symm
        subst e; omega
    · exact h
theorem Whole.one (W : Whole c) : ∀ x y, ltOf c x y = false → ltOf c y x = false → x = y := fun x y h1 h2 => by
  unfold ltOf at *
  simp at h1 h2
  rw [W.neg x y] at h2
  exact W.eq0.1 (by omega)
/-- The list in order. -/
def srt (c : α → α → Int) (L : List α) : List α := L.mergeSort fun x y => !(ltOf c) y x
/-- In order: nobody is ahead of one who stands ahead. -/
def InOrder (c : α → α → Int) (L : List α) : Prop := L.Pairwise fun x y => c x y ≤ 0
theorem srt_perm (L : List α) : (srt c L).Perm L := List.mergeSort_perm _ _
theorem Whole.le_trans (W : Whole c) {x y z : α} (h1 : c x y ≤ 0) (h2 : c y z ≤ 0) : c x z ≤ 0 := by
  rcases Int.lt_or_eq_of_le h1 with g1 | g1
  · rcases Int.lt_or_eq_of_le h2 with g2 | g2
    · have := W.trans g1 g2; omega
    · have e := W.eq0.1 g2; subst e; exact h1
  · have e := W.eq0.1 g1; subst e; exact h2
theorem Whole.srt_order (W : Whole c) (L : List α) : InOrder c (srt c L) := by
  have h := List.pairwise_mergeSort (le := fun x y => !(ltOf c) y x) (fun a b d h1 h2 => by
    unfold ltOf at *
    simp at *
    have n1 := W.neg a b
    have n2 := W.neg b d
    have n3 := W.neg a d
    have := W.le_trans (x := a) (y := b) (z := d) (by omega) (by omega)
    omega) (fun a b => by
    unfold ltOf
    have := W.neg a b
    simp
    omega) L
  refine h.imp fun {a b} h1 => ?_
  unfold ltOf at h1
  simp at h1
  have := W.neg a b
  omega
theorem Whole.unique (W : Whole c) : ∀ {L M : List α}, L.Perm M → InOrder c L → InOrder c M → L = M
  | [], M, hp, _, _ => by rw [List.nil_perm.1 hp]
  | x :: L, M, hp, h1, h2 => by
    cases M with
    | nil => exact absurd hp.length_eq (by simp)
    | cons y M =>
      unfold InOrder at *
      rw [List.pairwise_cons] at h1 h2
      have e : x = y := by
        rcases List.mem_cons.1 (hp.mem_iff.1 (List.mem_cons_self)) with e | hx
        · exact e
        · rcases List.mem_cons.1 (hp.mem_iff.2 (List.mem_cons_self)) with e | hy
          · exact e.symm
          · have a1 := h1.1 y hy
            have a2 := h2.1 x hx
            have := W.neg x y
            exact W.eq0.1 (by omega)
      subst e
      rw [Whole.unique W (hp.cons_inv) h1.2 h2.2]
theorem Whole.srt_eq (W : Whole c) {L M : List α} (hp : M.Perm L) (ho : InOrder c M) : M = srt c L :=
  W.unique (hp.trans (srt_perm L).symm) ho (W.srt_order L)
theorem Whole.srt_of_perm (W : Whole c) {L M : List α} (hp : M.Perm L) : srt c M = srt c L := W.srt_eq ((srt_perm M).trans hp) (W.srt_order M)
end
end Go.Proofs.Ytnocdecimcpkfaa

namespace Go.Proofs.Ytnocdecimcpkfaa
open Go.RowKit Go.Sort Go.Lib Go.Shelf

section
variable {α : Type} {c : α → List Value} {k : Nat}
theorem flatMap_len (hc : ∀ x, (c x).length = k) : ∀ L : List α, (L.flatMap c).length = L.length * k
  | [] => by simp
  | x :: L => by rw [List.flatMap_cons, List.length_append, hc, flatMap_len hc L, List.length_cons, Nat.add_mul]; omega
theorem flatMap_get (hc : ∀ x, (c x).length = k) : ∀ (L : List α) (j i : Nat) (x : α), L[j]? = some x → i < k → (L.flatMap c)[j * k + i]? = (c x)[i]?
  | [], j, i, x, h, _ => by simp at h
  | y :: L, 0, i, x, h, hi => by
    simp at h; subst h
    rw [List.flatMap_cons, Nat.zero_mul, Nat.zero_add, List.getElem?_append_left (by rw [hc]; exact hi)]
  | y :: L, j + 1, i, x, h, hi => by
    rw [List.flatMap_cons, List.getElem?_append_right (by rw [hc, Nat.add_mul]; omega), hc]
    rw [show (j + 1) * k + i - k = j * k + i by rw [Nat.add_mul]; omega]
    exact flatMap_get hc L j i x (by simpa using h) hi
theorem rowAt_of_owns {w : World} {B : Nat} {T : TypeId} {v : Value} {L : List α} (hc : ∀ x, (c x).length = k) (h : w.ownsRow B T k v L.length (L.flatMap c)) :
    ∃ a cap, v = .slice a L.length cap ∧ RowAt c k w a L := by
  rcases h.2 with ⟨rfl, h0⟩ | ⟨g, cap, cur, rfl, hB, hb, h1, h2, h3, h4⟩
  · have : L = [] := List.eq_nil_of_length_eq_zero h0
    subst this
    exact ⟨none, 0, rfl, RowAt.nil⟩
  · refine ⟨some ⟨g, 0, none⟩, cap, rfl, fun j x hj => ⟨_, rfl, (Array.getElem?_eq_some_iff.1 hb).1, fun i u hu => ?_⟩⟩
    have hi : i < k := by rw [← hc x]; exact (List.getElem?_eq_some_iff.1 hu).1
    have e := flatMap_get hc L j i x hj hi
    rw [hu, ← h4, List.getElem?_take] at e
    split at e
    · rw [Addr.add_lit, Addr.add_lit]
      simp only [World.cell?, hb, Nat.zero_add]
      simpa using e
    · cases e
end
section
variable {α : Type} [Inhabited α] {c : α → List Value} {k : Nat}
theorem holdsK_of_owns {w : World} {B g cap n : Nat} {T : TypeId} {L : List α} (hc : ∀ x, (c x).length = k) (h : w.ownsRow B T k (.slice (some ⟨g, 0, none⟩) n cap) L.length (L.flatMap c)) : HoldsK c k w g 0 L.toArray ∧ g < w.heap.size := by
  rcases h.2 with ⟨h0, _⟩ | ⟨g', cap', cur, h0, hB, hb, h1, h2, h3, h4⟩
  · cases h0
  · simp only [Value.slice.injEq, Option.some.injEq, Addr.mk.injEq, and_true] at h0
    obtain ⟨e1, e2, e3⟩ := h0
    subst e1 e3
    refine ⟨fun t ht => ⟨?_, by simp [World.frozen?, hb]⟩, (Array.getElem?_eq_some_iff.1 hb).1⟩
    have ht' : t < L.length * k := by simpa using ht
    rw [get_flatK _ _ _ _ (by simpa using ht')]
    have k0 : 0 < k := by rcases Nat.eq_zero_or_pos k with h | h; · subst h; simp at ht'
                          · exact h
    have hj : t / k < L.length := by rwa [Nat.div_lt_iff_lt_mul k0]
    have hi : t % k < k := Nat.mod_lt _ k0
    have e := flatMap_get hc L (t / k) (t % k) L[t / k] (List.getElem?_eq_getElem hj) hi
    rw [show t / k * k + t % k = t by rw [Nat.mul_comm]; exact Nat.div_add_mod t k, ← h4, List.getElem?_take] at e
    split at e
    · simp only [World.cell?, hb, Nat.zero_add]
      simp only [Option.isSome_none, Bool.false_eq_true, if_false]
      rw [← Array.getElem?_toList, e]
      simp [hj, hc, hi]
    · rename_i hh; exact absurd ht' hh
theorem rowAt_of_holdsK {w : World} {g : Nat} {L : List α} (hc : ∀ x, (c x).length = k) (h : HoldsK c k w g 0 L.toArray) (hg : g < w.heap.size) : RowAt c k w (some ⟨g, 0, none⟩) L := fun j x hj => by
  refine ⟨_, rfl, hg, fun i u hu => ?_⟩
  have hi : i < k := by rw [← hc x]; exact (List.getElem?_eq_some_iff.1 hu).1
  have hjl : j < L.length := (List.getElem?_eq_some_iff.1 hj).1
  have e := (h.cell (i := j) (c := i) (by simpa using hjl) hi).1
  rw [Addr.add_lit, Addr.add_lit, e]
  have e2 : L.toArray[j]! = x := by
    rw [getElem!_pos _ j (by simpa using hjl)]
    simpa using (List.getElem?_eq_some_iff.1 hj).2
  rw [e2, ← hu, List.getElem!_eq_getElem?_getD, List.getElem?_eq_getElem (by rw [hc]; exact hi)]
  rfl
theorem grownBy_sortK {w : World} {g n : Nat} {os : Array Obj} (d : Array α) : w.grownBy (sortWorldK c k w g 0 n d os) (some g) := by
  refine ⟨rfl, rfl, rfl, by simp [sortWorldK, putRowK], fun i hi hne => ?_⟩
  unfold sortWorldK putRowK
  rw [heap_grow_old _ _ (by simpa using hi)]
  have : g ≠ i := fun e => hne (by rw [e])
  simp [putRow, mapBlock, Sort.ahead, Array.getElem?_modify, this]
theorem holdsK_sortK {w : World} {g n : Nat} {os : Array Obj} {d d' : Array α} (h : HoldsK c k w g 0 d) (hg : g < w.heap.size) (hs : d'.size = d.size) : HoldsK c k (sortWorldK c k w g 0 n d' os) g 0 d' := by
  unfold sortWorldK
  refine holdsK_grow c k _ os g 0 d' (by simp [putRowK, Sort.ahead]; exact hg) ?_
  exact holdsK_putRowK c k _ g 0 d d' (holdsK_ahead c k w n g 0 d h) hs
end
theorem cell_setCells (b : Nat) : ∀ (l : List Value) (o : Nat) (w : World) (i : Nat), i < o → (w.setCells b o l).cell? ⟨b, i, none⟩ = w.cell? ⟨b, i, none⟩
  | [], _, _, _, _ => rfl
  | v :: l, o, w, i, h => by
    rw [World.setCells, cell_setCells b l (o + 1) _ i (by omega), World.cell?_setCell_other (h := fun e => by have := congrArg Addr.off e; simp at this; omega)]
theorem size_setCells (b : Nat) : ∀ (l : List Value) (o : Nat) (w : World), (w.setCells b o l).heap.size = w.heap.size
  | [], _, _ => rfl
  | v :: l, o, w => by rw [World.setCells, size_setCells b l]; simp
theorem below_setCells {B b : Nat} {w0 : World} (hb : B ≤ b) : ∀ (l : List Value) (o : Nat) (w : World), Below B w0 w → Below B w0 (w.setCells b o l)
  | [], _, _, h => h
  | v :: l, o, w, h => by rw [World.setCells]; exact below_setCells hb l _ _ (h.setCell hb v)
end Go.Proofs.Ytnocdecimcpkfaa

namespace Go.Proofs.Ytnocdecimcpkfaa
open Go.RowKit
attribute [local go_sem 10000] pt_eql pt_neq

structure Wl where
  A : Pt
  B : Pt
  K : Int
theorem Wl.eq_iff {p q : Wl} : p = q ↔ p.A = q.A ∧ p.B = q.B ∧ p.K = q.K := by
  cases p; cases q; simp
instance : DecidableEq Pt := fun p q => decidable_of_iff (p.x = q.x ∧ p.y = q.y) Pt.eq_iff.symm
instance : DecidableEq Wl := fun p q => decidable_of_iff (p.A = q.A ∧ p.B = q.B ∧ p.K = q.K) Wl.eq_iff.symm
instance : Inhabited Wl := ⟨⟨⟨0, 0⟩, ⟨0, 0⟩, 0⟩⟩
def cW (t : Wl) : List Value := [.int .i64 t.A.x, .int .i64 t.A.y, .int .i64 t.B.x, .int .i64 t.B.y, .int .i64 t.K]
@[reducible] def eWl (t : Wl) : Value := .agg #[.int .i64 t.A.x, .int .i64 t.A.y, .int .i64 t.B.x, .int .i64 t.B.y, .int .i64 t.K]
def okWl (t : Wl) : Prop := WP t.A ∧ WP t.B ∧ W64 t.K
theorem eWl_inj {v w : Wl} (h : eWl v = eWl w) : v = w := by
  obtain ⟨⟨a, b⟩, ⟨c, d⟩, i⟩ := v
  obtain ⟨⟨e, f⟩, ⟨g, k⟩, l⟩ := w
  simpa [eWl, and_assoc] using h
theorem cW_len (x : Wl) : (cW x).length = 5 := rfl
theorem cW_one (x : Wl) : ∀ v ∈ cW x, v.oneCell' = true := by intro v hv; simp [cW] at hv; rcases hv with rfl | rfl | rfl | rfl | rfl <;> rfl
def weqI (a b c d k e f g h l : Int) : Bool := decide (a = e) && (decide (b = f) && (decide (c = g) && (decide (d = h) && decide (k = l))))
theorem wal_eql (a b c d k e f g h l : Int) (w : World) : (binOp .eql 35 (.agg #[.int .i64 a, .int .i64 b, .int .i64 c, .int .i64 d, .int .i64 k]) (.agg #[.int .i64 e, .int .i64 f, .int .i64 g, .int .i64 h, .int .i64 l])).run Try.prog w = .ok (.bool (weqI a b c d k e f g h l)) w := by
  unfold weqI
  by_cases h1 : a = e
  case neg => simp [go_sem, h1]
  case pos =>
  by_cases h2 : b = f
  case neg => simp [go_sem, h1, h2]
  case pos =>
  by_cases h3 : c = g
  case neg => simp [go_sem, h1, h2, h3]
  case pos =>
  by_cases h4 : d = h
  case neg => simp [go_sem, h1, h2, h3, h4]
  case pos => by_cases h5 : k = l <;> simp [go_sem, h1, h2, h3, h4, h5]
theorem wal_neq (a b c d k e f g h l : Int) (w : World) : (binOp .neq 35 (.agg #[.int .i64 a, .int .i64 b, .int .i64 c, .int .i64 d, .int .i64 k]) (.agg #[.int .i64 e, .int .i64 f, .int .i64 g, .int .i64 h, .int .i64 l])).run Try.prog w = .ok (.bool (!weqI a b c d k e f g h l)) w := by
  unfold weqI
  by_cases h1 : a = e
  case neg => simp [go_sem, h1]
  case pos =>
  by_cases h2 : b = f
  case neg => simp [go_sem, h1, h2]
  case pos =>
  by_cases h3 : c = g
  case neg => simp [go_sem, h1, h2, h3]
  case pos =>
  by_cases h4 : d = h
  case neg => simp [go_sem, h1, h2, h3, h4]
  case pos => by_cases h5 : k = l <;> simp [go_sem, h1, h2, h3, h4, h5]
theorem weqI_iff {v w : Wl} : weqI v.A.x v.A.y v.B.x v.B.y v.K w.A.x w.A.y w.B.x w.B.y w.K = true ↔ v = w := by
  simp [weqI, Wl.eq_iff, Pt.eq_iff, and_assoc]
theorem weqI_dec (v w : Wl) : weqI v.A.x v.A.y v.B.x v.B.y v.K w.A.x w.A.y w.B.x w.B.y w.K = decide (v = w) := by
  rw [Bool.eq_iff_iff, weqI_iff]; simp
theorem peqI_dec (p q : Pt) : peqI p.x p.y q.x q.y = decide (p = q) := by rw [Bool.eq_iff_iff, peqI_iff, ← Pt.eq_iff]; simp
theorem RowAt.wal {w : World} {a : Option Addr} {L : List Wl} (h : RowAt cW 5 w a L) {j : Nat} (hj : j < L.length) :
    ∃ ad A, a = some ad ∧ ad.add (j * 5) = A ∧ (A.block = w.heap.size) = False ∧ A.block < w.heap.size ∧ (w.cell? A = some (.int .i64 L[j].A.x) ∧ w.cell? ⟨A.block, A.off + 1, none⟩ = some (.int .i64 L[j].A.y) ∧ w.cell? ⟨A.block, A.off + 2, none⟩ = some (.int .i64 L[j].B.x) ∧
      w.cell? ⟨A.block, A.off + 3, none⟩ = some (.int .i64 L[j].B.y) ∧ w.cell? ⟨A.block, A.off + 4, none⟩ = some (.int .i64 L[j].K)) := by
  obtain ⟨ad, h1, h2, h3⟩ := h j L[j] (List.getElem?_eq_getElem hj)
  have hb : (ad.add (j * 5)).block = ad.block := addr_block _ _
  refine ⟨ad, _, h1, rfl, by rw [hb]; simp; omega, by rw [hb]; exact h2, ?_⟩
  have e0 := h3 0 _ rfl
  have e1 := h3 1 _ rfl
  have e2 := h3 2 _ rfl
  have e3 := h3 3 _ rfl
  have e4 := h3 4 _ rfl
  simp only [Addr.add_zero', Addr.add_succ'] at e0 e1 e2 e3 e4
  exact ⟨e0, e1, e2, e3, e4⟩
/-- The least of two first. -/
theorem lo2_or (p q : Pt) : lo2 p q = p ∨ lo2 p q = q := by unfold lo2; split <;> simp
def mkK (k : Int) : Bool := decide (k = 1) || decide (k = 2)
def mkOk (a b : Pt) (k : Int) : Bool := mkK k && (!decide (a = b) && (vld a && vld b))
def mkW (a b : Pt) (k : Int) : Wl := if mkOk a b k then ⟨lo2 a b, hi2 a b, k⟩ else ⟨⟨0, 0⟩, ⟨0, 0⟩, 0⟩
def unm (w : Wl) : Bool := !mkOk w.A w.B w.K || !decide (mkW w.A w.B w.K = w)
end Go.Proofs.Ytnocdecimcpkfaa
