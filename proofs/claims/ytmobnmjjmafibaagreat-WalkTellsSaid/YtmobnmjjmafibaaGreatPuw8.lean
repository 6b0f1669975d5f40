/- Put together: GeoA, GeoB, GeoC, TrN, TrR, SortQ, MesM, Cpt, MesP, MesQ. -/
import Derived.Test.YtmobnmjjmafibaaGreatRows
import Derived.Test.YtmobnmjjmafibaaGreatPuw5
import Derived.Test.YtmobnmjjmafibaaGreatPuw4
import Derived.Test.YtmobnmjjmafibaaGreatPuw0
import Derived.WalkKit
import Derived.WalkSpells
import Derived.WalkLawsBesides
import Derived.Laws.Externs
import Derived.Deep.QuietTactic
import Derived.BigQuiet
import Derived.Lib.Hide
import Derived.Handy
import Derived.LoopN
import Derived.OwnWalk
import Derived.Laws.AppendOwn
import Derived.Test.YtmobnmjjmafibaaGreatPuw6
import Derived.RegionTactic
import Derived.Deep.RegionHeld3
import Derived.Deep.AppendLies
import Derived.Maps.RangeWalk
import Derived.Maps.OwnSet
import Derived.Lib.SliceRun
set_option maxRecDepth 100000
set_option maxHeartbeats 8000000
namespace Go.Proofs.YtmobnmjjmafibaaGreat
open Go.RowKit
def crs (a b q : Pt) : Int := if a.y ≤ q.y ∧ q.y < b.y ∧ 0 < det a b q then 1 else if b.y ≤ q.y ∧ q.y < a.y ∧ det a b q < 0 then -1 else 0
theorem zBw (a b q : Pt) : crs b a q = - crs a b q := by
 unfold crs;rw [zC8]
 (repeat' split) <;> omega
theorem zB6 {a b : Int} (ha : 0 < a) : 0 < a * b ↔ 0 < b := by
 constructor
 ·intro h;rcases Int.lt_trichotomy b 0 with k | k | k
  ·have := Int.mul_neg_of_pos_of_neg ha k; omega
  ·rw [k, Int.mul_zero] at h; omega
  ·exact k
 ·intro h; exact Int.mul_pos ha h
theorem zCl {a b : Int} (ha : 0 < a) : a * b < 0 ↔ b < 0 := by
 have := zB6 (b := -b) ha;rw [Int.mul_neg] at this;omega
theorem zBe {a b : Int} (ha : 0 < a) : 0 ≤ a * b ↔ 0 ≤ b := by
 have := zCl (b := b) ha;omega
theorem crs_add {a b p : Pt} (h : det a b p = 0) (hb : (a.y ≤ p.y ∧ p.y ≤ b.y) ∨ (b.y ≤ p.y ∧ p.y ≤ a.y)) (q : Pt) : crs a b q = crs a p q + crs p b q := by
 have e1 : (b.y - a.y) * det a p q = (p.y - a.y) * det a b q - (q.y - a.y) * det a b p := by unfold det; grind
 have e2 : (b.y - a.y) * det p b q = (b.y - p.y) * det a b q + (q.y - b.y) * det a b p := by unfold det; grind
 rw [h, Int.mul_zero] at e1 e2;rw [Int.sub_zero] at e1;rw [Int.add_zero] at e2;have key : ∀ (s t d f : Int), 0 < s → 0 < t → s * f = t * d → ((0 < f ↔ 0 < d) ∧ (f < 0 ↔ d < 0)) := by
  intro s t d f hs ht h;refine ⟨?_, ?_⟩
  ·rw [← zB6 hs, h, zB6 ht]
  ·rw [← zCl hs, h, zCl ht]
 have key' : ∀ (s t d f : Int), s < 0 → t < 0 → s * f = t * d → ((0 < f ↔ 0 < d) ∧ (f < 0 ↔ d < 0)) := by
  intro s t d f hs ht h;refine key (-s) (-t) d f (by omega) (by omega) ?_;rw [Int.neg_mul, Int.neg_mul, h]
 unfold crs;rcases Int.lt_trichotomy a.y b.y with hab | hab | hab
 ·have k1 : a.y < p.y → ((0 < det a p q ↔ 0 < det a b q) ∧ (det a p q < 0 ↔ det a b q < 0)) := fun hp => key _ _ _ _ (by omega) (by omega) e1;have k2 : p.y < b.y → ((0 < det p b q ↔ 0 < det a b q) ∧ (det p b q < 0 ↔ det a b q < 0)) := fun hp => key _ _ _ _ (by omega) (by omega) e2
  (repeat' split) <;> omega
 ·(repeat' split) <;> omega
 ·have k1 : p.y < a.y → ((0 < det a p q ↔ 0 < det a b q) ∧ (det a p q < 0 ↔ det a b q < 0)) := fun hp => key' _ _ _ _ (by omega) (by omega) e1;have k2 : b.y < p.y → ((0 < det p b q ↔ 0 < det a b q) ∧ (det p b q < 0 ↔ det a b q < 0)) := fun hp => key' _ _ _ _ (by omega) (by omega) e2
  (repeat' split) <;> omega
def hin (T : Tri3) (q : Pt) : Int := crs T.A T.B q + crs T.B T.C q + crs T.C T.A q
theorem zCh {a b c q : Pt} (hD : 0 < det a b c) :
    (a.y ≤ q.y → q.y < b.y → c.y ≤ q.y → det b c q < 0 → 0 < det a b q) ∧
    (a.y ≤ q.y → q.y < b.y → q.y < c.y → det c a q < 0 → 0 < det a b q) := by
 refine ⟨fun h1 h2 h3 h4 => ?_, fun h1 h2 h3 h4 => ?_⟩
 ·have e : (b.y - c.y) * det a b q = (b.y - q.y) * det a b c - (b.y - a.y) * det b c q := by unfold det; grind
  have p1 : 0 < (b.y - q.y) * det a b c := Int.mul_pos (by omega) hD;have p2 : (b.y - a.y) * det b c q < 0 := Int.mul_neg_of_pos_of_neg (by omega) h4;exact (zB6 (a := b.y - c.y) (by omega)).1 (by omega)
 ·have e : (c.y - a.y) * det a b q = (q.y - a.y) * det a b c - (b.y - a.y) * det c a q := by unfold det; grind
  have p1 : 0 ≤ (q.y - a.y) * det a b c := Int.mul_nonneg (by omega) (by omega);have p2 : (b.y - a.y) * det c a q < 0 := Int.mul_neg_of_pos_of_neg (by omega) h4;exact (zB6 (a := c.y - a.y) (by omega)).1 (by omega)
theorem zC0 {a b c q : Pt} :
    (a.y ≤ q.y → q.y < b.y → c.y ≤ q.y → 0 < det a b q → 0 ≤ det b c q → 0 ≤ det c a q) ∧
    (a.y ≤ q.y → q.y < b.y → q.y < c.y → 0 < det a b q → 0 ≤ det c a q → 0 ≤ det b c q) := by
 have e : det a b q * (c.y - q.y) + det b c q * (a.y - q.y) + det c a q * (b.y - q.y) = 0 := by unfold det; grind
 refine ⟨fun h1 h2 h3 h4 h5 => ?_, fun h1 h2 h3 h4 h5 => ?_⟩
 ·have p1 : 0 ≤ det a b q * (q.y - c.y) := Int.mul_nonneg (by omega) (by omega);have p2 : 0 ≤ det b c q * (q.y - a.y) := Int.mul_nonneg (by omega) (by omega);have : (b.y - q.y) * det c a q = det a b q * (q.y - c.y) + det b c q * (q.y - a.y) := by grind
  exact (zBe (a := b.y - q.y) (by omega)).1 (by omega)
 ·have p1 : 0 < det a b q * (c.y - q.y) := Int.mul_pos (by omega) (by omega);have p2 : 0 ≤ det c a q * (b.y - q.y) := Int.mul_nonneg (by omega) (by omega);have : (q.y - a.y) * det b c q = det a b q * (c.y - q.y) + det c a q * (b.y - q.y) := by grind
  rcases Int.lt_or_eq_of_le h1 with h | h
  ·exact (zBe (a := q.y - a.y) (by omega)).1 (by omega)
  ·rw [h, Int.sub_self, Int.zero_mul] at this; omega
theorem zJ3 {a b q : Pt} (h1 : a.y ≤ q.y) (h2 : q.y < b.y) : crs a b q = if 0 < det a b q then 1 else 0 := by
 unfold crs
 (repeat' split) <;> omega
theorem zE5 {a b q : Pt} (h1 : b.y ≤ q.y) (h2 : q.y < a.y) : crs a b q = if det a b q < 0 then -1 else 0 := by
 unfold crs
 (repeat' split) <;> omega
theorem zD7 {a b q : Pt} (h1 : a.y ≤ q.y) (h2 : b.y ≤ q.y) : crs a b q = 0 := by
 unfold crs
 (repeat' split) <;> omega
theorem zD8 {a b q : Pt} (h1 : q.y < a.y) (h2 : q.y < b.y) : crs a b q = 0 := by
 unfold crs
 (repeat' split) <;> omega
theorem cover_flat {a b c q : Pt} (hD : 0 < det a b c) (h1 : 0 < det a b q) (h2 : 0 < det b c q) (h3 : 0 < det c a q) :
    ¬ (c.y ≤ q.y ∧ a.y ≤ q.y ∧ b.y ≤ q.y) ∧ ¬ (q.y < c.y ∧ q.y < a.y ∧ q.y < b.y) := by
 have e : det a b q * (q.y - c.y) + det b c q * (q.y - a.y) + det c a q * (q.y - b.y) = 0 := by unfold det; grind
 have e' : det a b q * (c.y - q.y) + det b c q * (a.y - q.y) + det c a q * (b.y - q.y) = 0 := by unfold det; grind
 refine ⟨fun ⟨k1, k2, k3⟩ => ?_, fun ⟨k1, k2, k3⟩ => ?_⟩
 ·have m1 : 0 ≤ det a b q * (q.y - c.y) := Int.mul_nonneg (by omega) (by omega);have m2 : 0 ≤ det b c q * (q.y - a.y) := Int.mul_nonneg (by omega) (by omega);have m3 : 0 ≤ det c a q * (q.y - b.y) := Int.mul_nonneg (by omega) (by omega);have z1 : det a b q * (q.y - c.y) = 0 := by omega
  have z2 : det b c q * (q.y - a.y) = 0 := by omega
  have z3 : det c a q * (q.y - b.y) = 0 := by omega
  have y1 : q.y = c.y := by rcases Int.mul_eq_zero.1 z1 with h | h <;> omega
  have y2 : q.y = a.y := by rcases Int.mul_eq_zero.1 z2 with h | h <;> omega
  have y3 : q.y = b.y := by rcases Int.mul_eq_zero.1 z3 with h | h <;> omega
  have : det a b c = 0 := by
   unfold det;rw [show c.y - a.y = 0 by omega, show b.y - a.y = 0 by omega]; simp
  omega
 ·have m1 : 0 < det a b q * (c.y - q.y) := Int.mul_pos (by omega) (by omega);have m2 : 0 < det b c q * (a.y - q.y) := Int.mul_pos (by omega) (by omega);have m3 : 0 < det c a q * (b.y - q.y) := Int.mul_pos (by omega) (by omega);omega
theorem zD9 {u v w S : Int} (h : S = (if 0 < u then 1 else 0) + (if v < 0 then -1 else 0)) (hp : v < 0 → 0 < u) (ht : 0 < u → 0 ≤ v → 0 ≤ w) :
    (0 ≤ S ∧ S ≤ 1) ∧ (0 < S → 0 ≤ u ∧ 0 ≤ v ∧ 0 ≤ w) ∧ (0 < u → 0 < v → 0 < w → S = 1) := by
 rw [h]; clear h
 (repeat' split) <;> omega
theorem zJt {a b c : Pt} (hD : 0 < det a b c) (q : Pt) :
    (0 ≤ crs a b q + crs b c q + crs c a q ∧ crs a b q + crs b c q + crs c a q ≤ 1) ∧
    (0 < crs a b q + crs b c q + crs c a q → 0 ≤ det a b q ∧ 0 ≤ det b c q ∧ 0 ≤ det c a q) ∧
    (0 < det a b q → 0 < det b c q → 0 < det c a q → crs a b q + crs b c q + crs c a q = 1) := by
 have hD2 : 0 < det b c a := by rw [zAl]; exact hD
 have hD3 : 0 < det c a b := by rw [zAl, zAl]; exact hD
 have f := cover_flat (q := q) hD;by_cases ha : a.y ≤ q.y <;> by_cases hb : b.y ≤ q.y <;> by_cases hc : c.y ≤ q.y
 ·rw [zD7 ha hb, zD7 hb hc, zD7 hc ha];exact ⟨by omega, by omega, fun h1 h2 h3 => absurd ⟨hc, ha, hb⟩ (f h1 h2 h3).1⟩
 ·obtain ⟨r1, r2, r3⟩ := zD9 (u := det b c q) (v := det c a q) (w := det a b q) (S := crs a b q + crs b c q + crs c a q)
    (by rw [zD7 ha hb, zJ3 hb (by omega), zE5 ha (by omega)]; omega) ((zCh hD2).1 hb (by omega) ha) (zC0.1 hb (by omega) ha)
  exact ⟨r1, fun h => ⟨(r2 h).2.2, (r2 h).1, (r2 h).2.1⟩, fun h1 h2 h3 => r3 h2 h3 h1⟩
 ·obtain ⟨r1, r2, r3⟩ := zD9 (u := det a b q) (v := det b c q) (w := det c a q) (S := crs a b q + crs b c q + crs c a q)
    (by rw [zJ3 ha (by omega), zE5 hc (by omega), zD7 hc ha]; omega) ((zCh hD).1 ha (by omega) hc) (zC0.1 ha (by omega) hc)
  exact ⟨r1, fun h => ⟨(r2 h).1, (r2 h).2.1, (r2 h).2.2⟩, fun h1 h2 h3 => r3 h1 h2 h3⟩
 ·obtain ⟨r1, r2, r3⟩ := zD9 (u := det a b q) (v := det c a q) (w := det b c q) (S := crs a b q + crs b c q + crs c a q)
    (by rw [zJ3 ha (by omega), zD8 (by omega) (by omega), zE5 ha (by omega)]; omega) ((zCh hD).2 ha (by omega) (by omega)) (zC0.2 ha (by omega) (by omega))
  exact ⟨r1, fun h => ⟨(r2 h).1, (r2 h).2.2, (r2 h).2.1⟩, fun h1 h2 h3 => r3 h1 h3 h2⟩
 ·obtain ⟨r1, r2, r3⟩ := zD9 (u := det c a q) (v := det a b q) (w := det b c q) (S := crs a b q + crs b c q + crs c a q)
    (by rw [zE5 hb (by omega), zD7 hb hc, zJ3 hc (by omega)]; omega) ((zCh hD3).1 hc (by omega) hb) (zC0.1 hc (by omega) hb)
  exact ⟨r1, fun h => ⟨(r2 h).2.1, (r2 h).2.2, (r2 h).1⟩, fun h1 h2 h3 => r3 h3 h1 h2⟩
 ·obtain ⟨r1, r2, r3⟩ := zD9 (u := det b c q) (v := det a b q) (w := det c a q) (S := crs a b q + crs b c q + crs c a q)
    (by rw [zE5 hb (by omega), zJ3 hb (by omega), zD8 (by omega) (by omega)]; omega) ((zCh hD2).2 hb (by omega) (by omega)) (zC0.2 hb (by omega) (by omega))
  exact ⟨r1, fun h => ⟨(r2 h).2.1, (r2 h).1, (r2 h).2.2⟩, fun h1 h2 h3 => r3 h2 h1 h3⟩
 ·obtain ⟨r1, r2, r3⟩ := zD9 (u := det c a q) (v := det b c q) (w := det a b q) (S := crs a b q + crs b c q + crs c a q)
    (by rw [zD8 (by omega) (by omega), zE5 hc (by omega), zJ3 hc (by omega)]; omega) ((zCh hD3).2 hc (by omega) (by omega)) (zC0.2 hc (by omega) (by omega))
  exact ⟨r1, fun h => ⟨(r2 h).2.2, (r2 h).2.1, (r2 h).1⟩, fun h1 h2 h3 => r3 h3 h2 h1⟩
 ·rw [zD8 (by omega) (by omega), zD8 (by omega) (by omega), zD8 (by omega) (by omega)];exact ⟨by omega, by omega, fun h1 h2 h3 => absurd ⟨by omega, by omega, by omega⟩ (f h1 h2 h3).2⟩
def sc (K : Int) (p : Pt) : Pt := ⟨K * p.x, K * p.y⟩
theorem sc_det (K : Int) (a b c : Pt) : det (sc K a) (sc K b) (sc K c) = K * (K * det a b c) := by unfold det sc; grind
def crd (a b v : Pt) : Int := (b.x - a.x) * v.y - (b.y - a.y) * v.x
def ways (T : Tri3) : List (Pt × Pt) := [(T.A, T.B), (T.B, T.C), (T.C, T.A)]
def cvr (K : Int) : List (Pt × Pt) → Pt → Int
 | [], _ => 0
 | w :: l, q => crs (sc K w.1) (sc K w.2) q + cvr K l q
theorem zCg (K : Int) (l m : List (Pt × Pt)) (q : Pt) : cvr K (l ++ m) q = cvr K l q + cvr K m q := by
 induction l with
 | nil => simp [cvr]
 | cons w l ih => simp only [List.cons_append, cvr, ih]; omega
theorem zGl {K : Int} {l m : List (Pt × Pt)} (h : l.Perm m) (q : Pt) : cvr K l q = cvr K m q := by
 induction h with
 | nil => rfl
 | cons x _ ih => simp only [cvr, ih]
 | swap x y l => simp only [cvr]; omega
 | trans _ _ h1 h2 => exact h1.trans h2
def onRim (W H : Int) (a b : Pt) : Prop := (a.x = 0 ∧ b.x = 0) ∨ (a.x = W ∧ b.x = W) ∨ (a.y = 0 ∧ b.y = 0) ∨ (a.y = H ∧ b.y = H)
def inBox (W H : Int) (p : Pt) : Prop := (0 ≤ p.x ∧ p.x ≤ W) ∧ 0 ≤ p.y ∧ p.y ≤ H
def sqr (W H : Int) (q : Pt) : Int := if (0 ≤ q.x ∧ q.x < W) ∧ 0 ≤ q.y ∧ q.y < H then 1 else 0
def sumA : List Tri3 → Int
 | [] => 0
 | T :: L => det T.A T.B T.C + sumA L
theorem sumA_append (l m : List Tri3) : sumA (l ++ m) = sumA l + sumA m := by
 induction l with
 | nil => simp [sumA]
 | cons w l ih => simp only [List.cons_append, sumA, ih]; omega
theorem sumA_perm {l m : List Tri3} (h : l.Perm m) : sumA l = sumA m := by
 induction h with
 | nil => rfl
 | cons x _ ih => simp only [sumA, ih]
 | swap x y l => simp only [sumA]; omega
 | trans _ _ h1 h2 => exact h1.trans h2
structure Tiles (W H : Int) (L : List Tri3) : Prop where
 pos : ∀ T ∈ L, 0 < det T.A T.B T.C
 once : (L.flatMap ways).Nodup
 box : ∀ T ∈ L, inBox W H T.A ∧ inBox W H T.B ∧ inBox W H T.C
 rim : ∀ w ∈ L.flatMap ways, (w.2, w.1) ∈ L.flatMap ways ∨ onRim W H w.1 w.2
 cov : ∀ K, 0 < K → ∀ q, cvr K (L.flatMap ways) q = sqr (K * W) (K * H) q
 area : sumA L = 2 * (W * H)
theorem zBc {L M : List Tri3} (h : L.Perm M) : (L.flatMap ways).Perm (M.flatMap ways) := h.flatMap_right _
theorem Tiles.perm {W H : Int} {L M : List Tri3} (h : Tiles W H L) (p : L.Perm M) : Tiles W H M where
 pos := fun T hT => h.pos T (p.mem_iff.2 hT)
 once := (zBc p).nodup_iff.1 h.once
 box := fun T hT => h.box T (p.mem_iff.2 hT)
 rim := fun w hw => by
  have := h.rim w ((zBc p).mem_iff.2 hw)
  rwa [(zBc p).mem_iff] at this
 cov := fun K hK q => by rw [← zGl (zBc p)]; exact h.cov K hK q
 area := by rw [← sumA_perm p]; exact h.area
def hinK (K : Int) (T : Tri3) (q : Pt) : Int := cvr K (ways T) q
theorem zJu (K : Int) (T : Tri3) (q : Pt) : hinK K T q = crs (sc K T.A) (sc K T.B) q + crs (sc K T.B) (sc K T.C) q + crs (sc K T.C) (sc K T.A) q := by
 simp only [hinK, ways, cvr]; omega
theorem zL0 {K : Int} (hK : 0 < K) {a b c : Pt} (h : 0 < det a b c) : 0 < det (sc K a) (sc K b) (sc K c) := by
 rw [sc_det]; exact Int.mul_pos hK (Int.mul_pos hK h)
theorem hinK_nn {K : Int} (hK : 0 < K) {T : Tri3} (h : 0 < det T.A T.B T.C) (q : Pt) : 0 ≤ hinK K T q ∧ hinK K T q ≤ 1 := by
 rw [zJu]; exact (zJt (zL0 hK h) q).1
theorem cvr_nn {K : Int} (hK : 0 < K) : ∀ {L : List Tri3}, (∀ T ∈ L, 0 < det T.A T.B T.C) → ∀ q, 0 ≤ cvr K (L.flatMap ways) q
 | [], _, q => by simp [cvr]
 | T :: L, h, q => by
  rw [List.flatMap_cons, zCg];have := cvr_nn hK (L := L) (fun S hS => h S (by simp [hS])) q;have := (hinK_nn hK (h T (by simp)) q).1;unfold hinK at this;omega
theorem zK3 {K : Int} (hK : 0 < K) : ∀ {L : List Tri3}, (∀ T ∈ L, 0 < det T.A T.B T.C) → ∀ q, 0 < cvr K (L.flatMap ways) q → ∃ T ∈ L, 0 < hinK K T q
 | [], _, q, h => by simp [cvr] at h
 | T :: L, h, q, hc => by
  rw [List.flatMap_cons, zCg] at hc;by_cases hT : 0 < hinK K T q
  ·exact ⟨T, by simp, hT⟩
  ·unfold hinK at hT;obtain ⟨S, hS, h1⟩ := zK3 hK (L := L) (fun S hS => h S (by simp [hS])) q (by omega);exact ⟨S, by simp [hS], h1⟩
theorem zEe {α : Type} [DecidableEq α] {L : List α} {a b : α} (ha : a ∈ L) (hb : b ∈ L) (h : a ≠ b) : ∃ M, L.Perm (a :: b :: M) := by
 have h1 := List.perm_cons_erase ha;have hb' : b ∈ L.erase a := (List.mem_erase_of_ne (fun e => h e.symm)).2 hb;exact ⟨(L.erase a).erase b, h1.trans ((List.perm_cons_erase hb').cons a)⟩
section
variable {W H : Int} {L : List Tri3} (h : Tiles W H L)
include h
theorem Tiles.apart {S T : Tri3} (hS : S ∈ L) (hT : T ∈ L) (hne : S ≠ T) {K : Int} (hK : 0 < K) (q : Pt) : ¬ (hinK K S q = 1 ∧ hinK K T q = 1) := by
 intro ⟨h1, h2⟩;obtain ⟨M, hM⟩ := zEe hS hT hne;have h' := h.perm hM;have hc := h'.cov K hK q;rw [List.flatMap_cons, List.flatMap_cons, zCg, zCg] at hc;have := cvr_nn hK (L := M) (fun U hU => h'.pos U (by simp [hU])) q;unfold hinK at h1 h2;have : sqr (K * W) (K * H) q ≤ 1 := by unfold sqr; split <;> omega
 omega
end
def near3 (M : Int) (a b c p v : Pt) : Prop :=
 (0 < det (sc M a) (sc M b) p ∨ (det (sc M a) (sc M b) p = 0 ∧ 0 < crd a b v)) ∧
 (0 < det (sc M b) (sc M c) p ∨ (det (sc M b) (sc M c) p = 0 ∧ 0 < crd b c v)) ∧
 (0 < det (sc M c) (sc M a) p ∨ (det (sc M c) (sc M a) p = 0 ∧ 0 < crd c a v))
def near (M : Int) (T : Tri3) (p v : Pt) : Prop := near3 M T.A T.B T.C p v
theorem zHq {M : Int} {a b c p v : Pt} (h : near3 M a b c p v) : near3 M b c a p v := ⟨h.2.1, h.2.2, h.1⟩
theorem zHm {M K d c e : Int} (hM : 0 < M) (hK : 0 < K) (h : 0 < d ∨ (d = 0 ∧ 0 < c)) (hc : e = K * (K * d + M * c)) (hb : M * c + K > 0) : 0 < e := by
 rw [hc];refine Int.mul_pos hK ?_;rcases h with h | ⟨h, k⟩
 ·have : K ≤ K * d := by
    have k0 : 0 ≤ K * (d - 1) := Int.mul_nonneg (by omega) (by omega);rw [Int.mul_sub, Int.mul_one] at k0;omega
  omega
 ·rw [h, Int.mul_zero, Int.zero_add]; exact Int.mul_pos hM k
theorem zDw (M K : Int) (a b p v : Pt) : det (sc (K * M) a) (sc (K * M) b) ⟨K * p.x + v.x, K * p.y + v.y⟩ = K * (K * det (sc M a) (sc M b) p + M * crd a b v) := by unfold det sc crd; grind
def big (M : Int) (T : Tri3) (v : Pt) : Int := (M * crd T.A T.B v).natAbs + (M * crd T.B T.C v).natAbs + (M * crd T.C T.A v).natAbs
theorem zKo {M : Int} (hM : 0 < M) {T : Tri3} {p v : Pt} (hp : 0 < det T.A T.B T.C) (hn : near M T p v) {K : Int} (hK : big M T v < K) : hinK (K * M) T ⟨K * p.x + v.x, K * p.y + v.y⟩ = 1 := by
 obtain ⟨h1, h2, h3⟩ := hn;unfold big at hK;have hK0 : 0 < K := by omega
 rw [zJu];refine (zJt (zL0 (Int.mul_pos hK0 hM) hp) _).2.2 ?_ ?_ ?_
 ·exact zHm hM hK0 h1 (zDw M K _ _ p v) (by omega)
 ·exact zHm hM hK0 h2 (zDw M K _ _ p v) (by omega)
 ·exact zHm hM hK0 h3 (zDw M K _ _ p v) (by omega)
theorem Tiles.same {W H : Int} {L : List Tri3} (h : Tiles W H L) {S T : Tri3} (hS : S ∈ L) (hT : T ∈ L) {M : Int} (hM : 0 < M) {p v : Pt} (h1 : near M S p v) (h2 : near M T p v) : S = T := by
 refine Decidable.byContradiction fun hne => ?_;have hK : 0 < big M S v + big M T v + 1 := by unfold big; omega
 exact h.apart hS hT hne (Int.mul_pos hK hM) _ ⟨zKo hM (h.pos S hS) h1 (by unfold big; omega), zKo hM (h.pos T hT) h2 (by unfold big; omega)⟩
theorem zJ1 (p : Pt) : sc 1 p = p := by rw [Pt.eq_iff]; simp [sc]
def Cyc (T : Tri3) (a b c : Pt) : Prop := (a = T.A ∧ b = T.B ∧ c = T.C) ∨ (a = T.B ∧ b = T.C ∧ c = T.A) ∨ (a = T.C ∧ b = T.A ∧ c = T.B)
theorem Cyc.refl (T : Tri3) : Cyc T T.A T.B T.C := .inl ⟨rfl, rfl, rfl⟩
theorem Cyc.turn {T : Tri3} {a b c : Pt} (h : Cyc T a b c) : Cyc T b c a := by
 rcases h with ⟨h1, h2, h3⟩ | ⟨h1, h2, h3⟩ | ⟨h1, h2, h3⟩
 ·exact .inr (.inl ⟨h2, h3, h1⟩)
 ·exact .inr (.inr ⟨h2, h3, h1⟩)
 ·exact .inl ⟨h2, h3, h1⟩
theorem Cyc.det {T : Tri3} {a b c : Pt} (h : Cyc T a b c) : det a b c = det T.A T.B T.C := by
 rcases h with ⟨rfl, rfl, rfl⟩ | ⟨rfl, rfl, rfl⟩ | ⟨rfl, rfl, rfl⟩
 ·rfl
 ·rw [zAl]
 ·rw [zAl, zAl]
theorem Cyc.near {T : Tri3} {a b c : Pt} (h : Cyc T a b c) {M : Int} {p v : Pt} (hn : near3 M a b c p v) : near M T p v := by
 rcases h with ⟨rfl, rfl, rfl⟩ | ⟨rfl, rfl, rfl⟩ | ⟨rfl, rfl, rfl⟩
 ·exact hn
 ·exact zHq (zHq hn)
 ·exact zHq hn
theorem Cyc.ways {T : Tri3} {a b c : Pt} (h : Cyc T a b c) : (ways T).Perm [(a, b), (b, c), (c, a)] := by
 rcases h with ⟨rfl, rfl, rfl⟩ | ⟨rfl, rfl, rfl⟩ | ⟨rfl, rfl, rfl⟩
 ·exact .refl _
 ·exact List.perm_append_comm (l₁ := [(T.A, T.B)]) (l₂ := [(T.B, T.C), (T.C, T.A)])
 ·exact List.perm_append_comm (l₁ := [(T.A, T.B), (T.B, T.C)]) (l₂ := [(T.C, T.A)])
theorem Cyc.way {T : Tri3} {a b c : Pt} (h : Cyc T a b c) : (a, b) ∈ Go.Proofs.YtmobnmjjmafibaaGreat.ways T := h.ways.mem_iff.2 (by simp)
theorem zCs {T : Tri3} {a b : Pt} (h : (a, b) ∈ ways T) : ∃ c, Cyc T a b c := by
 simp only [ways, List.mem_cons, Prod.mk.injEq, List.not_mem_nil, or_false] at h;rcases h with ⟨rfl, rfl⟩ | ⟨rfl, rfl⟩ | ⟨rfl, rfl⟩
 ·exact ⟨_, .inl ⟨rfl, rfl, rfl⟩⟩
 ·exact ⟨_, .inr (.inl ⟨rfl, rfl, rfl⟩)⟩
 ·exact ⟨_, .inr (.inr ⟨rfl, rfl, rfl⟩)⟩
def isCnr (T : Tri3) (p : Pt) : Prop := p = T.A ∨ p = T.B ∨ p = T.C
theorem zKx {T : Tri3} {p : Pt} (h : isCnr T p) : ∃ b c, Cyc T p b c := by
 rcases h with rfl | rfl | rfl
 ·exact ⟨_, _, .inl ⟨rfl, rfl, rfl⟩⟩
 ·exact ⟨_, _, .inr (.inl ⟨rfl, rfl, rfl⟩)⟩
 ·exact ⟨_, _, .inr (.inr ⟨rfl, rfl, rfl⟩)⟩
theorem Cyc.cnr {T : Tri3} {a b c : Pt} (h : Cyc T a b c) : isCnr T a := by
 rcases h with ⟨h, _⟩ | ⟨h, _⟩ | ⟨h, _⟩
 ·exact .inl h
 ·exact .inr (.inl h)
 ·exact .inr (.inr h)
theorem Cyc.cnr_iff {T : Tri3} {a b c : Pt} (h : Cyc T a b c) (p : Pt) : isCnr T p ↔ p = a ∨ p = b ∨ p = c := by
 unfold isCnr;rcases h with ⟨rfl, rfl, rfl⟩ | ⟨rfl, rfl, rfl⟩ | ⟨rfl, rfl, rfl⟩ <;> constructor <;> (rintro (h | h | h) <;> simp [h])
def hasT (T : Tri3) (p : Pt) : Prop := 0 ≤ det T.A T.B p ∧ 0 ≤ det T.B T.C p ∧ 0 ≤ det T.C T.A p
def insT (T : Tri3) (p : Pt) : Prop := 0 < det T.A T.B p ∧ 0 < det T.B T.C p ∧ 0 < det T.C T.A p
def edg (a b c p : Pt) : Prop := det a b p = 0 ∧ 0 < det b c p ∧ 0 < det c a p
theorem zGf {T : Tri3} {p : Pt} (hp : 0 < det T.A T.B T.C) (h : hasT T p) : isCnr T p ∨ insT T p ∨ ∃ a b c, Cyc T a b c ∧ edg a b c p := by
 obtain ⟨h1, h2, h3⟩ := h;have hs := zC5 T.A T.B T.C p;have hp2 : 0 < det T.B T.C T.A := by rw [zAl]; exact hp
 have hp3 : 0 < det T.C T.A T.B := by rw [zAl, zAl]; exact hp
 by_cases e1 : det T.A T.B p = 0 <;> by_cases e2 : det T.B T.C p = 0 <;> by_cases e3 : det T.C T.A p = 0
 ·omega
 ·exact .inl (.inr (.inl ((corner0 p hp2).2 ⟨e2, e1⟩)))
 ·exact .inl (.inl ((corner0 p hp).2 ⟨e1, e3⟩))
 ·exact .inr (.inr ⟨_, _, _, .inl ⟨rfl, rfl, rfl⟩, e1, by omega, by omega⟩)
 ·exact .inl (.inr (.inr ((corner0 p hp3).2 ⟨e3, e2⟩)))
 ·exact .inr (.inr ⟨_, _, _, .inr (.inl ⟨rfl, rfl, rfl⟩), e2, by omega, by omega⟩)
 ·exact .inr (.inr ⟨_, _, _, .inr (.inr ⟨rfl, rfl, rfl⟩), e3, by omega, by omega⟩)
 ·exact .inr (.inl ⟨by omega, by omega, by omega⟩)
theorem zK5 {T : Tri3} {p : Pt} (hp : 0 < det T.A T.B T.C) (h : isCnr T p) : hasT T p ∧ ¬ insT T p := by
 have hp2 : 0 < det T.B T.C T.A := by rw [zAl]; exact hp
 have hp3 : 0 < det T.C T.A T.B := by rw [zAl, zAl]; exact hp
 have hs := zC5 T.A T.B T.C p;unfold hasT insT;rcases h with h | h | h
 ·have := (corner0 p hp).1 h; omega
 ·have := (corner0 p hp2).1 h; omega
 ·have := (corner0 p hp3).1 h; omega
theorem zIt {a b c p : Pt} (hp : 0 < det a b c) (h : edg a b c p) : p ≠ a ∧ p ≠ b ∧ p ≠ c := by
 obtain ⟨h1, h2, h3⟩ := h;refine ⟨?_, ?_, ?_⟩ <;> rintro rfl
 ·have := (corner0 p hp).1 rfl; omega
 ·have := (corner0 p (a := p) (b := c) (c := a) (by rw [zAl]; exact hp)).1 rfl; omega
 ·omega
theorem near_ins {T : Tri3} {p : Pt} (h : insT T p) (v : Pt) : near 1 T p v := by
 unfold near near3;simp only [zJ1];exact ⟨.inl h.1, .inl h.2.1, .inl h.2.2⟩
theorem near_has {T : Tri3} {p : Pt} (hp : 0 < det T.A T.B T.C) (h : hasT T p) : near 1 T p ⟨T.A.x + T.B.x + T.C.x - 3 * p.x, T.A.y + T.B.y + T.C.y - 3 * p.y⟩ := by
 unfold near near3;simp only [zJ1];have e1 : crd T.A T.B ⟨T.A.x + T.B.x + T.C.x - 3 * p.x, T.A.y + T.B.y + T.C.y - 3 * p.y⟩ = det T.A T.B T.C - 3 * det T.A T.B p := by unfold crd det; grind
 have e2 : crd T.B T.C ⟨T.A.x + T.B.x + T.C.x - 3 * p.x, T.A.y + T.B.y + T.C.y - 3 * p.y⟩ = det T.A T.B T.C - 3 * det T.B T.C p := by unfold crd det; grind
 have e3 : crd T.C T.A ⟨T.A.x + T.B.x + T.C.x - 3 * p.x, T.A.y + T.B.y + T.C.y - 3 * p.y⟩ = det T.A T.B T.C - 3 * det T.C T.A p := by unfold crd det; grind
 rw [e1, e2, e3];obtain ⟨h1, h2, h3⟩ := h;omega
theorem zE0 {a b c p v : Pt} (h : edg a b c p) (hv : 0 < crd a b v) : near3 1 a b c p v := by
 unfold near3;simp only [zJ1];exact ⟨.inr ⟨h.1, hv⟩, .inl h.2.1, .inl h.2.2⟩
section
variable {W H : Int} {L : List Tri3} (h : Tiles W H L)
include h
theorem Tiles.ins_one {S T : Tri3} (hS : S ∈ L) (hT : T ∈ L) {p : Pt} (h1 : insT S p) (h2 : hasT T p) : S = T :=
 h.same hS hT (M := 1) (by omega) (near_ins h1 _) (near_has (h.pos T hT) h2)
end
theorem sq_nn (x : Int) : 0 ≤ x * x := by
 rcases Int.le_total 0 x with h | h
 ·exact Int.mul_nonneg h h
 ·exact Int.mul_nonneg_of_nonpos_of_nonpos h h
theorem zFd {a b d e : Pt} (hab : a ≠ b) (h : ¬ (crd a b ⟨e.x - d.x, e.y - d.y⟩ = 0 ∧ (b.x - a.x) * (e.x - d.x) + (b.y - a.y) * (e.y - d.y) ≤ 0)) : ∃ v, 0 < crd a b v ∧ 0 < crd d e v := by
 rcases Int.lt_trichotomy (crd a b ⟨e.x - d.x, e.y - d.y⟩) 0 with k | k | k
 ·refine ⟨⟨(b.x - a.x) - (e.x - d.x), (b.y - a.y) - (e.y - d.y)⟩, ?_, ?_⟩
  ·have : crd a b ⟨(b.x - a.x) - (e.x - d.x), (b.y - a.y) - (e.y - d.y)⟩ = - crd a b ⟨e.x - d.x, e.y - d.y⟩ := by unfold crd; grind
   omega
  ·have : crd d e ⟨(b.x - a.x) - (e.x - d.x), (b.y - a.y) - (e.y - d.y)⟩ = - crd a b ⟨e.x - d.x, e.y - d.y⟩ := by unfold crd; grind
   omega
 ·refine ⟨⟨-(b.y - a.y), b.x - a.x⟩, ?_, ?_⟩
  ·have e1 : crd a b ⟨-(b.y - a.y), b.x - a.x⟩ = (b.x - a.x) * (b.x - a.x) + (b.y - a.y) * (b.y - a.y) := by unfold crd; grind
   rw [e1];have s1 := sq_nn (b.x - a.x);have s2 := sq_nn (b.y - a.y);rcases Int.lt_or_eq_of_le s1 with s | s
   ·omega
   rcases Int.lt_or_eq_of_le s2 with t | t
   ·omega
   exfalso
   apply hab;rw [Pt.eq_iff];have := Int.mul_eq_zero.1 s.symm;have := Int.mul_eq_zero.1 t.symm;omega
  ·have : crd d e ⟨-(b.y - a.y), b.x - a.x⟩ = (b.x - a.x) * (e.x - d.x) + (b.y - a.y) * (e.y - d.y) := by unfold crd; grind
   rw [this];omega
 ·refine ⟨⟨(e.x - d.x) - (b.x - a.x), (e.y - d.y) - (b.y - a.y)⟩, ?_, ?_⟩
  ·have : crd a b ⟨(e.x - d.x) - (b.x - a.x), (e.y - d.y) - (b.y - a.y)⟩ = crd a b ⟨e.x - d.x, e.y - d.y⟩ := by unfold crd; grind
   omega
  ·have : crd d e ⟨(e.x - d.x) - (b.x - a.x), (e.y - d.y) - (b.y - a.y)⟩ = crd a b ⟨e.x - d.x, e.y - d.y⟩ := by unfold crd; grind
   omega
theorem zEc {a b c : Pt} (h : 0 < det a b c) : a ≠ b := by
 rintro rfl;have : det a a c = 0 := by unfold det; grind
 omega
theorem zD6 {a b c p x : Pt} (hc : 0 < det a b c) (hx : 0 < det b a x) (h : edg a b c p) : edg b a x p := by
 obtain ⟨h1, h2, h3⟩ := h;have e1 : det a b c * det a x p = det c a p * det b a x + det a b p * det a x c := by unfold det; grind
 have e2 : det a b c * det x b p = det b c p * det b a x - det a b p * det b x c := by unfold det; grind
 rw [h1, Int.zero_mul] at e1 e2;refine ⟨by rw [zC8]; omega, ?_, ?_⟩
 ·exact (zB6 hc).1 (by rw [e1]; have := Int.mul_pos h3 hx; omega)
 ·exact (zB6 hc).1 (by rw [e2]; have := Int.mul_pos h2 hx; omega)
theorem crd_zero_edge {a b d e p : Pt} (hde : d ≠ e) (h2 : det d e p = 0) (hk : crd a b ⟨e.x - d.x, e.y - d.y⟩ = 0) (h1 : det a b p = 0) : det a b d = 0 ∧ det a b e = 0 := by
 have e1 : det a b e = det a b d + crd a b ⟨e.x - d.x, e.y - d.y⟩ := by unfold det crd; grind
 have e2 : det a b d * (e.x - d.x) - crd a b ⟨e.x - d.x, e.y - d.y⟩ * (d.x - p.x) + (b.x - a.x) * det d e p = det a b p * (e.x - d.x) := by unfold det crd; grind
 have e3 : det a b d * (e.y - d.y) - crd a b ⟨e.x - d.x, e.y - d.y⟩ * (d.y - p.y) + (b.y - a.y) * det d e p = det a b p * (e.y - d.y) := by unfold det crd; grind
 rw [h1, h2, hk] at e2 e3;simp only [Int.zero_mul, Int.mul_zero, Int.add_zero, Int.sub_zero] at e2 e3;have z : det a b d = 0 := by
  rcases Int.mul_eq_zero.1 e2 with k | k
  ·exact k
  ·rcases Int.mul_eq_zero.1 e3 with k' | k'
   ·exact k'
   ·exact absurd (Pt.eq_iff.2 ⟨by omega, by omega⟩) hde
 exact ⟨z, by omega⟩
theorem zKl {W H : Int} {a b c d e f p : Pt} (hr : onRim W H a b) (hab : 0 < det a b c) (hc : inBox W H c) (hf : inBox W H f) (hde : 0 < det d e f) (h1 : det a b p = 0) (h2 : det d e p = 0) (hk : crd a b ⟨e.x - d.x, e.y - d.y⟩ = 0) (hd : (b.x - a.x) * (e.x - d.x) + (b.y - a.y) * (e.y - d.y) ≤ 0) : False := by
 obtain ⟨z1, z2⟩ := crd_zero_edge (zEc hde) h2 hk h1;unfold inBox at hc hf;have nde := zEc hde;unfold det at hab hde z1 z2;clear h1 h2 hk;rcases hr with ⟨r1, r2⟩ | ⟨r1, r2⟩ | ⟨r1, r2⟩ | ⟨r1, r2⟩
 all_goals (rw [r1, r2] at hab z1 z2 hd; simp only [Int.sub_self, Int.zero_mul, Int.zero_sub, Int.zero_add] at hab z1 z2 hd)
 ·have ya : b.y - a.y ≠ 0 := fun e => by rw [e] at hab; simp at hab
  have xd : d.x = 0 := by
   rcases Int.mul_eq_zero.1 (Int.neg_eq_zero.1 z1) with k | k <;> omega
  have xe : e.x = 0 := by
   rcases Int.mul_eq_zero.1 (Int.neg_eq_zero.1 z2) with k | k <;> omega
  rw [xd, xe] at hde;simp only [Int.sub_self, Int.zero_mul, Int.zero_sub, Int.sub_zero] at hde hab;have n1 : b.y - a.y < 0 := by
   refine Decidable.byContradiction fun k => ?_;have := Int.mul_nonneg (a := b.y - a.y) (b := c.x) (by omega) (by omega);omega
  have n2 : e.y - d.y < 0 := by
   refine Decidable.byContradiction fun k => ?_;have := Int.mul_nonneg (a := e.y - d.y) (b := f.x) (by omega) (by omega);omega
  have := Int.mul_pos_of_neg_of_neg n1 n2;omega
 ·have ya : b.y - a.y ≠ 0 := fun e => by rw [e] at hab; simp at hab
  have xd : d.x = W := by
   rcases Int.mul_eq_zero.1 (Int.neg_eq_zero.1 z1) with k | k <;> omega
  have xe : e.x = W := by
   rcases Int.mul_eq_zero.1 (Int.neg_eq_zero.1 z2) with k | k <;> omega
  rw [xd, xe] at hde;simp only [Int.sub_self, Int.zero_mul, Int.zero_sub] at hde hab;have n1 : 0 < b.y - a.y := by
   refine Decidable.byContradiction fun k => ?_;have := Int.mul_nonneg_of_nonpos_of_nonpos (a := b.y - a.y) (b := c.x - W) (by omega) (by omega);omega
  have n2 : 0 < e.y - d.y := by
   refine Decidable.byContradiction fun k => ?_;have := Int.mul_nonneg_of_nonpos_of_nonpos (a := e.y - d.y) (b := f.x - W) (by omega) (by omega);omega
  have := Int.mul_pos n1 n2;omega
 ·simp only [Int.sub_zero, Int.add_zero] at hab z1 z2 hd;have ya : b.x - a.x ≠ 0 := fun e => by rw [e] at hab; simp at hab
  have xd : d.y = 0 := by
   rcases Int.mul_eq_zero.1 z1 with k | k <;> omega
  have xe : e.y = 0 := by
   rcases Int.mul_eq_zero.1 z2 with k | k <;> omega
  rw [xd, xe] at hde;simp only [Int.sub_self, Int.zero_mul, Int.sub_zero] at hde;have n1 : 0 < b.x - a.x := by
   refine Decidable.byContradiction fun k => ?_;have := Int.mul_nonneg (a := -(b.x - a.x)) (b := c.y) (by omega) (by omega);rw [Int.neg_mul] at this; omega
  have n2 : 0 < e.x - d.x := by
   refine Decidable.byContradiction fun k => ?_;have := Int.mul_nonneg (a := -(e.x - d.x)) (b := f.y) (by omega) (by omega);rw [Int.neg_mul] at this; omega
  have := Int.mul_pos n1 n2;omega
 ·simp only [Int.sub_zero, Int.add_zero] at hab z1 z2 hd;have ya : b.x - a.x ≠ 0 := fun e => by rw [e] at hab; simp at hab
  have xd : d.y = H := by
   rcases Int.mul_eq_zero.1 z1 with k | k <;> omega
  have xe : e.y = H := by
   rcases Int.mul_eq_zero.1 z2 with k | k <;> omega
  rw [xd, xe] at hde;simp only [Int.sub_self, Int.zero_mul, Int.sub_zero] at hde;have n1 : b.x - a.x < 0 := by
   refine Decidable.byContradiction fun k => ?_;have := Int.mul_nonneg (a := b.x - a.x) (b := H - c.y) (by omega) (by omega);have e : (b.x - a.x) * (H - c.y) = - ((b.x - a.x) * (c.y - H)) := by grind
   omega
  have n2 : e.x - d.x < 0 := by
   refine Decidable.byContradiction fun k => ?_;have := Int.mul_nonneg (a := e.x - d.x) (b := H - f.y) (by omega) (by omega);have e : (e.x - d.x) * (H - f.y) = - ((e.x - d.x) * (f.y - H)) := by grind
   omega
  have := Int.mul_pos_of_neg_of_neg n1 n2;omega
section
variable {W H : Int} {L : List Tri3} (h : Tiles W H L)
include h
omit h in
theorem zEs {T : Tri3} {a b : Pt} (hT : T ∈ L) (hw : (a, b) ∈ ways T) : (a, b) ∈ L.flatMap ways := List.mem_flatMap.2 ⟨T, hT, hw⟩
theorem Tiles.cyc_pos {T : Tri3} {a b c : Pt} (hT : T ∈ L) (hc : Cyc T a b c) : 0 < det a b c := by rw [hc.det]; exact h.pos T hT
theorem Tiles.cyc_box {T : Tri3} {a b c : Pt} (hT : T ∈ L) (hc : Cyc T a b c) : inBox W H a := by
 have := h.box T hT;rcases hc with ⟨rfl, _⟩ | ⟨rfl, _⟩ | ⟨rfl, _⟩
 ·exact this.1
 ·exact this.2.1
 ·exact this.2.2
theorem Tiles.edg_two {S T : Tri3} (hS : S ∈ L) (hT : T ∈ L) {a b c p : Pt} (hc : Cyc S a b c) (hp : edg a b c p) (hh : hasT T p) (hn : ¬ isCnr T p) : T = S ∨ ((b, a) ∈ ways T ∧ ¬ onRim W H a b) := by
 have pS := h.cyc_pos hS hc;rcases zGf (h.pos T hT) hh with k | k | ⟨d, e, f, hd, k⟩
 ·exact absurd k hn
 ·obtain ⟨q1, q2, q3⟩ := hp;have hv : hasT S p := by
   unfold hasT;rcases hc with ⟨rfl, rfl, rfl⟩ | ⟨rfl, rfl, rfl⟩ | ⟨rfl, rfl, rfl⟩ <;> omega
  exact .inl (h.ins_one hT hS k hv)
 ·have pT := h.cyc_pos hT hd;by_cases hg : crd a b ⟨e.x - d.x, e.y - d.y⟩ = 0 ∧ (b.x - a.x) * (e.x - d.x) + (b.y - a.y) * (e.y - d.y) ≤ 0
  ·rcases h.rim (a, b) (zEs hS hc.way) with hr | hr
   ·obtain ⟨U, hU, hw⟩ := List.mem_flatMap.1 hr;obtain ⟨x, hx⟩ := zCs hw;have pU := h.cyc_pos hU hx;have hpU := zD6 pS pU hp;have hg' : ¬ (crd b a ⟨e.x - d.x, e.y - d.y⟩ = 0 ∧ (a.x - b.x) * (e.x - d.x) + (a.y - b.y) * (e.y - d.y) ≤ 0) := by
     intro ⟨g1, g2⟩;have e1 : (a.x - b.x) * (e.x - d.x) + (a.y - b.y) * (e.y - d.y) = - ((b.x - a.x) * (e.x - d.x) + (b.y - a.y) * (e.y - d.y)) := by grind
     have z0 : (b.x - a.x) * (e.x - d.x) + (b.y - a.y) * (e.y - d.y) = 0 := by omega
     have g0 := hg.1;have i1 : ((b.x - a.x) * (b.x - a.x) + (b.y - a.y) * (b.y - a.y)) * (e.x - d.x) = (b.x - a.x) * ((b.x - a.x) * (e.x - d.x) + (b.y - a.y) * (e.y - d.y)) - (b.y - a.y) * crd a b ⟨e.x - d.x, e.y - d.y⟩ := by unfold crd; grind
     have i2 : ((b.x - a.x) * (b.x - a.x) + (b.y - a.y) * (b.y - a.y)) * (e.y - d.y) = (b.y - a.y) * ((b.x - a.x) * (e.x - d.x) + (b.y - a.y) * (e.y - d.y)) + (b.x - a.x) * crd a b ⟨e.x - d.x, e.y - d.y⟩ := by unfold crd; grind
     rw [z0, g0] at i1 i2;simp only [Int.mul_zero, Int.sub_zero, Int.add_zero] at i1 i2;have s1 := sq_nn (b.x - a.x);have s2 := sq_nn (b.y - a.y);have hab := zEc pS;have nz : ¬ (b.x - a.x) * (b.x - a.x) + (b.y - a.y) * (b.y - a.y) = 0 := by
      intro z;apply hab;rw [Pt.eq_iff];have u1 := Int.mul_eq_zero.1 (show (b.x - a.x) * (b.x - a.x) = 0 by omega);have u2 := Int.mul_eq_zero.1 (show (b.y - a.y) * (b.y - a.y) = 0 by omega);omega
     have u1 := (Int.mul_eq_zero.1 i1).resolve_left nz;have u2 := (Int.mul_eq_zero.1 i2).resolve_left nz;exact zEc pT (Pt.eq_iff.2 ⟨by omega, by omega⟩)
    obtain ⟨v, v1, v2⟩ := zFd (zEc pS).symm hg';have hUT := h.same hU hT (M := 1) (by omega) (hx.near (zE0 hpU v1)) (hd.near (zE0 k v2));by_cases hr' : onRim W H a b
    ·exact (zKl hr' pS (h.cyc_box hS hc.turn.turn) (h.cyc_box hT hd.turn.turn) pT hp.1 k.1 hg.1 hg.2).elim
    ·exact .inr ⟨hUT ▸ hw, hr'⟩
   ·exact (zKl hr pS (h.cyc_box hS hc.turn.turn) (h.cyc_box hT hd.turn.turn) pT hp.1 k.1 hg.1 hg.2).elim
  ·obtain ⟨v, v1, v2⟩ := zFd (zEc pS) hg;exact .inl (h.same hS hT (M := 1) (by omega) (hc.near (zE0 hp v1)) (hd.near (zE0 k v2))).symm
end
theorem zJy {L : List Tri3} (h : (L.flatMap ways).Nodup) {S T : Tri3} (hS : S ∈ L) (hT : T ∈ L) {w : Pt × Pt} (h1 : w ∈ ways S) (h2 : w ∈ ways T) : S = T := by
 refine Decidable.byContradiction fun hne => ?_;obtain ⟨M, hM⟩ := zEe hS hT hne;have h' := (zBc hM).nodup_iff.1 h;rw [List.flatMap_cons, List.flatMap_cons, List.nodup_append] at h';exact h'.2.2 w h1 w (List.mem_append_left _ h2) rfl
theorem zHr {p x y : Pt} (hp : 0 < det p x y) {s t : Int} (hs : 0 < s) (ht : 0 < t) : near3 1 p x y p ⟨s * (x.x - p.x) + t * (y.x - p.x), s * (x.y - p.y) + t * (y.y - p.y)⟩ := by
 unfold near3;simp only [zJ1];refine ⟨.inr ⟨by unfold det; grind, ?_⟩, .inl (by rw [zAl]; exact hp), .inr ⟨by unfold det; grind, ?_⟩⟩
 ·have e : crd p x ⟨s * (x.x - p.x) + t * (y.x - p.x), s * (x.y - p.y) + t * (y.y - p.y)⟩ = t * det p x y := by unfold crd det; grind
  rw [e]; exact Int.mul_pos ht hp
 ·have e : crd y p ⟨s * (x.x - p.x) + t * (y.x - p.x), s * (x.y - p.y) + t * (y.y - p.y)⟩ = s * det p x y := by unfold crd det; grind
  rw [e]; exact Int.mul_pos hs hp
theorem zGn (a b p x y : Pt) (s t : Int) : crd a b ⟨s * (x.x - p.x) + t * (y.x - p.x), s * (x.y - p.y) + t * (y.y - p.y)⟩ = s * crd a b ⟨x.x - p.x, x.y - p.y⟩ + t * crd a b ⟨y.x - p.x, y.y - p.y⟩ := by unfold crd; grind
theorem zJe {W H : Int} {a b c p x : Pt} (hr : onRim W H a b) (hab : 0 < det a b c) (hc : inBox W H c) (hx : inBox W H x) (h1 : det a b p = 0) (hl : crd a b ⟨x.x - p.x, x.y - p.y⟩ ≤ 0) : crd a b ⟨x.x - p.x, x.y - p.y⟩ = 0 := by
 have e : det a b x = det a b p + crd a b ⟨x.x - p.x, x.y - p.y⟩ := by unfold det crd; grind
 have k : 0 ≤ det a b x := by
  unfold inBox at hc hx;clear e h1 hl;unfold det at hab ⊢;rcases hr with ⟨r1, r2⟩ | ⟨r1, r2⟩ | ⟨r1, r2⟩ | ⟨r1, r2⟩
  all_goals (rw [r1, r2] at hab ⊢; simp only [Int.sub_self, Int.zero_mul, Int.zero_sub, Int.sub_zero] at hab ⊢)
  ·have n1 : b.y - a.y < 0 := by
     refine Decidable.byContradiction fun k => ?_;have := Int.mul_nonneg (a := b.y - a.y) (b := c.x) (by omega) (by omega);omega
   have := Int.mul_nonneg (a := -(b.y - a.y)) (b := x.x) (by omega) (by omega);rw [Int.neg_mul] at this; exact this
  ·have n1 : 0 < b.y - a.y := by
     refine Decidable.byContradiction fun k => ?_;have := Int.mul_nonneg_of_nonpos_of_nonpos (a := b.y - a.y) (b := c.x - W) (by omega) (by omega);omega
   have := Int.mul_nonneg (a := b.y - a.y) (b := W - x.x) (by omega) (by omega);have e : (b.y - a.y) * (W - x.x) = - ((b.y - a.y) * (x.x - W)) := by grind
   omega
  ·have n1 : 0 < b.x - a.x := by
     refine Decidable.byContradiction fun k => ?_;have := Int.mul_nonneg (a := -(b.x - a.x)) (b := c.y) (by omega) (by omega);rw [Int.neg_mul] at this; omega
   exact Int.mul_nonneg (by omega) (by omega)
  ·have n1 : b.x - a.x < 0 := by
     refine Decidable.byContradiction fun k => ?_;have := Int.mul_nonneg (a := b.x - a.x) (b := H - c.y) (by omega) (by omega);have e : (b.x - a.x) * (H - c.y) = - ((b.x - a.x) * (c.y - H)) := by grind
     omega
   have := Int.mul_nonneg_of_nonpos_of_nonpos (a := b.x - a.x) (b := x.y - H) (by omega) (by omega);exact this
 omega
theorem zJl {a b p x y : Pt} (hab : a ≠ b) (hp : 0 < det p x y) (h1 : crd a b ⟨x.x - p.x, x.y - p.y⟩ = 0) (h2 : crd a b ⟨y.x - p.x, y.y - p.y⟩ = 0) : False := by
 have i1 : (b.x - a.x) * det p x y = (x.x - p.x) * crd a b ⟨y.x - p.x, y.y - p.y⟩ - (y.x - p.x) * crd a b ⟨x.x - p.x, x.y - p.y⟩ := by unfold crd det; grind
 have i2 : (b.y - a.y) * det p x y = (x.y - p.y) * crd a b ⟨y.x - p.x, y.y - p.y⟩ - (y.y - p.y) * crd a b ⟨x.x - p.x, x.y - p.y⟩ := by unfold crd det; grind
 rw [h1, h2] at i1 i2;simp only [Int.mul_zero, Int.sub_zero] at i1 i2;have u1 := Int.mul_eq_zero.1 i1;have u2 := Int.mul_eq_zero.1 i2;exact hab (Pt.eq_iff.2 ⟨by omega, by omega⟩)
section
variable {W H : Int} {L : List Tri3} (h : Tiles W H L)
include h
theorem Tiles.cnr_all {S T : Tri3} (hS : S ∈ L) (hT : T ∈ L) {p : Pt} (hp : isCnr S p) (hh : hasT T p) : isCnr T p := by
 obtain ⟨x, y, hc⟩ := zKx hp;have pS := h.cyc_pos hS hc;rcases zGf (h.pos T hT) hh with k | k | ⟨a, b, c, hd, k⟩
 ·exact k
 ·have e := h.ins_one hT hS k (zK5 (h.pos S hS) hp).1;rw [e] at k;exact absurd k (zK5 (h.pos S hS) hp).2
 ·exfalso
  have pT := h.cyc_pos hT hd;have nT : ¬ isCnr T p := fun g => by
   obtain ⟨n1, n2, n3⟩ := zIt pT k;rcases (hd.cnr_iff p).1 g with g | g | g
   ·exact n1 g
   ·exact n2 g
   ·exact n3 g
  have go : ∀ s t : Int, 0 < s → 0 < t → 0 < s * crd a b ⟨x.x - p.x, x.y - p.y⟩ + t * crd a b ⟨y.x - p.x, y.y - p.y⟩ → False := by
   intro s t hs ht hv;have e := h.same hS hT (M := 1) (by omega) (hc.near (zHr pS hs ht)) (hd.near (zE0 k (by rw [zGn]; exact hv)));exact nT (e ▸ hp)
  generalize e1 : crd a b ⟨x.x - p.x, x.y - p.y⟩ = u at go
  generalize e2 : crd a b ⟨y.x - p.x, y.y - p.y⟩ = v at go
  by_cases hu : 0 < u
  ·refine go (1 + v.natAbs) 1 (by omega) (by omega) ?_;have := Int.mul_nonneg (a := (v.natAbs : Int)) (b := u - 1) (by omega) (by omega);rw [Int.mul_sub] at this;rw [Int.add_mul]; omega
  by_cases hv : 0 < v
  ·refine go 1 (1 + u.natAbs) (by omega) (by omega) ?_;have := Int.mul_nonneg (a := (u.natAbs : Int)) (b := v - 1) (by omega) (by omega);rw [Int.mul_sub] at this;rw [Int.add_mul]; omega
  rcases h.rim (a, b) (zEs hT hd.way) with hr | hr
  ·obtain ⟨U, hU, hw⟩ := List.mem_flatMap.1 hr;obtain ⟨z, hz⟩ := zCs hw;have pU := h.cyc_pos hU hz;have kU := zD6 pT pU k;have f1 : crd b a ⟨x.x - p.x, x.y - p.y⟩ = -u := by rw [← e1]; unfold crd; grind
   have f2 : crd b a ⟨y.x - p.x, y.y - p.y⟩ = -v := by rw [← e2]; unfold crd; grind
   have nz : ¬ (u = 0 ∧ v = 0) := fun ⟨z1, z2⟩ => zJl (zEc pT) pS (e1.trans z1) (e2.trans z2);have e := h.same hS hU (M := 1) (by omega) (hc.near (zHr pS (s := 1) (t := 1) (by omega) (by omega))) (hz.near (zE0 kU (by rw [zGn, f1, f2]; omega)));have nU : ¬ isCnr U p := fun g => by
    obtain ⟨n1, n2, n3⟩ := zIt pU kU;rcases (hz.cnr_iff p).1 g with g | g | g
    ·exact n1 g
    ·exact n2 g
    ·exact n3 g
   exact nU (e ▸ hp)
  ·have hr : onRim W H a b := hr;have z1 := zJe hr pT (h.cyc_box hT hd.turn.turn) (h.cyc_box hS hc.turn) k.1 (by omega);have z2 := zJe hr pT (h.cyc_box hT hd.turn.turn) (h.cyc_box hS hc.turn.turn) k.1 (by omega);exact zJl (zEc pT) pS z1 z2
end
def hasM (M : Int) (T : Tri3) (p : Pt) : Prop := 0 ≤ det (sc M T.A) (sc M T.B) p ∧ 0 ≤ det (sc M T.B) (sc M T.C) p ∧ 0 ≤ det (sc M T.C) (sc M T.A) p
theorem hasM_one (T : Tri3) (p : Pt) : hasM 1 T p ↔ hasT T p := by unfold hasM hasT; simp only [zJ1]
def bigs (M : Int) (v : Pt) : List Tri3 → Int
 | [] => 0
 | T :: L => big M T v + bigs M v L
theorem zKy (M : Int) (v : Pt) : ∀ {L : List Tri3} {T : Tri3}, T ∈ L → big M T v ≤ bigs M v L
 | S :: L, T, h => by
  have p : ∀ l : List Tri3, 0 ≤ bigs M v l := fun l => by
   induction l with
   | nil => exact Int.le_refl 0
   | cons U l ih => unfold bigs big; omega
  unfold bigs;rcases List.mem_cons.1 h with rfl | h
  ·have := p L; omega
  ·have := zKy M v h;unfold big at *; omega
theorem zJb {M K d c : Int} (hK : 0 < K) (hb : (M * c).natAbs < K) (h : 0 ≤ K * (K * d + M * c)) : 0 ≤ d := by
 have h1 := (zBe hK).1 h;refine Decidable.byContradiction fun hd => ?_;have := Int.mul_nonneg (a := K) (b := -1 - d) (by omega) (by omega);have e : K * (-1 - d) = -K - K * d := by grind
 omega
theorem Tiles.covM {W H : Int} {L : List Tri3} (h : Tiles W H L) (hW : 0 < W) (hH : 0 < H) {M : Int} (hM : 0 < M) {p : Pt} (hp : inBox (M * W) (M * H) p) : ∃ T ∈ L, hasM M T p := by
 have mW := Int.mul_pos hM hW;have mH := Int.mul_pos hM hH
 let v : Pt := ⟨M * W - 2 * p.x, M * H - 2 * p.y⟩
 let K : Int := 2 + bigs M v L
 have p0 : ∀ l : List Tri3, 0 ≤ bigs M v l := fun l => by
  induction l with
  | nil => exact Int.le_refl 0
  | cons U l ih => unfold bigs big; omega
 have hK2 : 2 ≤ K := by have := p0 L; omega
 have hc := h.cov (K * M) (Int.mul_pos (by omega) hM) ⟨K * p.x + v.x, K * p.y + v.y⟩;have hs : sqr (K * M * W) (K * M * H) ⟨K * p.x + v.x, K * p.y + v.y⟩ = 1 := by
  unfold sqr;obtain ⟨⟨h1, h2⟩, h3, h4⟩ := hp;have i1 : K * p.x + v.x = (K - 2) * p.x + M * W := by show K * p.x + (M * W - 2 * p.x) = _; rw [Int.sub_mul]; omega
  have i2 : K * p.y + v.y = (K - 2) * p.y + M * H := by show K * p.y + (M * H - 2 * p.y) = _; rw [Int.sub_mul]; omega
  have j1 := Int.mul_nonneg (a := K - 2) (b := p.x) (by omega) h1;have j2 := Int.mul_nonneg (a := K - 2) (b := p.y) (by omega) h3;have j3 := Int.mul_le_mul_of_nonneg_left (c := K - 2) h2 (by omega);have j4 := Int.mul_le_mul_of_nonneg_left (c := K - 2) h4 (by omega);have l1 : K * M * W = (K - 2) * (M * W) + 2 * (M * W) := by grind
  have l2 : K * M * H = (K - 2) * (M * H) + 2 * (M * H) := by grind
  rw [if_pos];show (0 ≤ K * p.x + v.x ∧ K * p.x + v.x < K * M * W) ∧ 0 ≤ K * p.y + v.y ∧ K * p.y + v.y < K * M * H;rw [i1, i2, l1, l2];omega
 rw [hs] at hc;obtain ⟨T, hT, h1⟩ := zK3 (K := K * M) (Int.mul_pos (by omega) hM) h.pos _ (by rw [hc]; omega);rw [zJu] at h1;have h2 := (zJt (zL0 (Int.mul_pos (show 0 < K by omega) hM) (h.pos T hT)) _).2.1 h1;rw [zDw, zDw, zDw] at h2;have hb := zKy M v hT;refine ⟨T, hT, ?_, ?_, ?_⟩
 ·exact zJb (K := K) (by omega) (by unfold big at hb; omega) h2.1
 ·exact zJb (K := K) (by omega) (by unfold big at hb; omega) h2.2.1
 ·exact zJb (K := K) (by omega) (by unfold big at hb; omega) h2.2.2
theorem Tiles.covers {W H : Int} {L : List Tri3} (h : Tiles W H L) (hW : 0 < W) (hH : 0 < H) {p : Pt} (hp : inBox W H p) : ∃ T ∈ L, hasT T p := by
 obtain ⟨T, hT, k⟩ := h.covM hW hH (M := 1) (by omega) (p := p) (by simpa using hp);exact ⟨T, hT, (hasM_one T p).1 k⟩
theorem onRim_swap {W H : Int} {a b : Pt} (h : onRim W H a b) : onRim W H b a := by unfold onRim at *; omega
theorem Tiles.change {W H : Int} {L Out In M : List Tri3} (h : Tiles W H L) (hL : L.Perm (Out ++ M)) {rem add keep : List (Pt × Pt)}
    (ho : (Out.flatMap ways).Perm (rem ++ keep)) (hi : (In.flatMap ways).Perm (add ++ keep)) (hn : add.Nodup) (hf : ∀ w ∈ add, w ∉ L.flatMap ways)
    (ha : ∀ w ∈ add, (w.2, w.1) ∈ add ∨ onRim W H w.1 w.2) (hr : ∀ w ∈ rem, (w.2, w.1) ∈ rem ∨ onRim W H w.1 w.2)
    (hc : ∀ K, 0 < K → ∀ q, cvr K add q = cvr K rem q) (hA : sumA In = sumA Out) (hp : ∀ T ∈ In, 0 < det T.A T.B T.C) (hb : ∀ T ∈ In, inBox W H T.A ∧ inBox W H T.B ∧ inBox W H T.C) : Tiles W H (In ++ M) := by
 have h0 := h.perm hL;have o1 : ((Out ++ M).flatMap ways).Perm (rem ++ (keep ++ M.flatMap ways)) := by
  rw [List.flatMap_append, ← List.append_assoc]; exact ho.append_right _
 have i1 : ((In ++ M).flatMap ways).Perm (add ++ (keep ++ M.flatMap ways)) := by
  rw [List.flatMap_append, ← List.append_assoc]; exact hi.append_right _
 have n1 := o1.nodup_iff.1 h0.once;rw [List.nodup_append] at n1;have mem0 : ∀ w, w ∈ L.flatMap ways ↔ w ∈ rem ++ (keep ++ M.flatMap ways) := fun w => by rw [(zBc hL).mem_iff, o1.mem_iff]
 refine ⟨?_, ?_, ?_, ?_, ?_, ?_⟩
 ·intro T hT;rcases List.mem_append.1 hT with hT | hT
  ·exact hp T hT
  ·exact h0.pos T (List.mem_append_right _ hT)
 ·rw [i1.nodup_iff, List.nodup_append];refine ⟨hn, n1.2.1, fun a h1 b h2 e => ?_⟩;subst e;exact hf a h1 ((mem0 a).2 (List.mem_append_right _ h2))
 ·intro T hT;rcases List.mem_append.1 hT with hT | hT
  ·exact hb T hT
  ·exact h0.box T (List.mem_append_right _ hT)
 ·intro w hw;rw [i1.mem_iff] at hw ⊢;rcases List.mem_append.1 hw with hw | hw
  ·rcases ha w hw with k | k
   ·exact .inl (List.mem_append_left _ k)
   ·exact .inr k
  ·rcases h.rim w ((mem0 w).2 (List.mem_append_right _ hw)) with k | k
   ·rcases List.mem_append.1 ((mem0 _).1 k) with k | k
    ·rcases hr _ k with g | g
     ·exact absurd rfl (n1.2.2 w g w hw)
     ·exact .inr (onRim_swap g)
    ·exact .inl (List.mem_append_right _ k)
   ·exact .inr k
 ·intro K hK q;have e0 := h0.cov K hK q;rw [zGl o1, zCg] at e0;rw [zGl i1, zCg, hc K hK q];exact e0
 ·have e0 := h0.area;rw [sumA_append] at e0 ⊢;rw [hA]; exact e0
theorem Cyc.area {T : Tri3} {a b c : Pt} (h : Cyc T a b c) (L : List Tri3) : sumA (T :: L) = Go.Proofs.YtmobnmjjmafibaaGreat.det a b c + sumA L := by rw [h.det]; rfl
theorem Cyc.box {W H : Int} {T : Tri3} {a b c : Pt} (h : Cyc T a b c) (ha : inBox W H a) (hb : inBox W H b) (hc : inBox W H c) : inBox W H T.A ∧ inBox W H T.B ∧ inBox W H T.C := by
 rcases h with ⟨rfl, rfl, rfl⟩ | ⟨rfl, rfl, rfl⟩ | ⟨rfl, rfl, rfl⟩
 ·exact ⟨ha, hb, hc⟩
 ·exact ⟨hc, ha, hb⟩
 ·exact ⟨hb, hc, ha⟩
theorem Tiles.no_diag {W H : Int} {L : List Tri3} (h : Tiles W H L) {S : Tri3} (hS : S ∈ L) {a b c d : Pt} (hc : Cyc S a b c) (h1 : 0 < det c a d) (h2 : 0 < det d b c) : (d, c) ∉ L.flatMap ways := by
 intro hm;obtain ⟨T, hT, hw⟩ := List.mem_flatMap.1 hm;obtain ⟨e, he⟩ := zCs hw;have pS := h.cyc_pos hS hc;have pT := h.cyc_pos hT he.turn;have n1 : d ≠ c := by
  rintro rfl;have : det d a d = 0 := by unfold det; grind
  omega
 have n2 : d ≠ a := by
  rintro rfl;have : det c d d = 0 := by unfold det; grind
  omega
 have n3 : d ≠ b := by
  rintro rfl;have : det d d c = 0 := by unfold det; grind
  omega
 generalize e1 : crd c a ⟨e.x - c.x, e.y - c.y⟩ = u
 generalize e2 : crd b c ⟨e.x - c.x, e.y - c.y⟩ = v
 have f1 : crd c a ⟨d.x - c.x, d.y - c.y⟩ = det c a d := by unfold crd det; grind
 have f2 : crd b c ⟨d.x - c.x, d.y - c.y⟩ = det d b c := by unfold crd det; grind
 let t : Int := 1 + u.natAbs + v.natAbs
 have g1 : t ≤ t * det c a d := by
  have := Int.mul_nonneg (a := t) (b := det c a d - 1) (by omega) (by omega);rw [Int.mul_sub] at this; omega
 have g2 : t ≤ t * det d b c := by
  have := Int.mul_nonneg (a := t) (b := det d b c - 1) (by omega) (by omega);rw [Int.mul_sub] at this; omega
 have nT := he.turn.near (zHr pT (s := 1) (t := t) (by omega) (by omega));have nS : near 1 S c ⟨1 * (e.x - c.x) + t * (d.x - c.x), 1 * (e.y - c.y) + t * (d.y - c.y)⟩ := by
  refine hc.turn.turn.near ?_;unfold near3;simp only [zJ1];refine ⟨.inr ⟨by unfold det; grind, ?_⟩, .inl pS, .inr ⟨by unfold det; grind, ?_⟩⟩
  ·rw [zGn, e1, f1]; omega
  ·rw [zGn, e2, f2]; omega
 have hST := h.same hS hT (M := 1) (by omega) nS nT;have := he.cnr;rw [← hST, hc.cnr_iff] at this;rcases this with k | k | k
 ·exact n2 k
 ·exact n3 k
 ·exact n1 k
theorem zGi {α : Type} {a b c d e f : α} : [a, b, c, d, e, f].Perm ([a, d] ++ [b, c, e, f]) := by
 refine List.Perm.cons _ ?_;exact (List.perm_append_comm (l₁ := [b, c]) (l₂ := [d])).append_right [e, f]
theorem Tiles.flip {W H : Int} {L M : List Tri3} (h : Tiles W H L) {S R U V : Tri3} (hL : L.Perm (S :: R :: M)) {a b c d : Pt} (hS : Cyc S a b c) (hR : Cyc R b a d) (h1 : 0 < det c a d) (h2 : 0 < det d b c) (hU : Cyc U c a d) (hV : Cyc V d b c) : Tiles W H (U :: V :: M) := by
 have mS : S ∈ L := hL.mem_iff.2 (by simp);have mR : R ∈ L := hL.mem_iff.2 (by simp);have x1 := h.no_diag mS hS h1 h2;have x2 := h.no_diag mR hR h2 h1;have n1 : d ≠ c := by
  rintro rfl;have : det d a d = 0 := by unfold det; grind
  omega
 refine h.change (Out := [S, R]) (In := [U, V]) (M := M) hL (rem := [(a, b), (b, a)]) (add := [(d, c), (c, d)]) (keep := [(b, c), (c, a), (a, d), (d, b)]) ?_ ?_ ?_ ?_ ?_ ?_ ?_ ?_ ?_ ?_
 ·simp only [List.flatMap_cons, List.flatMap_nil, List.append_nil];exact (hS.ways.append hR.ways).trans zGi
 ·simp only [List.flatMap_cons, List.flatMap_nil, List.append_nil];refine (hU.turn.turn.ways.append hV.turn.turn.ways).trans ?_;refine zGi.trans ?_;refine List.Perm.append_left _ ?_;exact List.perm_append_comm (l₁ := [(c, a), (a, d)]) (l₂ := [(d, b), (b, c)]) |>.trans
   ((List.Perm.swap (b, c) (d, b) [(c, a), (a, d)]).trans (List.Perm.cons _ (List.perm_append_comm (l₁ := [(d, b)]) (l₂ := [(c, a), (a, d)]))))
 ·simp [n1]
 ·intro w hw;simp only [List.mem_cons, List.not_mem_nil, or_false] at hw;rcases hw with rfl | rfl
  ·exact x1
  ·exact x2
 ·intro w hw;simp only [List.mem_cons, List.not_mem_nil, or_false] at hw;rcases hw with rfl | rfl <;> simp
 ·intro w hw;simp only [List.mem_cons, List.not_mem_nil, or_false] at hw;rcases hw with rfl | rfl <;> simp
 ·intro K hK q;simp only [cvr];have e1 := zBw (sc K c) (sc K d) q;have e2 := zBw (sc K a) (sc K b) q;omega
 ·rw [hU.area, hV.area, hS.area, hR.area];simp only [sumA];unfold det; grind
 ·intro T hT;simp only [List.mem_cons, List.not_mem_nil, or_false] at hT;rcases hT with rfl | rfl
  ·rw [← hU.det]; exact h1
  ·rw [← hV.det]; exact h2
 ·have ba := h.cyc_box mS hS;have bb := h.cyc_box mS hS.turn;have bc := h.cyc_box mS hS.turn.turn;have bd := h.cyc_box mR hR.turn.turn;intro T hT;simp only [List.mem_cons, List.not_mem_nil, or_false] at hT;rcases hT with rfl | rfl
  ·exact hU.box bc ba bd
  ·exact hV.box bd bb bc
theorem way_cnr {T : Tri3} {w : Pt × Pt} (h : w ∈ ways T) : isCnr T w.1 ∧ isCnr T w.2 := by
 obtain ⟨a, b⟩ := w;obtain ⟨c, hc⟩ := zCs h;exact ⟨hc.cnr, hc.turn.cnr⟩
theorem zGh {L : List Tri3} {p : Pt} (hn : ∀ T ∈ L, ¬ isCnr T p) {w : Pt × Pt} (hw : w.1 = p ∨ w.2 = p) : w ∉ L.flatMap ways := by
 intro hm;obtain ⟨T, hT, hk⟩ := List.mem_flatMap.1 hm;have := way_cnr hk;rcases hw with e | e <;> rw [e] at this
 ·exact hn T hT this.1
 ·exact hn T hT this.2
theorem zAm {a b c : Pt} (h : 0 < det a b c) : a ≠ b ∧ b ≠ c ∧ c ≠ a :=
 ⟨zEc h, zEc (c := a) (by rw [zAl]; exact h), zEc (c := b) (by rw [zAl, zAl]; exact h)⟩
theorem ins_cyc {T : Tri3} {a b c p : Pt} (hc : Cyc T a b c) (h : insT T p) : 0 < det a b p ∧ 0 < det b c p ∧ 0 < det c a p := by
 unfold insT at h;rcases hc with ⟨rfl, rfl, rfl⟩ | ⟨rfl, rfl, rfl⟩ | ⟨rfl, rfl, rfl⟩
 ·exact h
 ·exact ⟨h.2.1, h.2.2, h.1⟩
 ·exact ⟨h.2.2, h.1, h.2.1⟩
section
variable {W H : Int} {L M : List Tri3} (h : Tiles W H L) {p : Pt} (hn : ∀ T ∈ L, ¬ isCnr T p) (hb : inBox W H p)
include h hn hb
theorem Tiles.cut3 {T P Q R : Tri3} (hL : L.Perm (T :: M)) {a b c : Pt} (hT : Cyc T a b c) (hi : insT T p) (hP : Cyc P a b p) (hQ : Cyc Q b c p) (hR : Cyc R c a p) : Tiles W H (P :: Q :: R :: M) := by
 have mT : T ∈ L := hL.mem_iff.2 (by simp);have pT := h.cyc_pos mT hT;obtain ⟨i1, i2, i3⟩ := ins_cyc hT hi;obtain ⟨n1, n2, n3⟩ := zAm pT;have np := hn T mT;rw [hT.cnr_iff] at np;simp only [not_or] at np;obtain ⟨q1, q2, q3⟩ := np;refine h.change (Out := [T]) (In := [P, Q, R]) (M := M) hL (rem := []) (add := [(b, p), (p, b), (c, p), (p, c), (a, p), (p, a)]) (keep := [(a, b), (b, c), (c, a)]) ?_ ?_ ?_ ?_ ?_ ?_ ?_ ?_ ?_ ?_
 ·simp only [List.flatMap_cons, List.flatMap_nil, List.append_nil, List.nil_append];exact hT.ways
 ·simp only [List.flatMap_cons, List.flatMap_nil, List.append_nil];refine (hP.ways.append (hQ.ways.append hR.ways)).trans ?_;refine (List.perm_iff_count.2 fun w => ?_);simp only [List.cons_append, List.nil_append, List.count_cons, List.count_nil];omega
 ·simp [q1, q2, q3, n2, n3, Ne.symm q1, Ne.symm q2, Ne.symm q3, Ne.symm n1]
 ·intro w hw;simp only [List.mem_cons, List.not_mem_nil, or_false] at hw;refine zGh hn ?_;rcases hw with rfl | rfl | rfl | rfl | rfl | rfl <;> simp
 ·intro w hw;simp only [List.mem_cons, List.not_mem_nil, or_false] at hw;rcases hw with rfl | rfl | rfl | rfl | rfl | rfl <;> simp
 ·intro w hw; simp at hw
 ·intro K hK q;simp only [cvr];have e1 := zBw (sc K a) (sc K p) q;have e2 := zBw (sc K b) (sc K p) q;have e3 := zBw (sc K c) (sc K p) q;omega
 ·rw [hP.area, hQ.area, hR.area, hT.area];simp only [sumA];have := zC5 a b c p;omega
 ·intro X hX;simp only [List.mem_cons, List.not_mem_nil, or_false] at hX;rcases hX with rfl | rfl | rfl
  ·rw [← hP.det]; exact i1
  ·rw [← hQ.det]; exact i2
  ·rw [← hR.det]; exact i3
 ·have ba := h.cyc_box mT hT;have bb := h.cyc_box mT hT.turn;have bc := h.cyc_box mT hT.turn.turn;intro X hX;simp only [List.mem_cons, List.not_mem_nil, or_false] at hX;rcases hX with rfl | rfl | rfl
  ·exact hP.box ba bb hb
  ·exact hQ.box bb bc hb
  ·exact hR.box bc ba hb
omit h hn hb in
theorem zFp {a b c p : Pt} (hp : 0 < det a b c) (he : edg a b c p) : ((a.y ≤ p.y ∧ p.y ≤ b.y) ∨ (b.y ≤ p.y ∧ p.y ≤ a.y)) ∧ ((a.x ≤ p.x ∧ p.x ≤ b.x) ∨ (b.x ≤ p.x ∧ p.x ≤ a.x)) := by
 obtain ⟨h1, h2, h3⟩ := he;have s := zC5 a b c p;have e1 : det a b c * (p.y - a.y) = det c a p * (b.y - a.y) + det a b p * (c.y - a.y) := by unfold det; grind
 have e2 : det a b c * (b.y - p.y) = det b c p * (b.y - a.y) - det a b p * (c.y - b.y) := by unfold det; grind
 have e3 : det a b c * (p.x - a.x) = det c a p * (b.x - a.x) + det a b p * (c.x - a.x) := by unfold det; grind
 have e4 : det a b c * (b.x - p.x) = det b c p * (b.x - a.x) - det a b p * (c.x - b.x) := by unfold det; grind
 rw [h1, Int.zero_mul] at e1 e2 e3 e4;have key : ∀ u v x : Int, det a b c * u = det c a p * x + 0 → det a b c * v = det b c p * x - 0 → (0 ≤ u ∧ 0 ≤ v) ∨ (u ≤ 0 ∧ v ≤ 0) := by
  intro u v x k1 k2;rcases Int.le_total 0 x with hx | hx
  ·have := Int.mul_nonneg (a := det c a p) (b := x) (by omega) hx;have := Int.mul_nonneg (a := det b c p) (b := x) (by omega) hx;exact .inl ⟨(zBe hp).1 (by omega), (zBe hp).1 (by omega)⟩
  ·have := Int.mul_nonpos_of_nonneg_of_nonpos (a := det c a p) (b := x) (by omega) hx;have := Int.mul_nonpos_of_nonneg_of_nonpos (a := det b c p) (b := x) (by omega) hx;have a1 := (zBe (b := -u) hp).1 (by rw [Int.mul_neg]; omega);have a2 := (zBe (b := -v) hp).1 (by rw [Int.mul_neg]; omega);exact .inr ⟨by omega, by omega⟩
 have k1 := key _ _ _ e1 e2;have k2 := key _ _ _ e3 e4;omega
omit h hn hb in
theorem sc_add {a b p : Pt} (h : det a b p = 0) (hb : (a.y ≤ p.y ∧ p.y ≤ b.y) ∨ (b.y ≤ p.y ∧ p.y ≤ a.y)) {K : Int} (hK : 0 < K) (q : Pt) : crs (sc K a) (sc K b) q = crs (sc K a) (sc K p) q + crs (sc K p) (sc K b) q := by
 refine crs_add (by rw [sc_det, h]; simp) ?_ q;have m : ∀ x y : Int, x ≤ y → K * x ≤ K * y := fun x y h => Int.mul_le_mul_of_nonneg_left h (by omega);rcases hb with ⟨h1, h2⟩ | ⟨h1, h2⟩
 ·exact .inl ⟨m _ _ h1, m _ _ h2⟩
 ·exact .inr ⟨m _ _ h1, m _ _ h2⟩
theorem Tiles.cut2r {T Q R : Tri3} (hL : L.Perm (T :: M)) {a b c : Pt} (hT : Cyc T a b c) (hi : edg a b c p) (hr : onRim W H a b) (hQ : Cyc Q b c p) (hR : Cyc R c a p) : Tiles W H (Q :: R :: M) := by
 have mT : T ∈ L := hL.mem_iff.2 (by simp);have pT := h.cyc_pos mT hT;have bw := zFp pT hi;obtain ⟨i1, i2, i3⟩ := hi;obtain ⟨n1, n2, n3⟩ := zAm pT;have np := hn T mT;rw [hT.cnr_iff] at np;simp only [not_or] at np;obtain ⟨q1, q2, q3⟩ := np;refine h.change (Out := [T]) (In := [Q, R]) (M := M) hL (rem := [(a, b)]) (add := [(c, p), (p, c), (p, b), (a, p)]) (keep := [(b, c), (c, a)]) ?_ ?_ ?_ ?_ ?_ ?_ ?_ ?_ ?_ ?_
 ·simp only [List.flatMap_cons, List.flatMap_nil, List.append_nil];exact hT.ways
 ·simp only [List.flatMap_cons, List.flatMap_nil, List.append_nil];refine (hQ.ways.append hR.ways).trans ?_;refine (List.perm_iff_count.2 fun w => ?_);simp only [List.cons_append, List.nil_append, List.count_cons, List.count_nil];omega
 ·simp [q1, q2, q3, n3, Ne.symm q2, Ne.symm q3, Ne.symm n2]
 ·intro w hw;simp only [List.mem_cons, List.not_mem_nil, or_false] at hw;refine zGh hn ?_;rcases hw with rfl | rfl | rfl | rfl <;> simp
 ·intro w hw;simp only [List.mem_cons, List.not_mem_nil, or_false] at hw;rcases hw with rfl | rfl | rfl | rfl
  ·simp
  ·simp
  ·right; unfold onRim at *; unfold inBox at hb; simp only; omega
  ·right; unfold onRim at *; unfold inBox at hb; simp only; omega
 ·intro w hw;simp only [List.mem_cons, List.not_mem_nil, or_false] at hw;rw [hw]; exact .inr hr
 ·intro K hK q;simp only [cvr];have e1 := zBw (sc K c) (sc K p) q;have e2 := sc_add i1 bw.1 hK q;omega
 ·rw [hQ.area, hR.area, hT.area];simp only [sumA];have := zC5 a b c p;omega
 ·intro X hX;simp only [List.mem_cons, List.not_mem_nil, or_false] at hX;rcases hX with rfl | rfl
  ·rw [← hQ.det]; exact i2
  ·rw [← hR.det]; exact i3
 ·have ba := h.cyc_box mT hT;have bb := h.cyc_box mT hT.turn;have bc := h.cyc_box mT hT.turn.turn;intro X hX;simp only [List.mem_cons, List.not_mem_nil, or_false] at hX;rcases hX with rfl | rfl
  ·exact hQ.box bb bc hb
  ·exact hR.box bc ba hb
theorem Tiles.cut4 {T S Q R X Y : Tri3} (hL : L.Perm (T :: S :: M)) {a b c d : Pt} (hT : Cyc T a b c) (hS : Cyc S b a d) (hi : edg a b c p) (hQ : Cyc Q b c p) (hR : Cyc R c a p) (hX : Cyc X a d p) (hY : Cyc Y d b p) : Tiles W H (Q :: R :: X :: Y :: M) := by
 have mT : T ∈ L := hL.mem_iff.2 (by simp);have mS : S ∈ L := hL.mem_iff.2 (by simp);have pT := h.cyc_pos mT hT;have pS := h.cyc_pos mS hS;have ho := zD6 pT pS hi;have bw := zFp pT hi;obtain ⟨i1, i2, i3⟩ := hi;obtain ⟨o1, o2, o3⟩ := ho;obtain ⟨n1, n2, n3⟩ := zAm pT;obtain ⟨m1, m2, m3⟩ := zAm pS;have np := hn T mT;have np' := hn S mS;rw [hT.cnr_iff] at np;rw [hS.cnr_iff] at np';simp only [not_or] at np np';obtain ⟨q1, q2, q3⟩ := np;obtain ⟨_, _, q4⟩ := np';have cd : c ≠ d := by
  rintro rfl;rw [zC8] at pS; omega
 refine h.change (Out := [T, S]) (In := [Q, R, X, Y]) (M := M) hL (rem := [(a, b), (b, a)]) (add := [(c, p), (p, c), (d, p), (p, d), (p, b), (b, p), (a, p), (p, a)]) (keep := [(b, c), (c, a), (a, d), (d, b)]) ?_ ?_ ?_ ?_ ?_ ?_ ?_ ?_ ?_ ?_
 ·simp only [List.flatMap_cons, List.flatMap_nil, List.append_nil];exact (hT.ways.append hS.ways).trans zGi
 ·simp only [List.flatMap_cons, List.flatMap_nil, List.append_nil];refine (hQ.ways.append (hR.ways.append (hX.ways.append hY.ways))).trans ?_;refine (List.perm_iff_count.2 fun w => ?_);simp only [List.cons_append, List.nil_append, List.count_cons, List.count_nil];omega
 ·simp [q1, q2, q3, q4, n3, m1, m3, cd, Ne.symm q1, Ne.symm q2, Ne.symm q3, Ne.symm q4, Ne.symm n2, Ne.symm m2]
 ·intro w hw;simp only [List.mem_cons, List.not_mem_nil, or_false] at hw;refine zGh hn ?_;rcases hw with rfl | rfl | rfl | rfl | rfl | rfl | rfl | rfl <;> simp
 ·intro w hw;simp only [List.mem_cons, List.not_mem_nil, or_false] at hw;rcases hw with rfl | rfl | rfl | rfl | rfl | rfl | rfl | rfl <;> simp
 ·intro w hw;simp only [List.mem_cons, List.not_mem_nil, or_false] at hw;rcases hw with rfl | rfl <;> simp
 ·intro K hK q;simp only [cvr];have e1 := zBw (sc K c) (sc K p) q;have e2 := zBw (sc K d) (sc K p) q;have e3 := zBw (sc K b) (sc K p) q;have e4 := zBw (sc K a) (sc K p) q;have e5 := zBw (sc K a) (sc K b) q;omega
 ·rw [hQ.area, hR.area, hX.area, hY.area, hT.area, hS.area];simp only [sumA];have := zC5 a b c p;have := zC5 b a d p;omega
 ·intro Z hZ;simp only [List.mem_cons, List.not_mem_nil, or_false] at hZ;rcases hZ with rfl | rfl | rfl | rfl
  ·rw [← hQ.det]; exact i2
  ·rw [← hR.det]; exact i3
  ·rw [← hX.det]; exact o2
  ·rw [← hY.det]; exact o3
 ·have ba := h.cyc_box mT hT;have bb := h.cyc_box mT hT.turn;have bc := h.cyc_box mT hT.turn.turn;have bd := h.cyc_box mS hS.turn.turn;intro Z hZ;simp only [List.mem_cons, List.not_mem_nil, or_false] at hZ;rcases hZ with rfl | rfl | rfl | rfl
  ·exact hQ.box bb bc hb
  ·exact hR.box bc ba hb
  ·exact hX.box ba bd hb
  ·exact hY.box bd bb hb
end
theorem tiles_square {W H : Int} (hW : 0 < W) (hH : 0 < H) {X Y : Tri3} (hX : Cyc X ⟨0, 0⟩ ⟨W, 0⟩ ⟨W, H⟩) (hY : Cyc Y ⟨0, 0⟩ ⟨W, H⟩ ⟨0, H⟩) : Tiles W H [X, Y] := by
 have wp : ([X, Y].flatMap ways).Perm [(⟨0, 0⟩, ⟨W, 0⟩), (⟨W, 0⟩, ⟨W, H⟩), (⟨W, H⟩, ⟨0, 0⟩), (⟨0, 0⟩, ⟨W, H⟩), (⟨W, H⟩, ⟨0, H⟩), (⟨0, H⟩, ⟨0, 0⟩)] := by
  simp only [List.flatMap_cons, List.flatMap_nil, List.append_nil];exact hX.ways.append hY.ways
 have pWH := Int.mul_pos hW hH;have dX : det ⟨0, 0⟩ ⟨W, 0⟩ ⟨W, H⟩ = W * H := by unfold det; grind
 have dY : det ⟨0, 0⟩ ⟨W, H⟩ ⟨0, H⟩ = W * H := by unfold det; grind
 refine ⟨?_, ?_, ?_, ?_, ?_, ?_⟩
 ·intro T hT;simp only [List.mem_cons, List.not_mem_nil, or_false] at hT;rcases hT with rfl | rfl
  ·rw [← hX.det, dX]; exact pWH
  ·rw [← hY.det, dY]; exact pWH
 ·rw [wp.nodup_iff];have w0 : W ≠ 0 := by omega
  have h0 : H ≠ 0 := by omega
  simp [w0, h0, Ne.symm w0, Ne.symm h0]
 ·have b1 : inBox W H ⟨0, 0⟩ := by unfold inBox; simp only; omega
  have b2 : inBox W H ⟨W, 0⟩ := by unfold inBox; simp only; omega
  have b3 : inBox W H ⟨W, H⟩ := by unfold inBox; simp only; omega
  have b4 : inBox W H ⟨0, H⟩ := by unfold inBox; simp only; omega
  intro T hT;simp only [List.mem_cons, List.not_mem_nil, or_false] at hT;rcases hT with rfl | rfl
  ·exact hX.box b1 b2 b3
  ·exact hY.box b1 b3 b4
 ·intro w hw;rw [wp.mem_iff] at hw ⊢;simp only [List.mem_cons, List.not_mem_nil, or_false] at hw;unfold onRim;rcases hw with rfl | rfl | rfl | rfl | rfl | rfl <;> simp
 ·intro K hK q;rw [zGl wp];simp only [cvr];have e1 := zBw (sc K ⟨W, H⟩) (sc K ⟨0, 0⟩) q;have kW := Int.mul_pos hK hW;have kH := Int.mul_pos hK hH;have z1 : crs (sc K ⟨0, 0⟩) (sc K ⟨W, 0⟩) q = 0 := by unfold crs sc; simp only; (repeat' split) <;> omega
  have z2 : crs (sc K ⟨W, H⟩) (sc K ⟨0, H⟩) q = 0 := by unfold crs sc; simp only; (repeat' split) <;> omega
  have d1 : det (sc K ⟨W, 0⟩) (sc K ⟨W, H⟩) q = (K * H) * (K * W - q.x) := by unfold det sc; grind
  have d2 : det (sc K ⟨0, H⟩) (sc K ⟨0, 0⟩) q = (K * H) * q.x := by unfold det sc; grind
  have s1 := zB6 (b := K * W - q.x) kH;have s2 := zCl (b := q.x) kH;have v1 : crs (sc K ⟨W, 0⟩) (sc K ⟨W, H⟩) q = if (0 ≤ q.y ∧ q.y < K * H) ∧ q.x < K * W then 1 else 0 := by
   unfold crs; rw [d1];generalize K * H * (K * W - q.x) = D at *
   unfold sc; simp only [Int.mul_zero]
   (repeat' split) <;> omega
  have v2 : crs (sc K ⟨0, H⟩) (sc K ⟨0, 0⟩) q = if (0 ≤ q.y ∧ q.y < K * H) ∧ q.x < 0 then -1 else 0 := by
   unfold crs; rw [d2];generalize K * H * q.x = D at *
   unfold sc; simp only [Int.mul_zero]
   (repeat' split) <;> omega
  rw [z1, z2, v1, v2];unfold sqr
  (repeat' split) <;> omega
 ·rw [hX.area, hY.area, dX, dY]; simp only [sumA]; omega
def PH (h : Pt → Int) (a b c d : Pt) : Int := det d b c * h a + det a d c * h b + det a b d * h c - det a b c * h d
theorem PH_lft (a b c d : Pt) : PH (fun p => p.x * p.x + p.y * p.y) a b c d = lft a b c d := by unfold PH lft ht cr way det; grind
theorem wgt_ex : ∃ (w : Pt → Int) (M : Int), (∀ p, vld p = true → 0 < w p ∧ w p ≤ M) ∧ ∀ p q, vld p = true → vld q = true → key p < key q → 2251799545249801 * w q ≤ w p := by
 have gen : ∀ (B : Nat) (C N : Int), (B : Int) = C → 0 < B → (∀ p, vld p = true → 0 ≤ key p ∧ key p ≤ N) → ∃ (w : Pt → Int) (M : Int), (∀ p, vld p = true → 0 < w p ∧ w p ≤ M) ∧ ∀ p q, vld p = true → vld q = true → key p < key q → C * w q ≤ w p := by
  intro B C N hC hB hN;refine ⟨fun p => ((B ^ (N - key p).toNat : Nat) : Int), ((B ^ N.toNat : Nat) : Int), fun p hp => ?_, fun p q hp hq hk => ?_⟩
  ·have h1 : 0 < B ^ (N - key p).toNat := Nat.pow_pos hB;have h2 : B ^ (N - key p).toNat ≤ B ^ N.toNat := Nat.pow_le_pow_right hB (by have := hN p hp; omega);refine ⟨?_, ?_⟩
   ·show (0 : Int) < ((B ^ (N - key p).toNat : Nat) : Int); omega
   ·show ((B ^ (N - key p).toNat : Nat) : Int) ≤ ((B ^ N.toNat : Nat) : Int); omega
  ·have := hN q hq;have := hN p hp;have e : (N - key p).toNat = ((N - key q).toNat + 1) + ((N - key p).toNat - ((N - key q).toNat + 1)) := by omega
   have h1 : B ^ ((N - key q).toNat + 1) ≤ B ^ (N - key p).toNat := Nat.pow_le_pow_right hB (by omega);rw [Nat.pow_succ, Nat.mul_comm] at h1;show C * ((B ^ (N - key q).toNat : Nat) : Int) ≤ ((B ^ (N - key p).toNat : Nat) : Int);rw [← hC]
   exact_mod_cast h1
 exact gen 2251799545249801 2251799545249801 281474976710656 (by omega) (by omega) (fun p hp => by rw [zAv] at hp; unfold key; omega)
theorem zE9 {u w D : Int} (h1 : -D ≤ u) (h2 : u ≤ D) (hw : 0 ≤ w) : -(D * w) ≤ u * w ∧ u * w ≤ D * w := by
 have e1 := Int.mul_le_mul_of_nonneg_right h2 hw;have e2 := Int.mul_le_mul_of_nonneg_right h1 hw;rw [Int.neg_mul] at e2;exact ⟨e2, e1⟩
structure Hts (h : Pt → Int) : Prop where
 nn : ∀ p, vld p = true → 0 ≤ h p
 sign : ∀ a b c d, vld a = true → vld b = true → vld c = true → vld d = true → 0 < det a b c → d ≠ a → d ≠ b → d ≠ c → (circ a b c d = 1 ∧ 0 < PH h a b c d ∧ 0 ≤ lft a b c d) ∨ (circ a b c d = -1 ∧ PH h a b c d < 0)
theorem tie_main {w : Pt → Int} (hp : ∀ p, vld p = true → 0 < w p) (hw : ∀ p q, vld p = true → vld q = true → key p < key q → 2251799545249801 * w q ≤ w p)
    {a b c d : Pt} (ha : vld a = true) (hb : vld b = true) (hc : vld c = true) (hd : vld d = true) (hD : 0 < det a b c) (e1 : d ≠ a) (e2 : d ≠ b) (e3 : d ≠ c) (hl : lft a b c d = 0) :
    (circ a b c d = 1 ∧ PH w a b c d < 0) ∨ (circ a b c d = -1 ∧ 0 < PH w a b c d) := by
 obtain ⟨n1, n2, n3⟩ := zAm hD;have h0 : ¬ ori a b c = 0 := by rw [ori_v ha hb hc, zBu]; omega
 rw [zBp h0 hd e1 e2 e3, if_neg (by rw [hl]; simp [sgn])];have hk := zCy ha hb hc hd;have k1 : ∀ p q : Pt, vld p = true → vld q = true → p ≠ q → key p ≠ key q := fun p q hp hq hn h => hn (zBx hp hq h);have b0 := zHc ha hb hc;have b1 := zHc hd hb hc;have b2 := zHc ha hd hc;have b3 := zHc ha hb hd;have t1 : det d b c ≠ 0 := zDz hl (by omega) e2 e3;have t2 : det a d c ≠ 0 := by
  have := zDz (a := b) (b := c) (c := a) (d := d) (by rw [zEt]; exact hl) (by rw [zAl]; omega) e3 e1
  rwa [← zAl a d c]
 have t3 : det a b d ≠ 0 := by
  have := zDz (a := c) (b := a) (c := b) (d := d) (by rw [zEt b c a, zEt]; exact hl) (by rw [zAl b c a, zAl]; omega) e1 e2
  rwa [← zAl a b d, ← zAl b d a]
 have pa := hp a ha;have pb := hp b hb;have pc := hp c hc;have pd := hp d hd;have q1 := zE9 b1.1 b1.2 (Int.le_of_lt pa);have q2 := zE9 b2.1 b2.2 (Int.le_of_lt pb);have q3 := zE9 b3.1 b3.2 (Int.le_of_lt pc);have q4 := zE9 b0.1 b0.2 (Int.le_of_lt pd);have one : ∀ (u x : Int), u ≠ 0 → 0 < x → (0 < u ∧ x ≤ u * x) ∨ (u < 0 ∧ u * x ≤ -x) := by
  intro u x hu hx;rcases Int.lt_or_gt_of_ne hu with k | k
  ·right
   have := Int.mul_nonneg (a := -1 - u) (b := x) (by omega) (by omega);rw [Int.sub_mul] at this;exact ⟨k, by omega⟩
  ·left
   have := Int.mul_nonneg (a := u - 1) (b := x) (by omega) (by omega);rw [Int.sub_mul] at this;exact ⟨k, by omega⟩
 unfold PH tie;rcases zJn a b c d with m | m | m | m
 ·rw [m] at hk;have x1 := hw a b ha hb (by have := k1 a b ha hb n1; omega);have x2 := hw a c ha hc (by have := k1 a c ha hc n3.symm; omega);have x3 := hw a d ha hd (by have := k1 a d ha hd e1.symm; omega);rw [m, if_neg (np e1.symm), if_pos (pp rfl), ori_v hd hb hc];have s := zAj (det d b c);have o := one _ _ t1 pa;generalize det d b c * w a = z1 at *
  generalize det a d c * w b = z2 at *
  generalize det a b d * w c = z3 at *
  generalize det a b c * w d = z4 at *
  omega
 ·rw [m] at hk;have x1 := hw b a hb ha (by have := k1 b a hb ha n1.symm; omega);have x2 := hw b c hb hc (by have := k1 b c hb hc n2; omega);have x3 := hw b d hb hd (by have := k1 b d hb hd e2.symm; omega);rw [m, if_neg (np e2.symm), if_neg (np n1.symm), if_pos (pp rfl), ori_v ha hd hc];have s := zAj (det a d c);have o := one _ _ t2 pb;generalize det d b c * w a = z1 at *
  generalize det a d c * w b = z2 at *
  generalize det a b d * w c = z3 at *
  generalize det a b c * w d = z4 at *
  omega
 ·rw [m] at hk;have x1 := hw c a hc ha (by have := k1 c a hc ha n3; omega);have x2 := hw c b hc hb (by have := k1 c b hc hb n2.symm; omega);have x3 := hw c d hc hd (by have := k1 c d hc hd e3.symm; omega);rw [m, if_neg (np e3.symm), if_neg (np n3), if_neg (np n2.symm), ori_v ha hb hd];have s := zAj (det a b d);have o := one _ _ t3 pc;generalize det d b c * w a = z1 at *
  generalize det a d c * w b = z2 at *
  generalize det a b d * w c = z3 at *
  generalize det a b c * w d = z4 at *
  omega
 ·rw [m] at hk;have x1 := hw d a hd ha (by have := k1 d a hd ha e1; omega);have x2 := hw d b hd hb (by have := k1 d b hd hb e2; omega);have x3 := hw d c hd hc (by have := k1 d c hd hc e3; omega);rw [m, if_pos (pp rfl), ori_v ha hb hc];have s := zAj (det a b c);have o := one _ _ (show det a b c ≠ 0 by omega) pd;generalize det d b c * w a = z1 at *
  generalize det a d c * w b = z2 at *
  generalize det a b d * w c = z3 at *
  generalize det a b c * w d = z4 at *
  omega
theorem hts_ex : ∃ h, Hts h := by
 obtain ⟨w, M, hM, hw⟩ := wgt_ex;have hM0 : 0 < M := by have := hM ⟨0, 0⟩ (by decide); omega
 refine ⟨fun p => (4 * 562949886312450 * M + 1) * (p.x * p.x + p.y * p.y) - w p + M, fun p hp => ?_, fun a b c d ha hb hc hd hD e1 e2 e3 => ?_⟩
 ·have := hM p hp;have := Int.mul_nonneg (a := 4 * 562949886312450 * M + 1) (b := p.x * p.x + p.y * p.y) (by omega) (by have := sq_nn p.x; have := sq_nn p.y; omega);show 0 ≤ (4 * 562949886312450 * M + 1) * (p.x * p.x + p.y * p.y) - w p + M;omega
 ·have e : PH (fun p => (4 * 562949886312450 * M + 1) * (p.x * p.x + p.y * p.y) - w p + M) a b c d = (4 * 562949886312450 * M + 1) * lft a b c d - PH w a b c d := by
    have z : det d b c + det a d c + det a b d = det a b c := by unfold det; grind
    rw [← PH_lft]; unfold PH; grind
  rw [e];have h0 : ¬ ori a b c = 0 := by rw [ori_v ha hb hc, zBu]; omega
  have pa := hM a ha;have pb := hM b hb;have pc := hM c hc;have pd := hM d hd;by_cases hl : lft a b c d = 0
  ·have t := tie_main (fun p hp => (hM p hp).1) hw ha hb hc hd hD e1 e2 e3 hl;rw [hl, Int.mul_zero];omega
  ·have b0 := zHc ha hb hc;have b1 := zHc hd hb hc;have b2 := zHc ha hd hc;have b3 := zHc ha hb hd;have q1 := zE9 b1.1 b1.2 (Int.le_of_lt pa.1);have q2 := zE9 b2.1 b2.2 (Int.le_of_lt pb.1);have q3 := zE9 b3.1 b3.2 (Int.le_of_lt pc.1);have q4 := zE9 b0.1 b0.2 (Int.le_of_lt pd.1);rw [zBp h0 hd e1 e2 e3];have s := zAj (lft a b c d);rw [if_pos (by rw [zBu]; exact hl)];have key : (4 * 562949886312450 * M + 1) * lft a b c d ≤ -(4 * 562949886312450 * M + 1) ∨ (4 * 562949886312450 * M + 1) ≤ (4 * 562949886312450 * M + 1) * lft a b c d := by
    rcases Int.lt_or_gt_of_ne hl with k | k
    ·left
     have := Int.mul_nonneg (a := 4 * 562949886312450 * M + 1) (b := -1 - lft a b c d) (by omega) (by omega);rw [Int.mul_sub] at this; omega
    ·right
     have := Int.mul_nonneg (a := 4 * 562949886312450 * M + 1) (b := lft a b c d - 1) (by omega) (by omega);rw [Int.mul_sub] at this; omega
   have sg : 0 < lft a b c d → (4 * 562949886312450 * M + 1) * lft a b c d > 0 := fun k => Int.mul_pos (by omega) k;have sg' : lft a b c d < 0 → (4 * 562949886312450 * M + 1) * lft a b c d < 0 := fun k => Int.mul_neg_of_pos_of_neg (by omega) k;unfold PH;generalize (4 * 562949886312450 * M + 1) * lft a b c d = Q at *
   generalize det d b c * w a = z1 at *
   generalize det a d c * w b = z2 at *
   generalize det a b d * w c = z3 at *
   generalize det a b c * w d = z4 at *
   omega
theorem lft_edge (a b c d : Pt) : lft a b c d = det c a d * ((b.x - a.x) * (b.x - a.x) + (b.y - a.y) * (b.y - a.y)) - det b a d * ((c.x - a.x) * (c.x - a.x) + (c.y - a.y) * (c.y - a.y)) - det a b c * ((d.x - a.x) * (d.x - a.x) + (d.y - a.y) * (d.y - a.y)) := by unfold lft ht cr way det; grind
theorem lft_edge2 (a b c d : Pt) : lft a b c d = det d b c * ((b.x - a.x) * (b.x - a.x) + (b.y - a.y) * (b.y - a.y)) - det b a d * ((c.x - b.x) * (c.x - b.x) + (c.y - b.y) * (c.y - b.y)) - det a b c * ((d.x - b.x) * (d.x - b.x) + (d.y - b.y) * (d.y - b.y)) := by unfold lft ht cr way det; grind
theorem sq_ne {p q : Pt} (h : p ≠ q) : 0 < (q.x - p.x) * (q.x - p.x) + (q.y - p.y) * (q.y - p.y) := by
 have s1 := sq_nn (q.x - p.x);have s2 := sq_nn (q.y - p.y);refine Decidable.byContradiction fun k => h ?_;have u1 := Int.mul_eq_zero.1 (show (q.x - p.x) * (q.x - p.x) = 0 by omega);have u2 := Int.mul_eq_zero.1 (show (q.y - p.y) * (q.y - p.y) = 0 by omega);rw [Pt.eq_iff]; omega
theorem convex {a b c d : Pt} (h1 : 0 < det a b c) (h2 : 0 < det b a d) (hl : 0 ≤ lft a b c d) : 0 < det c a d ∧ 0 < det d b c := by
 obtain ⟨n1, n2, n3⟩ := zAm h1;obtain ⟨m1, m2, m3⟩ := zAm h2;have key : ∀ g x y z : Int, 0 < x → 0 < y → 0 < z → 0 ≤ g * x - det b a d * y - det a b c * z → 0 < g := by
  intro g x y z hx hy hz k;refine Decidable.byContradiction fun hg => ?_;have i1 := Int.mul_nonneg (a := -g) (b := x) (by omega) (by omega);have i2 := Int.mul_pos h2 hy;have i3 := Int.mul_pos h1 hz;rw [Int.neg_mul] at i1;omega
 refine ⟨key _ _ _ _ (sq_ne n1) (sq_ne n3.symm) (sq_ne m2) (by rw [← lft_edge]; exact hl), key _ _ _ _ (sq_ne n1) (sq_ne n2) (sq_ne m3.symm) (by rw [← lft_edge2]; exact hl)⟩
def vol (h : Pt → Int) (T : Tri3) : Int := det T.A T.B T.C * (h T.A + h T.B + h T.C)
def volS (h : Pt → Int) : List Tri3 → Int
 | [] => 0
 | T :: L => vol h T + volS h L
theorem volS_perm {h : Pt → Int} {l m : List Tri3} (p : l.Perm m) : volS h l = volS h m := by
 induction p with
 | nil => rfl
 | cons x _ ih => simp only [volS, ih]
 | swap x y l => simp only [volS]; omega
 | trans _ _ h1 h2 => exact h1.trans h2
theorem Cyc.vol {T : Tri3} {a b c : Pt} (h : Cyc T a b c) (f : Pt → Int) : Go.Proofs.YtmobnmjjmafibaaGreat.vol f T = Go.Proofs.YtmobnmjjmafibaaGreat.det a b c * (f a + f b + f c) := by
 rw [h.det]; unfold Go.Proofs.YtmobnmjjmafibaaGreat.vol;rcases h with ⟨rfl, rfl, rfl⟩ | ⟨rfl, rfl, rfl⟩ | ⟨rfl, rfl, rfl⟩
 ·rfl
 ·congr 1; omega
 ·congr 1; omega
theorem vol_flip (h : Pt → Int) {S R U V : Tri3} (M : List Tri3) {a b c d : Pt} (hS : Cyc S a b c) (hR : Cyc R b a d) (hU : Cyc U c a d) (hV : Cyc V d b c) : volS h (S :: R :: M) = volS h (U :: V :: M) + PH h a b c d := by
 simp only [volS];rw [hS.vol, hR.vol, hU.vol, hV.vol];unfold PH det; grind
theorem zKh {h : Pt → Int} (hh : Hts h) : ∀ {L : List Tri3}, (∀ T ∈ L, 0 < det T.A T.B T.C ∧ vld T.A = true ∧ vld T.B = true ∧ vld T.C = true) → 0 ≤ volS h L
 | [], _ => Int.le_refl 0
 | T :: L, k => by
  have k1 := k T (by simp);have k2 := zKh hh (L := L) (fun S hS => k S (by simp [hS]));have a1 := hh.nn _ k1.2.1;have a2 := hh.nn _ k1.2.2.1;have a3 := hh.nn _ k1.2.2.2;have := Int.mul_nonneg (a := det T.A T.B T.C) (b := h T.A + h T.B + h T.C) (by omega) (by omega);unfold volS vol;omega
theorem zIc {α : Type} (n m : α → Int) : ∀ (L : List α), L ≠ [] → (∀ x ∈ L, 0 < m x) → ∃ x ∈ L, ∀ y ∈ L, n y * m x ≤ n x * m y
 | [], h, _ => absurd rfl h
 | [x], _, _ => ⟨x, by simp, fun y hy => by simp at hy; subst hy; exact Int.le_refl _⟩
 | x :: y :: L, _, hm => by
  obtain ⟨z, hz, k⟩ := zIc n m (y :: L) (by simp) (fun u hu => hm u (by simp [hu]));have pz := hm z (by simp [hz]);have px := hm x (by simp);by_cases g : n x * m z ≤ n z * m x
  ·refine ⟨z, by simp [hz], fun u hu => ?_⟩;rcases List.mem_cons.1 hu with rfl | hu
   ·exact g
   ·exact k u hu
  ·refine ⟨x, by simp, fun u hu => ?_⟩;rcases List.mem_cons.1 hu with rfl | hu
   ·exact Int.le_refl _
   ·have pu := hm u (by simp [hu]);have k1 := k u hu
    -- n u / m u ≤ n z / m z < n x / m x
    have a1 : n u * m z * m x ≤ n z * m u * m x := Int.mul_le_mul_of_nonneg_right k1 (by omega);have a2 : n z * m x * m u ≤ n x * m z * m u := Int.mul_le_mul_of_nonneg_right (by omega) (by omega);have a3 : m z * (n u * m x) ≤ m z * (n x * m u) := by
     have e1 : m z * (n u * m x) = n u * m z * m x := by grind
     have e2 : m z * (n x * m u) = n x * m z * m u := by grind
     have e3 : n z * m u * m x = n z * m x * m u := by grind
     omega
    exact Int.le_of_mul_le_mul_left a3 pz
structure Fixed (W H : Int) (wl : Pt → Pt → Prop) (L : List Tri3) : Prop where
 tiles : Tiles W H L
 good : ∀ S ∈ L, ∀ R ∈ L, ∀ a b c d, Cyc S a b c → Cyc R b a d → ¬ wl a b → circ a b c d ≠ 1
theorem zJv {M : Tri3} {p : Pt} (hM : valT M = true) (vp : vld p = true) : hasP M p = true ↔ 0 ≤ det M.A M.B p ∧ 0 ≤ det M.B M.C p ∧ 0 ≤ det M.C M.A p := by
 obtain ⟨va, vb, vc, hD⟩ := zDk hM;unfold hasP;rw [hM, vp, Bool.true_and, Bool.true_and];simp only [Bool.and_eq_true, decide_eq_true_eq, (zDc va vb vp).2.1, (zDc vb vc vp).2.1, (zDc vc va vp).2.1]
end Go.Proofs.YtmobnmjjmafibaaGreat
namespace Go.Proofs.YtmobnmjjmafibaaGreat
open Go.RowKit Go.Sort
attribute [local go_sem] rOper rAt rUpon cell_set sg_i64 sg_u64 alloc_cell alloc_frozen
attribute [local go_sem 10000] pt_eql pt_neq
attribute [local irreducible] rWalk
theorem zH6 : (Tryz.prog.info? 30).map (fun i => (i.zero, i.size, i.bytes)) = some (some (.agg #[.int .i64 0, .int .i64 0]), 2, 16) := by kernel_rfl
theorem zFj {w : World} {B g n cap : Nat} {xs tl : List Value} {T : TypeId} (h : Box w g (xs ++ tl) T) (hB : B ≤ g) (hl : xs.length = n * 2) (hn : n ≤ cap) (hc : cap ≤ maxLen) (ht : tl.length = (cap - n) * 2) :
    w.ownsRow B T 2 (.slice (some ⟨g, 0, none⟩) n cap) n xs := by
 refine ⟨hl, Or.inr ⟨g, cap, (xs ++ tl).toArray, rfl, hB, h, hn, hc, ?_, ?_⟩⟩
 ·simp [hl, ht]; omega
 ·simp [← hl]
theorem zJ0 {w : World} {ops : Array Oper} {rest : List Oper} {o : Oper} {a : Act} {Q : Exit → Act → World → Prop} (hgd : o.guard = none) (s x : Operand)
    (ho : o.op = .call { callee := .builtin .append, args := #[s, x], argTypes := #[52, 52] })
    (B n : Nat) (v : Value) (xs : List Value) (hs : a.eval s = v) (hown : w.ownsRow B 30 2 v n xs)
    (bx : Nat) (p : Pt) (hx : a.eval x = .slice (some ⟨bx, 0, none⟩) 1 1) (hbx : Box w bx [.int .i64 p.x, .int .i64 p.y] 30) (hn : n ≤ 1000000) (hbase : B ≤ w.heap.size)
    (h : ∀ w' g cap tl, B ≤ g → Box w' g (xs ++ .int .i64 p.x :: .int .i64 p.y :: tl) 30 → n + 1 ≤ cap → cap ≤ maxLen → tl.length = (cap - (n + 1)) * 2 → w.grownBy w' v.ownBlock →
     wpList Tryz.prog ops Q rest (a.put o.dst (.slice (some ⟨g, 0, none⟩) (n + 1) cap)) w') : wpList Tryz.prog ops Q (o :: rest) a w := by
 obtain ⟨i0, hi, hz0, hz1, hz2⟩ := info_parts zH6;refine wpList_append_own w hgd s x 52 ho B 30 i0 _ 2 16 Tryz.underlying52 hi hz0 hz1 hz2 rfl (by decide) v n xs hs hown ⟨bx, 0, none⟩ 1 1 [.int .i64 p.x, .int .i64 p.y] hx rfl ?_ ?_ ?_ ?_ hbase ?_
 ·intro j u hj;have := hbx.f.1
  match j, hj with
  | 0, hj => simp at hj; subst hj; simp [Addr.add, this]
  | 1, hj => simp at hj; subst hj; simp [Addr.add, this]
 ·intro u hu; simp at hu; rcases hu with rfl | rfl <;> rfl
 ·unfold maxLen; omega
 ·omega
 ·intro v' w' hown' hg _;obtain ⟨hl, ⟨_, h0⟩ | ⟨g, cap, cur, rfl, hB, hb, h1, h2, h3, h4⟩⟩ := hown'
  ·omega
  ·refine h w' g cap (cur.toList.drop ((n + 1) * 2)) hB ?_ h1 h2 ?_ hg
   ·unfold Box;rw [hb];have e : xs ++ .int .i64 p.x :: .int .i64 p.y :: cur.toList.drop ((n + 1) * 2) = cur.toList := by
     rw [show xs ++ .int .i64 p.x :: .int .i64 p.y :: cur.toList.drop ((n + 1) * 2) = (xs ++ [.int .i64 p.x, .int .i64 p.y]) ++ cur.toList.drop ((n + 1) * 2) by simp, ← h4, List.take_append_drop]
    rw [e]
   ·rw [List.length_drop, Array.length_toList, h3, Nat.sub_mul]
end Go.Proofs.YtmobnmjjmafibaaGreat
namespace Go.Proofs.YtmobnmjjmafibaaGreat
open Go.RowKit Go.Sort
attribute [local go_sem] rOper rAt rUpon cell_set sg_i64 sg_u64 alloc_cell alloc_frozen
attribute [local go_sem 10000] pt_eql pt_neq tri_eql
attribute [local irreducible] rWalk
def Two (w : World) (A : Addr) (p : Pt) : Prop := A.block < w.heap.size ∧ w.cell? A = some (.int .i64 p.x) ∧ w.cell? ⟨A.block, A.off + 1, none⟩ = some (.int .i64 p.y)
theorem RowAt.two {w : World} {a : Option Addr} {L : List Pt} (h : RowAt cP 2 w a L) {j : Nat} (hj : j < L.length) : ∃ ad A, a = some ad ∧ ad.add (j * 2) = A ∧ Two w A L[j] := by
 obtain ⟨ad, A, h1, h2, _, h4, h5⟩ := h.pt hj;exact ⟨ad, A, h1, h2, h4, h5⟩
theorem Two.ext {w w' : World} {A : Addr} {p : Pt} {n : Nat} (h : Two w A p) (hb : Below n w w') (hn : n = w.heap.size) : Two w' A p := by
 obtain ⟨h0, h1, h2⟩ := h;have e : ∀ q : Addr, q.block = A.block → w'.cell? q = w.cell? q := fun q hq => hb.cell (by rw [hq, hn]; exact h0);exact ⟨Nat.lt_of_lt_of_le h0 hb.size, (e A rfl).trans h1, (e ⟨A.block, A.off + 1, none⟩ rfl).trans h2⟩
theorem Two.ee {w w' : World} {A : Addr} {p : Pt} (h : Two w A p) (hb : Below w.heap.size w w') : Two w' A p := h.ext hb rfl
theorem Two.f {w : World} {A : Addr} {p : Pt} (h : Two w A p) : (A.block = w.heap.size) = False ∧ w.cell? A = some (.int .i64 p.x) ∧ w.cell? ⟨A.block, A.off + 1, none⟩ = some (.int .i64 p.y) := ⟨by simp; have := h.1; omega, h.2⟩
theorem Two.cells {w : World} {A : Addr} {p : Pt} (h : Two w A p) : (∀ d os, (grow (redrawn w d) os).cell? A = some (.int .i64 p.x)) ∧ (∀ d os, (grow (redrawn w d) os).cell? ⟨A.block, A.off + 1, none⟩ = some (.int .i64 p.y)) :=
 ⟨fun d os => (h.ext (below_regrown w d os) rfl).2.1, fun d os => (h.ext (below_regrown w d os) rfl).2.2⟩
theorem Two.set {w : World} {A : Addr} {p : Pt} (h : Two w A p) (q : Addr) (v : Value) (hq : q.block ≠ A.block) : Two (w.setCell q v) A p := by
 obtain ⟨h0, h1, h2⟩ := h;refine ⟨by simpa using h0, ?_, ?_⟩
 ·rw [World.cell?_setCell_other (h := fun e => hq (by rw [e]))]; exact h1
 ·rw [World.cell?_setCell_other (h := fun e => hq (by rw [e]))]; exact h2
theorem zJx (tl : List Value) : ∀ (S : List Pt) (j : Nat) (p : Pt), j < S.length → ((S.flatMap cP ++ tl).set (j * 2) (.int .i64 p.x)).set (j * 2 + 1) (.int .i64 p.y) = (S.set j p).flatMap cP ++ tl
 | q :: S, 0, p, _ => by simp [cP]
 | q :: S, j + 1, p, h => by
  have ih := zJx tl S j p (by simpa using h);simp only [List.flatMap_cons, cP, List.cons_append, List.nil_append, List.set_cons_succ] at ih ⊢;rw [show (j + 1) * 2 = j * 2 + 1 + 1 by omega];simp only [List.set_cons_succ];rw [ih]
theorem zFr {w : World} {g : Nat} {S : List Pt} {tl : List Value} (h : Box w g (S.flatMap cP ++ tl) 30) {j : Nat} (hj : j < S.length) :
    w.cell? ⟨g, j * 2, none⟩ = some (.int .i64 S[j].x) ∧ w.cell? ⟨g, j * 2 + 1, none⟩ = some (.int .i64 S[j].y) ∧ w.frozen? ⟨g, j * 2, none⟩ = false ∧ w.frozen? ⟨g, j * 2 + 1, none⟩ = false := by
 have hf := h.f;have e : ∀ i, i < 2 → (S.flatMap cP ++ tl)[j * 2 + i]? = (cP S[j])[i]? := fun i hi => by
  rw [List.getElem?_append_left (by rw [zBf zHi]; omega)];exact zBm zHi S j i S[j] (List.getElem?_eq_getElem hj) hi
 have e0 := e 0 (by omega);have e1 := e 1 (by omega);refine ⟨by rw [hf.1, show j * 2 = j * 2 + 0 from rfl, e0]; rfl, by rw [hf.1, e1]; rfl, hf.2.1 _, hf.2.1 _⟩
theorem zIx {w : World} {g : Nat} {S : List Pt} {tl : List Value} (h : Box w g (S.flatMap cP ++ tl) 30) {j : Nat} (hj : j < S.length) (p : Pt) :
    Box ((w.setCell ⟨g, j * 2, none⟩ (.int .i64 p.x)).setCell ⟨g, j * 2 + 1, none⟩ (.int .i64 p.y)) g ((S.set j p).flatMap cP ++ tl) 30 := by
 rw [← zJx tl S j p hj];exact (h.set (j * 2) _).set (j * 2 + 1) _
theorem rsortP_any (a0 : Option Addr) (c0 n : Nat) (L : List Pt) (hL : Hid (L.length = n)) (hn : n ≤ 500000) (w : World) (h0 : RowAt cP 2 w a0 L) :
    Calls Tryz.prog 83 #[.slice a0 n c0] w fun e w' => ∃ (M : List Pt) (a : Option Addr) (cap : Nat), e = .returned (.slice a M.length cap) ∧ RowAt cP 2 w' a M ∧ Rising cmpP M ∧ (∀ p, p ∈ M ↔ p ∈ L) ∧ Below w.heap.size w w' := by
 go_enter Tryz.func83, Tryz.ntmps83
 go_wp2
 go_loopw [3, 4] (fun vo vi wr => ∃ (k : Nat) (M : List Pt), vi = .int .i64 k ∧ k ≤ n ∧ Hid (Rising cmpP M) ∧ Hid (∀ p, p ∈ M ↔ p ∈ L.take k) ∧ M.length ≤ k ∧ wr.ownsRow w.heap.size 30 2 vo M.length (M.flatMap cP) ∧ Below w.heap.size w wr) (fun _ vi _ => n - (intOf vi).toNat)
 case atStart => exact ⟨0, [], rfl, Nat.zero_le _, Lib.hid (by simp [Rising]), Lib.hid (by simp), Nat.le_refl _, World.ownsRow_nil _ _ _ _, Below.refl _ _⟩
 case round =>
  obtain ⟨k, M, rfl, hk, hR, hM, hMk, hown, hw⟩ := hrel;by_cases hlt : k < n
  case neg =>
   obtain ⟨a, cap, rfl, _, hr⟩ := zAp zHi hown;have HM := Lib.hid (show ∀ p, p ∈ M ↔ p ∈ L by intro p; rw [hM.out p, List.take_of_length_le (by rw [hL.out]; omega)]);go_wp2
   go_ret
   exact ⟨M, a, cap, rfl, hr, hR.out, HM.out, hw⟩
  case pos =>
   have hlk : k < L.length := hL.out ▸ hlt;obtain ⟨ad, A, ea, eA, hA0⟩ := h0.two hlk;have hA := hA0.ee hw;obtain ⟨a1, c1, rfl, hc1, hr1⟩ := zAp zHi hown;have hT := Lib.hid (show L.take (k + 1) = L.take k ++ [L[k]] from List.take_succ_eq_append_getElem hlk);generalize L[k] = x at *
   go_wp2;obtain ⟨W0, rfl⟩ : ∃ W0, W0 = wr := ⟨_, rfl⟩
   go_loopw [5] (fun va wr => ∃ a : Nat, va = .int .i64 a ∧ a ≤ M.length ∧ Hid (∀ (i : Nat) (_ : a ≤ i) (h2 : i < M.length), 0 < cmpP (M[i]'h2) x) ∧ Below W0.heap.size W0 wr) (fun va _ => (intOf va).toNat)
   case atStart => exact ⟨M.length, rfl, Nat.le_refl _, Lib.hid (fun i h1 h2 => by omega), Below.refl _ _⟩
   case round =>
    obtain ⟨a, rfl, haM, hhi, hw1⟩ := hrel;rcases a with _ | j
    ·have hAT : 0 ≤ M.length := Nat.zero_le _;have hlo : ∀ (i : Nat) (hi : i < 0), cmpP (M[i]'(by omega)) x < 0 := fun i hi => by omega
     have hhi2 : ∀ (i : Nat) (_ : 0 ≤ i) (h2 : i < M.length), 0 < cmpP (M[i]'h2) x := fun i h1 h2 => hhi.out i h1 h2;have HHI := Lib.hid hhi2;clear hhi hhi2;go_wp2;refine wrt 14 (by kernel_rfl) (by kernel_rfl) ?_;simp only [tK1, tK0, dP1, dP0];repeat (first | (refine zA0 (Eq.refl false) ?_; simp only [Act.put, sT2, sT1, sT0]) | (refine rWalk_step (fun K hK => ?_); go_simp; refine hK _ ?_; clear hK K))
     refine rWalk_nil ?_;intro w2 hb;have hw2 := (upB hw1 hb);go_wp2;refine wrt 13 (by kernel_rfl) (by kernel_rfl) ?_;simp only [tK1, tK0, dP1, dP0];repeat (first | (refine zA0 (Eq.refl false) ?_; simp only [Act.put, sT2, sT1, sT0]) | (refine rWalk_step (fun K hK => ?_); go_simp; refine hK _ ?_; clear hK K))
     refine rWalk_nil ?_;intro w3 hb3;have hw3 := (upB hw2 hb3);have hhi2 := HHI.out;have HI := Lib.hid (zE8 wholeP hR.out (x := x) (k := 0) hAT hlo hhi2);obtain ⟨z1, t0, t1⟩ := (hA.ee hw3).f;have own3 := hown.kept (zA8 hw3 none) (by cases a1 <;> simp [Value.ownBlock]);have HB := Lib.hid (Nat.le_trans hw.size hw3.size);have hMn : M.length ≤ 1000000 := by omega
     have hw3w := (upB hw hw3);have hlt0 := fun q hq => (own3.lt q hq).1;clear hlo hhi2;go_wp2_with (at_builtin; refine zJ0 rfl _ _ rfl w.heap.size M.length _ (M.flatMap cP) rfl (own3.alloc _) w3.heap.size x rfl (Box.new rfl) hMn (by have := HB.out; simp; omega) ?_; intro w4 g cap tl hg0 hbx hcp1 hcp2 htl hg4)
     have hw4 := (hw3w.alloc HB.out (.cells #[.int .i64 x.x, .int .i64 x.y] 30)).grown hg4 (by have := HB.out; simp; omega) hlt0;have hbx2 : Box w4 g ((M ++ [x]).flatMap cP ++ tl) 30 := by simpa [cP] using hbx
     clear z1 t0 t1 own3 hg4 hlt0 hbx
     go_loopw [6] (fun vk wr => ∃ (q : Nat) (S : List Pt), vk = .int .i64 q ∧ 0 ≤ q ∧ q ≤ M.length ∧ Hid (Moved M S q) ∧ Box wr g (S.flatMap cP ++ tl) 30 ∧ Below w.heap.size w wr) (fun vk _ => (intOf vk).toNat)
     case atStart => exact ⟨M.length, M ++ [x], by first | rfl | go_num, hAT, Nat.le_refl _, Lib.hid (zFl M x), hbx2, hw4⟩
     case round =>
      clear hbx2 hw4;obtain ⟨q, S, rfl, hq1, hq2, hS, hbS, hwS⟩ := hrel;have hSl := hS.out.len;by_cases hq : 0 < q
      ·rcases q with _ | q
       ·omega
       ·have hqM : q < M.length := hq2;obtain ⟨u0, u1, _, _⟩ := zFr hbS (j := q) (by omega);obtain ⟨y0, y1, v0, v1, f0, f1⟩ : ∃ y0 y1, wr.cell? ⟨g, (q + 1) * 2, none⟩ = some y0 ∧ wr.cell? ⟨g, (q + 1) * 2 + 1, none⟩ = some y1 ∧ wr.frozen? ⟨g, (q + 1) * 2, none⟩ = false ∧ wr.frozen? ⟨g, (q + 1) * 2 + 1, none⟩ = false := ⟨_, _, zFr hbS (j := q + 1) (by omega)⟩;have eg : S[q] = M[q] := hS.out.get hqM;have hHS := Lib.hid (hS.out.step hqM);have hbS2 := zIx hbS (j := q + 1) (by omega) (M[q]'hqM);rw [eg] at u0 u1;have n5 : q < M.length + 1 := by omega
        have n6 : q + 1 < M.length + 1 := by omega
        have HBS := Lib.hid hbS2;have HW := Lib.hid hwS;clear eg hbS2 hwS hS;clear hbS hSl;go_wp2;exact ⟨⟨q, S.set (q + 1) (M[q]'hqM), rfl, by omega, by omega, hHS, HBS.out, (HW.out.setCell hg0 _).setCell hg0 _⟩, by simp [intOf]⟩
      ·obtain rfl : q = 0 := by omega
       obtain ⟨y0, y1, v0, v1, f0, f1⟩ : ∃ y0 y1, wr.cell? ⟨g, 0, none⟩ = some y0 ∧ wr.cell? ⟨g, 1, none⟩ = some y1 ∧ wr.frozen? ⟨g, 0, none⟩ = false ∧ wr.frozen? ⟨g, 1, none⟩ = false := ⟨_, _, zFr hbS (j := 0) (by omega)⟩;have hbS2 := zIx hbS (j := 0) (by omega) x;rw [hS.out.done hAT x] at hbS2;have HBS := Lib.hid hbS2;have HW := Lib.hid ((hwS.setCell (p := ⟨g, 0, none⟩) hg0 (.int .i64 x.x)).setCell (p := ⟨g, 1, none⟩) hg0 (.int .i64 x.y));obtain ⟨z1, t0, t1⟩ := (hA0.ee hwS).f;have n8 : 0 < M.length + 1 := by omega
       have HLn := Lib.hid (show (M.take 0 ++ x :: M.drop 0).length = M.length + 1 by rw [List.length_append, List.length_cons, List.length_take, List.length_drop]; omega);have HMB := Lib.hid (show ∀ p, p ∈ M.take 0 ++ x :: M.drop 0 ↔ p ∈ L.take (k + 1) by intro p; rw [HI.out.2 p, hM.out p, hT.out]; simp);clear hbS2 hwS hbS hS hSl hq;go_wp2;try rw [← ea]
       go_roundw
       case rel => exact ⟨k + 1, M.take 0 ++ x :: M.drop 0, by go_num, by omega, Lib.hid HI.out.1, HMB, by rw [HLn.out]; omega, by rw [HLn.out]; exact zFj HBS.out hg0 (by rw [zBf zHi, HLn.out]) hcp1 hcp2 htl, HW.out⟩
       case measure => simp [intOf]; omega
    ·obtain ⟨ad1, A1, ea1, eA1, hB0⟩ := hr1.two (j := j) (by omega);have hB := hB0.ee hw1;have hA1 := hA.ee hw1;have hjM : j < M.length := haM;have cc := zAb (M[j]'(by omega)) x;have e1 : IntKind.i64.wrap (j : Int) = j := by rw [IntKind.wrap_i64]; omega
     by_cases hc : 0 < cmpP (M[j]'(by omega)) x
     ·have hd : decide (0 < cmpP (M[j]'(by omega)) x) = true := by simpa using hc
      have HH := Lib.hid (show ∀ (i : Nat) (_ : j ≤ i) (h2 : i < M.length), 0 < cmpP (M[i]'h2) x from fun i h1 h2 => by
       by_cases e : i = j
       ·subst e; exact hc
       ·exact hhi.out i (by omega) h2)
      clear hc hhi;generalize cmpP (M[j]'(by omega)) x = q at *
      obtain ⟨t0, t1⟩ := hA1.cells;obtain ⟨s0, s1⟩ := hB.cells;go_wp2;refine wrt 14 (by kernel_rfl) (by kernel_rfl) ?_;simp only [tK1, tK0, dP1, dP0];repeat (first | (refine zA0 (Eq.refl false) ?_; simp only [Act.put, sT2, sT1, sT0]) | (refine rWalk_step (fun K hK => ?_); go_simp; first | (refine hK _ ?_; clear hK K) | (apply Exists.intro; refine ⟨fun _ => ?_, hK _ ?_⟩; (first | with_reducible exact toExt cc _); clear hK K)))
      refine rWalk_nil ?_;intro w2 hb;have hw2 := (upB hw1 hb);have e2 : wrap64 (((j + 1 : Nat) : Int) - 1) = j := by rw [w64]; omega
      go_wp2;try rw [← ea1]
      try rw [← ea]
      go_roundw
      case rel => exact ⟨j, by go_num, by omega, HH, hw2⟩
      case measure => simp [intOf]
     ·have hd : decide (0 < cmpP (M[j]'(by omega)) x) = false := by simpa using hc
      by_cases hx : M[j]'hjM = x
      ·skip
       have hp : peqI (M[j]'hjM).x (M[j]'hjM).y x.x x.y = true := zBi.2 hx;have HMB := Lib.hid (show ∀ p, p ∈ M ↔ p ∈ L.take (k + 1) by
        intro p;rw [hT.out, List.mem_append, ← hM.out p];constructor
        ·exact .inl
        ·rintro (h | h)
         ·exact h
         ·simp at h; subst h; rw [← hx]; exact List.getElem_mem hjM)
       clear hc hx hhi;generalize cmpP (M[j]'hjM) x = q at *
       obtain ⟨t0, t1⟩ := hA1.cells;obtain ⟨s0, s1⟩ := hB.cells;go_wp2;refine wrt 14 (by kernel_rfl) (by kernel_rfl) ?_;simp only [tK1, tK0, dP1, dP0];repeat (first | (refine zA0 (Eq.refl false) ?_; simp only [Act.put, sT2, sT1, sT0]) | (refine rWalk_step (fun K hK => ?_); go_simp; first | (refine hK _ ?_; clear hK K) | (apply Exists.intro; refine ⟨fun _ => ?_, hK _ ?_⟩; (first | with_reducible exact toExt cc _); clear hK K)))
       refine rWalk_nil ?_;intro w2 hb;have hw2 := (upB hw1 hb);clear t0 t1 s0 s1 hd;obtain ⟨t0, t1⟩ := (hA1.ee hb).cells;obtain ⟨s0, s1⟩ := (hB.ee hb).cells;go_wp2;refine wrt 13 (by kernel_rfl) (by kernel_rfl) ?_;simp only [tK1, tK0, dP1, dP0];repeat (first | (refine zA0 (Eq.refl false) ?_; simp only [Act.put, sT2, sT1, sT0]) | (refine rWalk_step (fun K hK => ?_); go_simp; refine hK _ ?_; clear hK K))
       refine rWalk_nil ?_;intro w3 hb3;have hw3 := (upB hw2 hb3);have own3 := hown.kept (zA8 hw3 none) (by cases a1 <;> simp [Value.ownBlock]);have hw3w := (upB hw hw3);clear t0 t1 s0 s1 hp cc hb3 hw1 hw2;go_wp2;try rw [← ea1]
       try rw [← ea]
       go_roundw
       case rel => exact ⟨k + 1, M, by go_num, by omega, hR, HMB, by omega, own3, hw3w⟩
       case measure => simp [intOf]; omega
      ·have hlt1 : cmpP (M[j]'hjM) x < 0 := by have := zC9 (p := M[j]'hjM) (q := x); have : cmpP (M[j]'hjM) x ≠ 0 := fun e => hx (this.1 e); omega
       have hAT : j + 1 ≤ M.length := hjM;have hlo : ∀ (i : Nat) (hi : i < j + 1), cmpP (M[i]'(by omega)) x < 0 := rising_below wholeP hR.out hjM hlt1;have hhi2 := fun i h1 h2 => hhi.out i h1 h2;have hp : peqI (M[j]'hjM).x (M[j]'hjM).y x.x x.y = false := by rw [← Bool.not_eq_true, zBi]; exact hx
       clear hc hx hlt1 hhi;generalize cmpP (M[j]'hjM) x = q at *
       obtain ⟨t0, t1⟩ := hA1.cells;obtain ⟨s0, s1⟩ := hB.cells;go_wp2;refine wrt 14 (by kernel_rfl) (by kernel_rfl) ?_;simp only [tK1, tK0, dP1, dP0];repeat (first | (refine zA0 (Eq.refl false) ?_; simp only [Act.put, sT2, sT1, sT0]) | (refine rWalk_step (fun K hK => ?_); go_simp; first | (refine hK _ ?_; clear hK K) | (apply Exists.intro; refine ⟨fun _ => ?_, hK _ ?_⟩; (first | with_reducible exact toExt cc _); clear hK K)))
       refine rWalk_nil ?_;intro w2 hb;have hw2 := (upB hw1 hb);clear t0 t1 s0 s1 hd;obtain ⟨t0, t1⟩ := (hA1.ee hb).cells;obtain ⟨s0, s1⟩ := (hB.ee hb).cells;go_wp2;refine wrt 13 (by kernel_rfl) (by kernel_rfl) ?_;simp only [tK1, tK0, dP1, dP0];repeat (first | (refine zA0 (Eq.refl false) ?_; simp only [Act.put, sT2, sT1, sT0]) | (refine rWalk_step (fun K hK => ?_); go_simp; refine hK _ ?_; clear hK K))
       refine rWalk_nil ?_;intro w3 hb3;have hw3 := (upB hw2 hb3);clear t0 t1 s0 s1 hp cc;have HI := Lib.hid (zE8 wholeP hR.out (x := x) (k := (j + 1)) hAT hlo hhi2);obtain ⟨z1, t0, t1⟩ := (hA.ee hw3).f;have own3 := hown.kept (zA8 hw3 none) (by cases a1 <;> simp [Value.ownBlock]);rw [ea1] at own3;have HB := Lib.hid (Nat.le_trans hw.size hw3.size);have hMn : M.length ≤ 1000000 := by omega
       have hw3w := (upB hw hw3);have hlt0 := fun q hq => (own3.lt q hq).1;clear hlo hhi2;go_wp2_with (at_builtin; refine zJ0 rfl _ _ rfl w.heap.size M.length _ (M.flatMap cP) rfl (own3.alloc _) w3.heap.size x rfl (Box.new rfl) hMn (by have := HB.out; simp; omega) ?_; intro w4 g cap tl hg0 hbx hcp1 hcp2 htl hg4)
       have hw4 := (hw3w.alloc HB.out (.cells #[.int .i64 x.x, .int .i64 x.y] 30)).grown hg4 (by have := HB.out; simp; omega) hlt0;have hbx2 : Box w4 g ((M ++ [x]).flatMap cP ++ tl) 30 := by simpa [cP] using hbx
       clear z1 t0 t1 own3 hg4 hlt0 hbx
       go_loopw [6] (fun vk wr => ∃ (q : Nat) (S : List Pt), vk = .int .i64 q ∧ (j + 1) ≤ q ∧ q ≤ M.length ∧ Hid (Moved M S q) ∧ Box wr g (S.flatMap cP ++ tl) 30 ∧ Below w.heap.size w wr) (fun vk _ => (intOf vk).toNat)
       case atStart => exact ⟨M.length, M ++ [x], by first | rfl | go_num, hAT, Nat.le_refl _, Lib.hid (zFl M x), hbx2, hw4⟩
       case round =>
        clear hbx2 hw4;obtain ⟨q, S, rfl, hq1, hq2, hS, hbS, hwS⟩ := hrel;have hSl := hS.out.len;by_cases hq : (j + 1) < q
        ·rcases q with _ | q
         ·omega
         ·have hqM : q < M.length := hq2;obtain ⟨u0, u1, _, _⟩ := zFr hbS (j := q) (by omega);obtain ⟨y0, y1, v0, v1, f0, f1⟩ : ∃ y0 y1, wr.cell? ⟨g, (q + 1) * 2, none⟩ = some y0 ∧ wr.cell? ⟨g, (q + 1) * 2 + 1, none⟩ = some y1 ∧ wr.frozen? ⟨g, (q + 1) * 2, none⟩ = false ∧ wr.frozen? ⟨g, (q + 1) * 2 + 1, none⟩ = false := ⟨_, _, zFr hbS (j := q + 1) (by omega)⟩;have eg : S[q] = M[q] := hS.out.get hqM;have hHS := Lib.hid (hS.out.step hqM);have hbS2 := zIx hbS (j := q + 1) (by omega) (M[q]'hqM);rw [eg] at u0 u1;have n5 : q < M.length + 1 := by omega
          have n6 : q + 1 < M.length + 1 := by omega
          have HBS := Lib.hid hbS2;have HW := Lib.hid hwS;clear eg hbS2 hwS hS;clear hbS hSl;go_wp2;exact ⟨⟨q, S.set (q + 1) (M[q]'hqM), rfl, by omega, by omega, hHS, HBS.out, (HW.out.setCell hg0 _).setCell hg0 _⟩, by simp [intOf]⟩
        ·obtain rfl : q = (j + 1) := by omega
         obtain ⟨y0, y1, v0, v1, f0, f1⟩ : ∃ y0 y1, wr.cell? ⟨g, (j + 1) * 2, none⟩ = some y0 ∧ wr.cell? ⟨g, (j + 1) * 2 + 1, none⟩ = some y1 ∧ wr.frozen? ⟨g, (j + 1) * 2, none⟩ = false ∧ wr.frozen? ⟨g, (j + 1) * 2 + 1, none⟩ = false := ⟨_, _, zFr hbS (j := (j + 1)) (by omega)⟩;have hbS2 := zIx hbS (j := (j + 1)) (by omega) x;rw [hS.out.done hAT x] at hbS2;have HBS := Lib.hid hbS2;have HW := Lib.hid ((hwS.setCell (p := ⟨g, (j + 1) * 2, none⟩) hg0 (.int .i64 x.x)).setCell (p := ⟨g, (j + 1) * 2 + 1, none⟩) hg0 (.int .i64 x.y));obtain ⟨z1, t0, t1⟩ := (hA0.ee hwS).f;have n8 : (j + 1) < M.length + 1 := by omega
         have HLn := Lib.hid (show (M.take (j + 1) ++ x :: M.drop (j + 1)).length = M.length + 1 by rw [List.length_append, List.length_cons, List.length_take, List.length_drop]; omega);have HMB := Lib.hid (show ∀ p, p ∈ M.take (j + 1) ++ x :: M.drop (j + 1) ↔ p ∈ L.take (k + 1) by intro p; rw [HI.out.2 p, hM.out p, hT.out]; simp);clear hbS2 hwS hbS hS hSl hq;go_wp2;try rw [← ea]
         go_roundw
         case rel => exact ⟨k + 1, M.take (j + 1) ++ x :: M.drop (j + 1), by go_num, by omega, Lib.hid HI.out.1, HMB, by rw [HLn.out]; omega, by rw [HLn.out]; exact zFj HBS.out hg0 (by rw [zBf zHi, HLn.out]) hcp1 hcp2 htl, HW.out⟩
         case measure => simp [intOf]; omega
def cnrs (L : List Tri3) : List Pt := L.flatMap fun T => [T.A, T.B, T.C]
end Go.Proofs.YtmobnmjjmafibaaGreat
namespace Go.Proofs.YtmobnmjjmafibaaGreat
section
variable {α : Type} [DecidableEq α] {c : α → α → Int}
structure Cpt (c : α → α → Int) (L : List α) (r : Nat) (M : List α) : Prop where
 rise : Rising c M
 mem : ∀ p, p ∈ M ↔ p ∈ L.take r
 last : ∀ (h : 0 < r) (h2 : r ≤ L.length), M.getLast? = some (L[r - 1]'(by omega))
 len : M.length ≤ r
omit [DecidableEq α] in
theorem rising_snoc (W : Whole c) {M : List α} {x y : α} (h : Rising c M) (hl : M.getLast? = some y) (hxy : c y x < 0) : Rising c (M ++ [x]) := by
 unfold Rising at *;rw [List.pairwise_append];refine ⟨h, by simp, fun a ha b hb => ?_⟩;simp at hb; subst hb;rw [List.getLast?_eq_some_iff] at hl;obtain ⟨N, rfl⟩ := hl;rw [List.pairwise_append] at h;rcases List.mem_append.1 ha with ha | ha
 ·exact W.trans (h.2.2 a ha y (by simp)) hxy
 ·simp at ha; subst ha; exact hxy
omit [DecidableEq α] in
theorem Cpt.start {L : List α} (h : 0 < L.length) : Cpt c L 1 (L.take 1) := by
 cases L with
 | nil => simp at h
 | cons x L => exact ⟨by simp [Rising], by simp, by simp, by simp⟩
omit [DecidableEq α] in
theorem Cpt.next (W : Whole c) {L M : List α} {r : Nat} (h : Cpt c L r M) (ho : InOrder c L) (h0 : 0 < r) (hr : r < L.length) (hne : L[r] ≠ L[r - 1]'(by omega)) : Cpt c L (r + 1) (M ++ [L[r]]) := by
 have hl := h.last h0 (by omega);have hle : c (L[r - 1]'(by omega)) L[r] ≤ 0 := by
  unfold InOrder at ho;rw [List.pairwise_iff_getElem] at ho;exact ho _ _ _ _ (by omega)
 have hlt : c (L[r - 1]'(by omega)) L[r] < 0 := by
  have : c (L[r - 1]'(by omega)) L[r] ≠ 0 := fun e => hne (W.eq0.1 e).symm;omega
 refine ⟨rising_snoc W h.rise hl hlt, fun p => ?_, fun _ _ => by simp, by have := h.len; simp; omega⟩;rw [List.take_succ_eq_append_getElem hr, List.mem_append, List.mem_append, h.mem p]
omit [DecidableEq α] in
theorem Cpt.same {L M : List α} {r : Nat} (h : Cpt c L r M) (h0 : 0 < r) (hr : r < L.length) (he : L[r] = L[r - 1]'(by omega)) : Cpt c L (r + 1) M := by
 refine ⟨h.rise, fun p => ?_, fun _ _ => ?_, by have := h.len; omega⟩
 ·rw [List.take_succ_eq_append_getElem hr, List.mem_append, h.mem p];constructor
  ·exact .inl
  ·rintro (hp | hp)
   ·exact hp
   ·simp at hp;rw [hp, he];exact List.mem_take_iff_getElem.2 ⟨r - 1, by omega, rfl⟩
 ·rw [h.last h0 (by omega)]; simp [he]
omit [DecidableEq α] in
theorem Cpt.all (W : Whole c) {L : List α} (ho : InOrder c L) : ∀ r, r ≤ L.length → 0 < r → (∀ (i : Nat) (h0 : 0 < i) (_ : i < r) (h2 : i < L.length), L[i] ≠ L[i - 1]'(by omega)) → Cpt c L r (L.take r)
 | 0, _, h, _ => absurd h (by omega)
 | 1, h, _, _ => Cpt.start (by omega)
 | r + 2, h, _, hd => by
  have ih := Cpt.all W ho (r + 1) (by omega) (by omega) (fun i h0 h1 h2 => hd i h0 (by omega) h2);have := ih.next W ho (by omega) (by omega) (hd (r + 1) (by omega) (by omega) (by omega))
  rwa [← List.take_succ_eq_append_getElem (by omega)] at this
end
open Go.RowKit Go.Sort
attribute [local go_sem] rOper rAt rUpon cell_set sg_i64 sg_u64 alloc_cell alloc_frozen
attribute [local go_sem 10000] pt_eql pt_neq tri_eql
attribute [local irreducible] rWalk
theorem zHk {w : World} {ops : Array Oper} {rest : List Oper} {o : Oper} {a : Act} {Q : Exit → Act → World → Prop} (hgd : o.guard = none) (s x : Operand)
    (ho : o.op = .call { callee := .builtin .append, args := #[s, x], argTypes := #[52, 52] })
    (B : Nat) (v : Value) (L : List Pt) (hs : a.eval s = v) (hown : w.ownsRow B 30 2 v L.length (L.flatMap cP))
    (bx : Nat) (p : Pt) (hx : a.eval x = .slice (some ⟨bx, 0, none⟩) 1 1) (hbx : Box w bx (cP p) 30) (hn : L.length ≤ 1000000) (hbase : B ≤ w.heap.size)
    (h : ∀ w' v', w'.ownsRow B 30 2 v' (L ++ [p]).length ((L ++ [p]).flatMap cP) → w.grownBy w' v.ownBlock → v' ≠ .slice none 0 0 → wpList Tryz.prog ops Q rest (a.put o.dst v') w') : wpList Tryz.prog ops Q (o :: rest) a w := by
 obtain ⟨i0, hi, hz0, hz1, hz2⟩ := info_parts zH6;refine wpList_append_own w hgd s x 52 ho B 30 i0 _ 2 16 Tryz.underlying52 hi hz0 hz1 hz2 rfl (by decide) v L.length _ hs hown ⟨bx, 0, none⟩ 1 1 (cP p) hx rfl ?_ (cP_one p) ?_ ?_ hbase ?_
 ·intro j u hj;have := hbx.f.1 j;rw [hj] at this;rw [Addr.add_lit, Nat.zero_add];exact this
 ·unfold maxLen; omega
 ·omega
 ·intro v' w' hown' hg hnil;refine h w' v' ?_ hg (fun e => by have := (hnil.1 e).2; omega);rw [List.length_append, List.length_singleton, List.flatMap_append]
  simpa using hown'
def froms (E : Es) : List Pt := E.map fun e => e.1.1
end Go.Proofs.YtmobnmjjmafibaaGreat
namespace Go.Proofs.YtmobnmjjmafibaaGreat
open Go.RowKit
def wys (T : Tri3) : Es := [((T.A, T.B), T), ((T.B, T.C), T), ((T.C, T.A), T)]
theorem zEd {T : Tri3} (h : valT T = true) : T.A ≠ T.B ∧ T.B ≠ T.C ∧ T.C ≠ T.A := by
 unfold valT at h;simp only [Bool.and_eq_true, Bool.not_eq_true', decide_eq_false_iff_not] at h;have h0 := h.1;refine ⟨fun e => h0 ?_, fun e => h0 ?_, fun e => h0 ?_⟩
 ·rw [e]; unfold ori det; simp [sgn]
 ·rw [e]; unfold ori det; rw [Int.mul_comm (T.C.x - T.A.x)]; simp [sgn]
 ·rw [e]; unfold ori det; simp [sgn]
theorem fits_parts {E : Es} {T : Tri3} (h : fitsE E T = true) : getE E (T.A, T.B) = none ∧ getE E (T.B, T.C) = none ∧ getE E (T.C, T.A) = none ∧ valT T = true := by
 unfold fitsE at h
 simpa only [Bool.and_eq_true, Option.isNone_iff_eq_none] using h
theorem putT_eq {E : Es} {T : Tri3} (h : fitsE E T = true) : (putT E T).Perm (E ++ wys T) := by
 obtain ⟨h1, h2, h3, hv⟩ := fits_parts h;obtain ⟨a1, a2, a3⟩ := zEd hv;rw [zEb] at h1 h2 h3;unfold putT putE wys;rw [zDt h1, zDt (x := (T.B, T.C)) (E := ((T.A, T.B), T) :: E) (fun p hp => by
  rcases List.mem_cons.1 hp with rfl | hp
  ·intro e; simp at e; exact a1 e.1
  ·exact h2 p hp), zDt (x := (T.C, T.A)) (E := ((T.B, T.C), T) :: ((T.A, T.B), T) :: E) (fun p hp => by
  rcases List.mem_cons.1 hp with rfl | hp
  ·intro e; simp at e; exact a2 e.1
  ·rcases List.mem_cons.1 hp with rfl | hp
   ·intro e; simp at e; exact a3 e.1.symm
   ·exact h3 p hp)]
 refine List.Perm.trans ?_ (List.perm_append_comm (l₁ := [((T.A, T.B), T), ((T.B, T.C), T), ((T.C, T.A), T)]));exact (List.reverse_perm [((T.A, T.B), T), ((T.B, T.C), T), ((T.C, T.A), T)]).append_right E
structure Good (E : Es) (L : List Tri3) : Prop where
 perm : E.Perm (L.flatMap wys)
 nodup : KeysNodup E
 val : ∀ T ∈ L, valT T = true
theorem zIh : ∀ (L : List Tri3), (∀ T ∈ L, valT T = true) → heads yes (L.flatMap wys) = L
 | [], _ => rfl
 | T :: L, h => by
  obtain ⟨a1, a2, a3⟩ := zEd (h T (by simp));rw [List.flatMap_cons, zAn, zIh L (fun S hS => h S (by simp [hS]))];have : heads yes (wys T) = [T] := by
   unfold heads wys yes;simp [Ne.symm a1, a3]
  rw [this]; rfl
theorem Good.heads {E : Es} {L : List Tri3} (h : Good E L) : (heads yes E).Perm L := by
 have := zCd (p := yes) h.perm
 rwa [zIh L h.val] at this
theorem zKg : ∀ L : List Tri3, (L.flatMap wys).length = 3 * L.length
 | [] => rfl
 | T :: L => by rw [List.flatMap_cons, List.length_append, zKg L, List.length_cons]; simp [wys]; omega
theorem Good.len {E : Es} {L : List Tri3} (h : Good E L) : E.length = 3 * L.length := by rw [h.perm.length_eq, zKg]
theorem zIk : ∀ L : List Tri3, froms (L.flatMap wys) = cnrs L
 | [] => rfl
 | T :: L => by
  have ih := zIk L;unfold froms cnrs at *;rw [List.flatMap_cons, List.map_append, ih, List.flatMap_cons]; rfl
theorem Good.froms {E : Es} {L S : List Tri3} (h : Good E L) (hS : S.Perm L) (p : Pt) : p ∈ froms E ↔ p ∈ cnrs S := by
 have h1 : (Go.Proofs.YtmobnmjjmafibaaGreat.froms E).Perm (cnrs L) := by
  rw [← zIk L]; exact h.perm.map _
 rw [h1.mem_iff];unfold cnrs;exact (hS.flatMap_right _).mem_iff.symm
theorem Good.left {E : Es} {L : List Tri3} (h : Good E L) {T : Tri3} (hT : T ∈ L) {i : Int} (hi : i = 0 ∨ i = 1 ∨ i = 2) : lftE E (crn T i) (crn T (i + 1)) = (T, true) := by
 refine zAi (zGg h.nodup (h.perm.mem_iff.2 (List.mem_flatMap.2 ⟨T, hT, ?_⟩)));rcases hi with rfl | rfl | rfl <;> simp [wys, crn, plc]
end Go.Proofs.YtmobnmjjmafibaaGreat
