/- Put together: GeoA, GeoB, GeoC, TrN, TrR, SortQ, MesM, MesN, Cpt, MesO, MesP, MesQ, GeoD, GeoE. -/
import Derived.Test.YtmobnmjjmafibaaGreatRows
import Derived.Test.YtmobnmjjmafibaaGreatPub5
import Derived.Test.YtmobnmjjmafibaaGreatPub3
import Derived.Test.YtmobnmjjmafibaaGreatPub0
import Derived.WalkKit
import Derived.WalkSpells
import Derived.WalkLawsBesides
import Derived.Laws.Externs
import Derived.Deep.QuietTactic
import Derived.BigQuiet
import Derived.Lib.Hide
import Derived.Handy
import Derived.LoopN
import Derived.OwnWalk
import Derived.Laws.AppendOwn
import Derived.Test.YtmobnmjjmafibaaGreatPub6
import Derived.RegionTactic
import Derived.Deep.RegionHeld3
import Derived.Deep.AppendLies
import Derived.Lib.SliceRun
import Derived.Maps.RangeWalk
import Derived.Maps.OwnSet
set_option maxRecDepth 100000
set_option maxHeartbeats 8000000
namespace Go.Proofs.YtmobnmjjmafibaaGreat
open Go.RowKit
def crs (a b q : Pt) : Int := if a.y ≤ q.y ∧ q.y < b.y ∧ 0 < det a b q then 1 else if b.y ≤ q.y ∧ q.y < a.y ∧ det a b q < 0 then -1 else 0
theorem zBl (a b q : Pt) : crs b a q = - crs a b q := by
 unfold crs
 rw [zBw]
 (repeat' split) <;> omega
theorem zAy {a b : Int} (ha : 0 < a) : 0 < a * b ↔ 0 < b := by
 constructor
 ·intro h
  rcases Int.lt_trichotomy b 0 with k | k | k
  ·have := Int.mul_neg_of_pos_of_neg ha k; omega
  ·rw [k, Int.mul_zero] at h; omega
  ·exact k
 ·intro h; exact Int.mul_pos ha h
theorem zC6 {a b : Int} (ha : 0 < a) : a * b < 0 ↔ b < 0 := by
 have := zAy (b := -b) ha
 rw [Int.mul_neg] at this
 omega
theorem zB9 {a b : Int} (ha : 0 < a) : 0 ≤ a * b ↔ 0 ≤ b := by
 have := zC6 (b := b) ha
 omega
theorem crs_add {a b p : Pt} (h : det a b p = 0) (hb : (a.y ≤ p.y ∧ p.y ≤ b.y) ∨ (b.y ≤ p.y ∧ p.y ≤ a.y)) (q : Pt) : crs a b q = crs a p q + crs p b q := by
 have e1 : (b.y - a.y) * det a p q = (p.y - a.y) * det a b q - (q.y - a.y) * det a b p := by unfold det; grind
 have e2 : (b.y - a.y) * det p b q = (b.y - p.y) * det a b q + (q.y - b.y) * det a b p := by unfold det; grind
 rw [h, Int.mul_zero] at e1 e2
 rw [Int.sub_zero] at e1
 rw [Int.add_zero] at e2
 have key : ∀ (s t d f : Int), 0 < s → 0 < t → s * f = t * d → ((0 < f ↔ 0 < d) ∧ (f < 0 ↔ d < 0)) := by
  intro s t d f hs ht h
  refine ⟨?_, ?_⟩
  ·rw [← zAy hs, h, zAy ht]
  ·rw [← zC6 hs, h, zC6 ht]
 have key' : ∀ (s t d f : Int), s < 0 → t < 0 → s * f = t * d → ((0 < f ↔ 0 < d) ∧ (f < 0 ↔ d < 0)) := by
  intro s t d f hs ht h
  refine key (-s) (-t) d f (by omega) (by omega) ?_
  rw [Int.neg_mul, Int.neg_mul, h]
 unfold crs
 rcases Int.lt_trichotomy a.y b.y with hab | hab | hab
 ·have k1 : a.y < p.y → ((0 < det a p q ↔ 0 < det a b q) ∧ (det a p q < 0 ↔ det a b q < 0)) := fun hp => key _ _ _ _ (by omega) (by omega) e1
  have k2 : p.y < b.y → ((0 < det p b q ↔ 0 < det a b q) ∧ (det p b q < 0 ↔ det a b q < 0)) := fun hp => key _ _ _ _ (by omega) (by omega) e2
  (repeat' split) <;> omega
 ·(repeat' split) <;> omega
 ·have k1 : p.y < a.y → ((0 < det a p q ↔ 0 < det a b q) ∧ (det a p q < 0 ↔ det a b q < 0)) := fun hp => key' _ _ _ _ (by omega) (by omega) e1
  have k2 : b.y < p.y → ((0 < det p b q ↔ 0 < det a b q) ∧ (det p b q < 0 ↔ det a b q < 0)) := fun hp => key' _ _ _ _ (by omega) (by omega) e2
  (repeat' split) <;> omega
def hin (T : Tri3) (q : Pt) : Int := crs T.A T.B q + crs T.B T.C q + crs T.C T.A q
theorem zC4 {a b c q : Pt} (hD : 0 < det a b c) :
    (a.y ≤ q.y → q.y < b.y → c.y ≤ q.y → det b c q < 0 → 0 < det a b q) ∧
    (a.y ≤ q.y → q.y < b.y → q.y < c.y → det c a q < 0 → 0 < det a b q) := by
 refine ⟨fun h1 h2 h3 h4 => ?_, fun h1 h2 h3 h4 => ?_⟩
 ·have e : (b.y - c.y) * det a b q = (b.y - q.y) * det a b c - (b.y - a.y) * det b c q := by unfold det; grind
  have p1 : 0 < (b.y - q.y) * det a b c := Int.mul_pos (by omega) hD
  have p2 : (b.y - a.y) * det b c q < 0 := Int.mul_neg_of_pos_of_neg (by omega) h4
  exact (zAy (a := b.y - c.y) (by omega)).1 (by omega)
 ·have e : (c.y - a.y) * det a b q = (q.y - a.y) * det a b c - (b.y - a.y) * det c a q := by unfold det; grind
  have p1 : 0 ≤ (q.y - a.y) * det a b c := Int.mul_nonneg (by omega) (by omega)
  have p2 : (b.y - a.y) * det c a q < 0 := Int.mul_neg_of_pos_of_neg (by omega) h4
  exact (zAy (a := c.y - a.y) (by omega)).1 (by omega)
theorem zBq {a b c q : Pt} :
    (a.y ≤ q.y → q.y < b.y → c.y ≤ q.y → 0 < det a b q → 0 ≤ det b c q → 0 ≤ det c a q) ∧
    (a.y ≤ q.y → q.y < b.y → q.y < c.y → 0 < det a b q → 0 ≤ det c a q → 0 ≤ det b c q) := by
 have e : det a b q * (c.y - q.y) + det b c q * (a.y - q.y) + det c a q * (b.y - q.y) = 0 := by unfold det; grind
 refine ⟨fun h1 h2 h3 h4 h5 => ?_, fun h1 h2 h3 h4 h5 => ?_⟩
 ·have p1 : 0 ≤ det a b q * (q.y - c.y) := Int.mul_nonneg (by omega) (by omega)
  have p2 : 0 ≤ det b c q * (q.y - a.y) := Int.mul_nonneg (by omega) (by omega)
  have : (b.y - q.y) * det c a q = det a b q * (q.y - c.y) + det b c q * (q.y - a.y) := by grind
  exact (zB9 (a := b.y - q.y) (by omega)).1 (by omega)
 ·have p1 : 0 < det a b q * (c.y - q.y) := Int.mul_pos (by omega) (by omega)
  have p2 : 0 ≤ det c a q * (b.y - q.y) := Int.mul_nonneg (by omega) (by omega)
  have : (q.y - a.y) * det b c q = det a b q * (c.y - q.y) + det c a q * (b.y - q.y) := by grind
  rcases Int.lt_or_eq_of_le h1 with h | h
  ·exact (zB9 (a := q.y - a.y) (by omega)).1 (by omega)
  ·rw [h, Int.sub_self, Int.zero_mul] at this; omega
theorem zIh {a b q : Pt} (h1 : a.y ≤ q.y) (h2 : q.y < b.y) : crs a b q = if 0 < det a b q then 1 else 0 := by
 unfold crs
 (repeat' split) <;> omega
theorem zE7 {a b q : Pt} (h1 : b.y ≤ q.y) (h2 : q.y < a.y) : crs a b q = if det a b q < 0 then -1 else 0 := by
 unfold crs
 (repeat' split) <;> omega
theorem zCy {a b q : Pt} (h1 : a.y ≤ q.y) (h2 : b.y ≤ q.y) : crs a b q = 0 := by
 unfold crs
 (repeat' split) <;> omega
theorem zCz {a b q : Pt} (h1 : q.y < a.y) (h2 : q.y < b.y) : crs a b q = 0 := by
 unfold crs
 (repeat' split) <;> omega
theorem cover_flat {a b c q : Pt} (hD : 0 < det a b c) (h1 : 0 < det a b q) (h2 : 0 < det b c q) (h3 : 0 < det c a q) :
    ¬ (c.y ≤ q.y ∧ a.y ≤ q.y ∧ b.y ≤ q.y) ∧ ¬ (q.y < c.y ∧ q.y < a.y ∧ q.y < b.y) := by
 have e : det a b q * (q.y - c.y) + det b c q * (q.y - a.y) + det c a q * (q.y - b.y) = 0 := by unfold det; grind
 have e' : det a b q * (c.y - q.y) + det b c q * (a.y - q.y) + det c a q * (b.y - q.y) = 0 := by unfold det; grind
 refine ⟨fun ⟨k1, k2, k3⟩ => ?_, fun ⟨k1, k2, k3⟩ => ?_⟩
 ·have m1 : 0 ≤ det a b q * (q.y - c.y) := Int.mul_nonneg (by omega) (by omega)
  have m2 : 0 ≤ det b c q * (q.y - a.y) := Int.mul_nonneg (by omega) (by omega)
  have m3 : 0 ≤ det c a q * (q.y - b.y) := Int.mul_nonneg (by omega) (by omega)
  have z1 : det a b q * (q.y - c.y) = 0 := by omega
  have z2 : det b c q * (q.y - a.y) = 0 := by omega
  have z3 : det c a q * (q.y - b.y) = 0 := by omega
  have y1 : q.y = c.y := by rcases Int.mul_eq_zero.1 z1 with h | h <;> omega
  have y2 : q.y = a.y := by rcases Int.mul_eq_zero.1 z2 with h | h <;> omega
  have y3 : q.y = b.y := by rcases Int.mul_eq_zero.1 z3 with h | h <;> omega
  have : det a b c = 0 := by
   unfold det
   rw [show c.y - a.y = 0 by omega, show b.y - a.y = 0 by omega]; simp
  omega
 ·have m1 : 0 < det a b q * (c.y - q.y) := Int.mul_pos (by omega) (by omega)
  have m2 : 0 < det b c q * (a.y - q.y) := Int.mul_pos (by omega) (by omega)
  have m3 : 0 < det c a q * (b.y - q.y) := Int.mul_pos (by omega) (by omega)
  omega
theorem zD0 {u v w S : Int} (h : S = (if 0 < u then 1 else 0) + (if v < 0 then -1 else 0)) (hp : v < 0 → 0 < u) (ht : 0 < u → 0 ≤ v → 0 ≤ w) :
    (0 ≤ S ∧ S ≤ 1) ∧ (0 < S → 0 ≤ u ∧ 0 ≤ v ∧ 0 ≤ w) ∧ (0 < u → 0 < v → 0 < w → S = 1) := by
 rw [h]; clear h
 (repeat' split) <;> omega
theorem zJ2 {a b c : Pt} (hD : 0 < det a b c) (q : Pt) :
    (0 ≤ crs a b q + crs b c q + crs c a q ∧ crs a b q + crs b c q + crs c a q ≤ 1) ∧
    (0 < crs a b q + crs b c q + crs c a q → 0 ≤ det a b q ∧ 0 ≤ det b c q ∧ 0 ≤ det c a q) ∧
    (0 < det a b q → 0 < det b c q → 0 < det c a q → crs a b q + crs b c q + crs c a q = 1) := by
 have hD2 : 0 < det b c a := by rw [zAv]; exact hD
 have hD3 : 0 < det c a b := by rw [zAv, zAv]; exact hD
 have f := cover_flat (q := q) hD
 by_cases ha : a.y ≤ q.y <;> by_cases hb : b.y ≤ q.y <;> by_cases hc : c.y ≤ q.y
 ·rw [zCy ha hb, zCy hb hc, zCy hc ha]
  exact ⟨by omega, by omega, fun h1 h2 h3 => absurd ⟨hc, ha, hb⟩ (f h1 h2 h3).1⟩
 ·obtain ⟨r1, r2, r3⟩ := zD0 (u := det b c q) (v := det c a q) (w := det a b q) (S := crs a b q + crs b c q + crs c a q)
     (by rw [zCy ha hb, zIh hb (by omega), zE7 ha (by omega)]; omega) ((zC4 hD2).1 hb (by omega) ha) (zBq.1 hb (by omega) ha)
  exact ⟨r1, fun h => ⟨(r2 h).2.2, (r2 h).1, (r2 h).2.1⟩, fun h1 h2 h3 => r3 h2 h3 h1⟩
 ·obtain ⟨r1, r2, r3⟩ := zD0 (u := det a b q) (v := det b c q) (w := det c a q) (S := crs a b q + crs b c q + crs c a q)
     (by rw [zIh ha (by omega), zE7 hc (by omega), zCy hc ha]; omega) ((zC4 hD).1 ha (by omega) hc) (zBq.1 ha (by omega) hc)
  exact ⟨r1, fun h => ⟨(r2 h).1, (r2 h).2.1, (r2 h).2.2⟩, fun h1 h2 h3 => r3 h1 h2 h3⟩
 ·obtain ⟨r1, r2, r3⟩ := zD0 (u := det a b q) (v := det c a q) (w := det b c q) (S := crs a b q + crs b c q + crs c a q)
     (by rw [zIh ha (by omega), zCz (by omega) (by omega), zE7 ha (by omega)]; omega) ((zC4 hD).2 ha (by omega) (by omega)) (zBq.2 ha (by omega) (by omega))
  exact ⟨r1, fun h => ⟨(r2 h).1, (r2 h).2.2, (r2 h).2.1⟩, fun h1 h2 h3 => r3 h1 h3 h2⟩
 ·obtain ⟨r1, r2, r3⟩ := zD0 (u := det c a q) (v := det a b q) (w := det b c q) (S := crs a b q + crs b c q + crs c a q)
     (by rw [zE7 hb (by omega), zCy hb hc, zIh hc (by omega)]; omega) ((zC4 hD3).1 hc (by omega) hb) (zBq.1 hc (by omega) hb)
  exact ⟨r1, fun h => ⟨(r2 h).2.1, (r2 h).2.2, (r2 h).1⟩, fun h1 h2 h3 => r3 h3 h1 h2⟩
 ·obtain ⟨r1, r2, r3⟩ := zD0 (u := det b c q) (v := det a b q) (w := det c a q) (S := crs a b q + crs b c q + crs c a q)
     (by rw [zE7 hb (by omega), zIh hb (by omega), zCz (by omega) (by omega)]; omega) ((zC4 hD2).2 hb (by omega) (by omega)) (zBq.2 hb (by omega) (by omega))
  exact ⟨r1, fun h => ⟨(r2 h).2.1, (r2 h).1, (r2 h).2.2⟩, fun h1 h2 h3 => r3 h2 h1 h3⟩
 ·obtain ⟨r1, r2, r3⟩ := zD0 (u := det c a q) (v := det b c q) (w := det a b q) (S := crs a b q + crs b c q + crs c a q)
     (by rw [zCz (by omega) (by omega), zE7 hc (by omega), zIh hc (by omega)]; omega) ((zC4 hD3).2 hc (by omega) (by omega)) (zBq.2 hc (by omega) (by omega))
  exact ⟨r1, fun h => ⟨(r2 h).2.2, (r2 h).2.1, (r2 h).1⟩, fun h1 h2 h3 => r3 h3 h2 h1⟩
 ·rw [zCz (by omega) (by omega), zCz (by omega) (by omega), zCz (by omega) (by omega)]
  exact ⟨by omega, by omega, fun h1 h2 h3 => absurd ⟨by omega, by omega, by omega⟩ (f h1 h2 h3).2⟩
def sc (K : Int) (p : Pt) : Pt := ⟨K * p.x, K * p.y⟩
theorem sc_det (K : Int) (a b c : Pt) : det (sc K a) (sc K b) (sc K c) = K * (K * det a b c) := by unfold det sc; grind
def crd (a b v : Pt) : Int := (b.x - a.x) * v.y - (b.y - a.y) * v.x
def ways (T : Tri3) : List (Pt × Pt) := [(T.A, T.B), (T.B, T.C), (T.C, T.A)]
def cvr (K : Int) : List (Pt × Pt) → Pt → Int
 | [], _ => 0
 | w :: l, q => crs (sc K w.1) (sc K w.2) q + cvr K l q
theorem zC3 (K : Int) (l m : List (Pt × Pt)) (q : Pt) : cvr K (l ++ m) q = cvr K l q + cvr K m q := by
 induction l with
 | nil => simp [cvr]
 | cons w l ih => simp only [List.cons_append, cvr, ih]; omega
theorem zGf {K : Int} {l m : List (Pt × Pt)} (h : l.Perm m) (q : Pt) : cvr K l q = cvr K m q := by
 induction h with
 | nil => rfl
 | cons x _ ih => simp only [cvr, ih]
 | swap x y l => simp only [cvr]; omega
 | trans _ _ h1 h2 => exact h1.trans h2
def onRim (W H : Int) (a b : Pt) : Prop := (a.x = 0 ∧ b.x = 0) ∨ (a.x = W ∧ b.x = W) ∨ (a.y = 0 ∧ b.y = 0) ∨ (a.y = H ∧ b.y = H)
def inBox (W H : Int) (p : Pt) : Prop := (0 ≤ p.x ∧ p.x ≤ W) ∧ 0 ≤ p.y ∧ p.y ≤ H
def sqr (W H : Int) (q : Pt) : Int := if (0 ≤ q.x ∧ q.x < W) ∧ 0 ≤ q.y ∧ q.y < H then 1 else 0
def sumA : List Tri3 → Int
 | [] => 0
 | T :: L => det T.A T.B T.C + sumA L
theorem zDx (l m : List Tri3) : sumA (l ++ m) = sumA l + sumA m := by
 induction l with
 | nil => simp [sumA]
 | cons w l ih => simp only [List.cons_append, sumA, ih]; omega
theorem zHi {l m : List Tri3} (h : l.Perm m) : sumA l = sumA m := by
 induction h with
 | nil => rfl
 | cons x _ ih => simp only [sumA, ih]
 | swap x y l => simp only [sumA]; omega
 | trans _ _ h1 h2 => exact h1.trans h2
structure Tiles (W H : Int) (L : List Tri3) : Prop where
 pos : ∀ T ∈ L, 0 < det T.A T.B T.C
 once : (L.flatMap ways).Nodup
 box : ∀ T ∈ L, inBox W H T.A ∧ inBox W H T.B ∧ inBox W H T.C
 rim : ∀ w ∈ L.flatMap ways, (w.2, w.1) ∈ L.flatMap ways ∨ onRim W H w.1 w.2
 cov : ∀ K, 0 < K → ∀ q, cvr K (L.flatMap ways) q = sqr (K * W) (K * H) q
 area : sumA L = 2 * (W * H)
theorem zB5 {L M : List Tri3} (h : L.Perm M) : (L.flatMap ways).Perm (M.flatMap ways) := h.flatMap_right _
theorem Tiles.perm {W H : Int} {L M : List Tri3} (h : Tiles W H L) (p : L.Perm M) : Tiles W H M where
 pos := fun T hT => h.pos T (p.mem_iff.2 hT)
 once := (zB5 p).nodup_iff.1 h.once
 box := fun T hT => h.box T (p.mem_iff.2 hT)
 rim := fun w hw => by
  have := h.rim w ((zB5 p).mem_iff.2 hw)
  rwa [(zB5 p).mem_iff] at this
 cov := fun K hK q => by rw [← zGf (zB5 p)]; exact h.cov K hK q
 area := by rw [← zHi p]; exact h.area
def hinK (K : Int) (T : Tri3) (q : Pt) : Int := cvr K (ways T) q
theorem zJ3 (K : Int) (T : Tri3) (q : Pt) : hinK K T q = crs (sc K T.A) (sc K T.B) q + crs (sc K T.B) (sc K T.C) q + crs (sc K T.C) (sc K T.A) q := by
 simp only [hinK, ways, cvr]; omega
theorem zK9 {K : Int} (hK : 0 < K) {a b c : Pt} (h : 0 < det a b c) : 0 < det (sc K a) (sc K b) (sc K c) := by
 rw [sc_det]; exact Int.mul_pos hK (Int.mul_pos hK h)
theorem hinK_nn {K : Int} (hK : 0 < K) {T : Tri3} (h : 0 < det T.A T.B T.C) (q : Pt) : 0 ≤ hinK K T q ∧ hinK K T q ≤ 1 := by
 rw [zJ3]; exact (zJ2 (zK9 hK h) q).1
theorem cvr_nn {K : Int} (hK : 0 < K) : ∀ {L : List Tri3}, (∀ T ∈ L, 0 < det T.A T.B T.C) → ∀ q, 0 ≤ cvr K (L.flatMap ways) q
 | [], _, q => by simp [cvr]
 | T :: L, h, q => by
  rw [List.flatMap_cons, zC3]
  have := cvr_nn hK (L := L) (fun S hS => h S (by simp [hS])) q
  have := (hinK_nn hK (h T (by simp)) q).1
  unfold hinK at this
  omega
theorem zJa {K : Int} (hK : 0 < K) : ∀ {L : List Tri3}, (∀ T ∈ L, 0 < det T.A T.B T.C) → ∀ q, 0 < cvr K (L.flatMap ways) q → ∃ T ∈ L, 0 < hinK K T q
 | [], _, q, h => by simp [cvr] at h
 | T :: L, h, q, hc => by
  rw [List.flatMap_cons, zC3] at hc
  by_cases hT : 0 < hinK K T q
  ·exact ⟨T, by simp, hT⟩
  ·unfold hinK at hT
   obtain ⟨S, hS, h1⟩ := zJa hK (L := L) (fun S hS => h S (by simp [hS])) q (by omega)
   exact ⟨S, by simp [hS], h1⟩
theorem zEm {α : Type} [DecidableEq α] {L : List α} {a b : α} (ha : a ∈ L) (hb : b ∈ L) (h : a ≠ b) : ∃ M, L.Perm (a :: b :: M) := by
 have h1 := List.perm_cons_erase ha
 have hb' : b ∈ L.erase a := (List.mem_erase_of_ne (fun e => h e.symm)).2 hb
 exact ⟨(L.erase a).erase b, h1.trans ((List.perm_cons_erase hb').cons a)⟩
section
variable {W H : Int} {L : List Tri3} (h : Tiles W H L)
include h
theorem Tiles.apart {S T : Tri3} (hS : S ∈ L) (hT : T ∈ L) (hne : S ≠ T) {K : Int} (hK : 0 < K) (q : Pt) : ¬ (hinK K S q = 1 ∧ hinK K T q = 1) := by
 intro ⟨h1, h2⟩
 obtain ⟨M, hM⟩ := zEm hS hT hne
 have h' := h.perm hM
 have hc := h'.cov K hK q
 rw [List.flatMap_cons, List.flatMap_cons, zC3, zC3] at hc
 have := cvr_nn hK (L := M) (fun U hU => h'.pos U (by simp [hU])) q
 unfold hinK at h1 h2
 have : sqr (K * W) (K * H) q ≤ 1 := by unfold sqr; split <;> omega
 omega
end
def near3 (M : Int) (a b c p v : Pt) : Prop :=
 (0 < det (sc M a) (sc M b) p ∨ (det (sc M a) (sc M b) p = 0 ∧ 0 < crd a b v)) ∧
 (0 < det (sc M b) (sc M c) p ∨ (det (sc M b) (sc M c) p = 0 ∧ 0 < crd b c v)) ∧
 (0 < det (sc M c) (sc M a) p ∨ (det (sc M c) (sc M a) p = 0 ∧ 0 < crd c a v))
def near (M : Int) (T : Tri3) (p v : Pt) : Prop := near3 M T.A T.B T.C p v
theorem zHf {M : Int} {a b c p v : Pt} (h : near3 M a b c p v) : near3 M b c a p v := ⟨h.2.1, h.2.2, h.1⟩
theorem zHc {M K d c e : Int} (hM : 0 < M) (hK : 0 < K) (h : 0 < d ∨ (d = 0 ∧ 0 < c)) (hc : e = K * (K * d + M * c)) (hb : M * c + K > 0) : 0 < e := by
 rw [hc]
 refine Int.mul_pos hK ?_
 rcases h with h | ⟨h, k⟩
 ·have : K ≤ K * d := by
     have k0 : 0 ≤ K * (d - 1) := Int.mul_nonneg (by omega) (by omega)
     rw [Int.mul_sub, Int.mul_one] at k0
     omega
  omega
 ·rw [h, Int.mul_zero, Int.zero_add]; exact Int.mul_pos hM k
theorem zDy (M K : Int) (a b p v : Pt) : det (sc (K * M) a) (sc (K * M) b) ⟨K * p.x + v.x, K * p.y + v.y⟩ = K * (K * det (sc M a) (sc M b) p + M * crd a b v) := by unfold det sc crd; grind
def big (M : Int) (T : Tri3) (v : Pt) : Int := (M * crd T.A T.B v).natAbs + (M * crd T.B T.C v).natAbs + (M * crd T.C T.A v).natAbs
theorem zJt {M : Int} (hM : 0 < M) {T : Tri3} {p v : Pt} (hp : 0 < det T.A T.B T.C) (hn : near M T p v) {K : Int} (hK : big M T v < K) : hinK (K * M) T ⟨K * p.x + v.x, K * p.y + v.y⟩ = 1 := by
 obtain ⟨h1, h2, h3⟩ := hn
 unfold big at hK
 have hK0 : 0 < K := by omega
 rw [zJ3]
 refine (zJ2 (zK9 (Int.mul_pos hK0 hM) hp) _).2.2 ?_ ?_ ?_
 ·exact zHc hM hK0 h1 (zDy M K _ _ p v) (by omega)
 ·exact zHc hM hK0 h2 (zDy M K _ _ p v) (by omega)
 ·exact zHc hM hK0 h3 (zDy M K _ _ p v) (by omega)
theorem Tiles.same {W H : Int} {L : List Tri3} (h : Tiles W H L) {S T : Tri3} (hS : S ∈ L) (hT : T ∈ L) {M : Int} (hM : 0 < M) {p v : Pt} (h1 : near M S p v) (h2 : near M T p v) : S = T := by
 refine Decidable.byContradiction fun hne => ?_
 have hK : 0 < big M S v + big M T v + 1 := by unfold big; omega
 exact h.apart hS hT hne (Int.mul_pos hK hM) _ ⟨zJt hM (h.pos S hS) h1 (by unfold big; omega), zJt hM (h.pos T hT) h2 (by unfold big; omega)⟩
theorem zIf (p : Pt) : sc 1 p = p := by rw [Pt.eq_iff]; simp [sc]
def Cyc (T : Tri3) (a b c : Pt) : Prop := (a = T.A ∧ b = T.B ∧ c = T.C) ∨ (a = T.B ∧ b = T.C ∧ c = T.A) ∨ (a = T.C ∧ b = T.A ∧ c = T.B)
theorem Cyc.refl (T : Tri3) : Cyc T T.A T.B T.C := .inl ⟨rfl, rfl, rfl⟩
theorem Cyc.turn {T : Tri3} {a b c : Pt} (h : Cyc T a b c) : Cyc T b c a := by
 rcases h with ⟨h1, h2, h3⟩ | ⟨h1, h2, h3⟩ | ⟨h1, h2, h3⟩
 ·exact .inr (.inl ⟨h2, h3, h1⟩)
 ·exact .inr (.inr ⟨h2, h3, h1⟩)
 ·exact .inl ⟨h2, h3, h1⟩
theorem Cyc.det {T : Tri3} {a b c : Pt} (h : Cyc T a b c) : det a b c = det T.A T.B T.C := by
 rcases h with ⟨rfl, rfl, rfl⟩ | ⟨rfl, rfl, rfl⟩ | ⟨rfl, rfl, rfl⟩
 ·rfl
 ·rw [zAv]
 ·rw [zAv, zAv]
theorem Cyc.near {T : Tri3} {a b c : Pt} (h : Cyc T a b c) {M : Int} {p v : Pt} (hn : near3 M a b c p v) : near M T p v := by
 rcases h with ⟨rfl, rfl, rfl⟩ | ⟨rfl, rfl, rfl⟩ | ⟨rfl, rfl, rfl⟩
 ·exact hn
 ·exact zHf (zHf hn)
 ·exact zHf hn
theorem Cyc.ways {T : Tri3} {a b c : Pt} (h : Cyc T a b c) : (ways T).Perm [(a, b), (b, c), (c, a)] := by
 rcases h with ⟨rfl, rfl, rfl⟩ | ⟨rfl, rfl, rfl⟩ | ⟨rfl, rfl, rfl⟩
 ·exact .refl _
 ·exact List.perm_append_comm (l₁ := [(T.A, T.B)]) (l₂ := [(T.B, T.C), (T.C, T.A)])
 ·exact List.perm_append_comm (l₁ := [(T.A, T.B), (T.B, T.C)]) (l₂ := [(T.C, T.A)])
theorem Cyc.way {T : Tri3} {a b c : Pt} (h : Cyc T a b c) : (a, b) ∈ Go.Proofs.YtmobnmjjmafibaaGreat.ways T := h.ways.mem_iff.2 (by simp)
theorem zDd {T : Tri3} {a b : Pt} (h : (a, b) ∈ ways T) : ∃ c, Cyc T a b c := by
 simp only [ways, List.mem_cons, Prod.mk.injEq, List.not_mem_nil, or_false] at h
 rcases h with ⟨rfl, rfl⟩ | ⟨rfl, rfl⟩ | ⟨rfl, rfl⟩
 ·exact ⟨_, .inl ⟨rfl, rfl, rfl⟩⟩
 ·exact ⟨_, .inr (.inl ⟨rfl, rfl, rfl⟩)⟩
 ·exact ⟨_, .inr (.inr ⟨rfl, rfl, rfl⟩)⟩
def isCnr (T : Tri3) (p : Pt) : Prop := p = T.A ∨ p = T.B ∨ p = T.C
theorem cnr_cyc {T : Tri3} {p : Pt} (h : isCnr T p) : ∃ b c, Cyc T p b c := by
 rcases h with rfl | rfl | rfl
 ·exact ⟨_, _, .inl ⟨rfl, rfl, rfl⟩⟩
 ·exact ⟨_, _, .inr (.inl ⟨rfl, rfl, rfl⟩)⟩
 ·exact ⟨_, _, .inr (.inr ⟨rfl, rfl, rfl⟩)⟩
theorem Cyc.cnr {T : Tri3} {a b c : Pt} (h : Cyc T a b c) : isCnr T a := by
 rcases h with ⟨h, _⟩ | ⟨h, _⟩ | ⟨h, _⟩
 ·exact .inl h
 ·exact .inr (.inl h)
 ·exact .inr (.inr h)
theorem Cyc.cnr_iff {T : Tri3} {a b c : Pt} (h : Cyc T a b c) (p : Pt) : isCnr T p ↔ p = a ∨ p = b ∨ p = c := by
 unfold isCnr
 rcases h with ⟨rfl, rfl, rfl⟩ | ⟨rfl, rfl, rfl⟩ | ⟨rfl, rfl, rfl⟩ <;> constructor <;> (rintro (h | h | h) <;> simp [h])
def hasT (T : Tri3) (p : Pt) : Prop := 0 ≤ det T.A T.B p ∧ 0 ≤ det T.B T.C p ∧ 0 ≤ det T.C T.A p
def insT (T : Tri3) (p : Pt) : Prop := 0 < det T.A T.B p ∧ 0 < det T.B T.C p ∧ 0 < det T.C T.A p
def edg (a b c p : Pt) : Prop := det a b p = 0 ∧ 0 < det b c p ∧ 0 < det c a p
theorem zI0 {T : Tri3} {p : Pt} (hp : 0 < det T.A T.B T.C) (h : hasT T p) : isCnr T p ∨ insT T p ∨ ∃ a b c, Cyc T a b c ∧ edg a b c p := by
 obtain ⟨h1, h2, h3⟩ := h
 have hs := zEh T.A T.B T.C p
 have hp2 : 0 < det T.B T.C T.A := by rw [zAv]; exact hp
 have hp3 : 0 < det T.C T.A T.B := by rw [zAv, zAv]; exact hp
 by_cases e1 : det T.A T.B p = 0 <;> by_cases e2 : det T.B T.C p = 0 <;> by_cases e3 : det T.C T.A p = 0
 ·omega
 ·exact .inl (.inr (.inl ((corner0 p hp2).2 ⟨e2, e1⟩)))
 ·exact .inl (.inl ((corner0 p hp).2 ⟨e1, e3⟩))
 ·exact .inr (.inr ⟨_, _, _, .inl ⟨rfl, rfl, rfl⟩, e1, by omega, by omega⟩)
 ·exact .inl (.inr (.inr ((corner0 p hp3).2 ⟨e3, e2⟩)))
 ·exact .inr (.inr ⟨_, _, _, .inr (.inl ⟨rfl, rfl, rfl⟩), e2, by omega, by omega⟩)
 ·exact .inr (.inr ⟨_, _, _, .inr (.inr ⟨rfl, rfl, rfl⟩), e3, by omega, by omega⟩)
 ·exact .inr (.inl ⟨by omega, by omega, by omega⟩)
theorem near_ins {T : Tri3} {p : Pt} (h : insT T p) (v : Pt) : near 1 T p v := by
 unfold near near3
 simp only [zIf]
 exact ⟨.inl h.1, .inl h.2.1, .inl h.2.2⟩
theorem near_has {T : Tri3} {p : Pt} (hp : 0 < det T.A T.B T.C) (h : hasT T p) : near 1 T p ⟨T.A.x + T.B.x + T.C.x - 3 * p.x, T.A.y + T.B.y + T.C.y - 3 * p.y⟩ := by
 unfold near near3
 simp only [zIf]
 have e1 : crd T.A T.B ⟨T.A.x + T.B.x + T.C.x - 3 * p.x, T.A.y + T.B.y + T.C.y - 3 * p.y⟩ = det T.A T.B T.C - 3 * det T.A T.B p := by unfold crd det; grind
 have e2 : crd T.B T.C ⟨T.A.x + T.B.x + T.C.x - 3 * p.x, T.A.y + T.B.y + T.C.y - 3 * p.y⟩ = det T.A T.B T.C - 3 * det T.B T.C p := by unfold crd det; grind
 have e3 : crd T.C T.A ⟨T.A.x + T.B.x + T.C.x - 3 * p.x, T.A.y + T.B.y + T.C.y - 3 * p.y⟩ = det T.A T.B T.C - 3 * det T.C T.A p := by unfold crd det; grind
 rw [e1, e2, e3]
 obtain ⟨h1, h2, h3⟩ := h
 omega
theorem zG6 {a b c p v : Pt} (h : edg a b c p) (hv : 0 < crd a b v) : near3 1 a b c p v := by
 unfold near3
 simp only [zIf]
 exact ⟨.inr ⟨h.1, hv⟩, .inl h.2.1, .inl h.2.2⟩
section
variable {W H : Int} {L : List Tri3} (h : Tiles W H L)
include h
theorem Tiles.ins_one {S T : Tri3} (hS : S ∈ L) (hT : T ∈ L) {p : Pt} (h1 : insT S p) (h2 : hasT T p) : S = T :=
 h.same hS hT (M := 1) (by omega) (near_ins h1 _) (near_has (h.pos T hT) h2)
end
theorem sq_nn (x : Int) : 0 ≤ x * x := by
 rcases Int.le_total 0 x with h | h
 ·exact Int.mul_nonneg h h
 ·exact Int.mul_nonneg_of_nonpos_of_nonpos h h
theorem zFc {a b d e : Pt} (hab : a ≠ b) (h : ¬ (crd a b ⟨e.x - d.x, e.y - d.y⟩ = 0 ∧ (b.x - a.x) * (e.x - d.x) + (b.y - a.y) * (e.y - d.y) ≤ 0)) : ∃ v, 0 < crd a b v ∧ 0 < crd d e v := by
 rcases Int.lt_trichotomy (crd a b ⟨e.x - d.x, e.y - d.y⟩) 0 with k | k | k
 ·refine ⟨⟨(b.x - a.x) - (e.x - d.x), (b.y - a.y) - (e.y - d.y)⟩, ?_, ?_⟩
  ·have : crd a b ⟨(b.x - a.x) - (e.x - d.x), (b.y - a.y) - (e.y - d.y)⟩ = - crd a b ⟨e.x - d.x, e.y - d.y⟩ := by unfold crd; grind
   omega
  ·have : crd d e ⟨(b.x - a.x) - (e.x - d.x), (b.y - a.y) - (e.y - d.y)⟩ = - crd a b ⟨e.x - d.x, e.y - d.y⟩ := by unfold crd; grind
   omega
 ·refine ⟨⟨-(b.y - a.y), b.x - a.x⟩, ?_, ?_⟩
  ·have e1 : crd a b ⟨-(b.y - a.y), b.x - a.x⟩ = (b.x - a.x) * (b.x - a.x) + (b.y - a.y) * (b.y - a.y) := by unfold crd; grind
   rw [e1]
   have s1 := sq_nn (b.x - a.x)
   have s2 := sq_nn (b.y - a.y)
   rcases Int.lt_or_eq_of_le s1 with s | s
   ·omega
   rcases Int.lt_or_eq_of_le s2 with t | t
   ·omega
   exfalso
   apply hab
   rw [Pt.eq_iff]
   have := Int.mul_eq_zero.1 s.symm
   have := Int.mul_eq_zero.1 t.symm
   omega
  ·have : crd d e ⟨-(b.y - a.y), b.x - a.x⟩ = (b.x - a.x) * (e.x - d.x) + (b.y - a.y) * (e.y - d.y) := by unfold crd; grind
   rw [this]
   omega
 ·refine ⟨⟨(e.x - d.x) - (b.x - a.x), (e.y - d.y) - (b.y - a.y)⟩, ?_, ?_⟩
  ·have : crd a b ⟨(e.x - d.x) - (b.x - a.x), (e.y - d.y) - (b.y - a.y)⟩ = crd a b ⟨e.x - d.x, e.y - d.y⟩ := by unfold crd; grind
   omega
  ·have : crd d e ⟨(e.x - d.x) - (b.x - a.x), (e.y - d.y) - (b.y - a.y)⟩ = crd a b ⟨e.x - d.x, e.y - d.y⟩ := by unfold crd; grind
   omega
theorem zF6 {a b c : Pt} (h : 0 < det a b c) : a ≠ b := by
 rintro rfl
 have : det a a c = 0 := by unfold det; grind
 omega
theorem zDt {a b c p x : Pt} (hc : 0 < det a b c) (hx : 0 < det b a x) (h : edg a b c p) : edg b a x p := by
 obtain ⟨h1, h2, h3⟩ := h
 have e1 : det a b c * det a x p = det c a p * det b a x + det a b p * det a x c := by unfold det; grind
 have e2 : det a b c * det x b p = det b c p * det b a x - det a b p * det b x c := by unfold det; grind
 rw [h1, Int.zero_mul] at e1 e2
 refine ⟨by rw [zBw]; omega, ?_, ?_⟩
 ·exact (zAy hc).1 (by rw [e1]; have := Int.mul_pos h3 hx; omega)
 ·exact (zAy hc).1 (by rw [e2]; have := Int.mul_pos h2 hx; omega)
theorem crd_zero_edge {a b d e p : Pt} (hde : d ≠ e) (h2 : det d e p = 0) (hk : crd a b ⟨e.x - d.x, e.y - d.y⟩ = 0) (h1 : det a b p = 0) : det a b d = 0 ∧ det a b e = 0 := by
 have e1 : det a b e = det a b d + crd a b ⟨e.x - d.x, e.y - d.y⟩ := by unfold det crd; grind
 have e2 : det a b d * (e.x - d.x) - crd a b ⟨e.x - d.x, e.y - d.y⟩ * (d.x - p.x) + (b.x - a.x) * det d e p = det a b p * (e.x - d.x) := by unfold det crd; grind
 have e3 : det a b d * (e.y - d.y) - crd a b ⟨e.x - d.x, e.y - d.y⟩ * (d.y - p.y) + (b.y - a.y) * det d e p = det a b p * (e.y - d.y) := by unfold det crd; grind
 rw [h1, h2, hk] at e2 e3
 simp only [Int.zero_mul, Int.mul_zero, Int.add_zero, Int.sub_zero] at e2 e3
 have z : det a b d = 0 := by
  rcases Int.mul_eq_zero.1 e2 with k | k
  ·exact k
  ·rcases Int.mul_eq_zero.1 e3 with k' | k'
   ·exact k'
   ·exact absurd (Pt.eq_iff.2 ⟨by omega, by omega⟩) hde
 exact ⟨z, by omega⟩
theorem zJr {W H : Int} {a b c d e f p : Pt} (hr : onRim W H a b) (hab : 0 < det a b c) (hc : inBox W H c) (hf : inBox W H f) (hde : 0 < det d e f) (h1 : det a b p = 0) (h2 : det d e p = 0) (hk : crd a b ⟨e.x - d.x, e.y - d.y⟩ = 0) (hd : (b.x - a.x) * (e.x - d.x) + (b.y - a.y) * (e.y - d.y) ≤ 0) : False := by
 obtain ⟨z1, z2⟩ := crd_zero_edge (zF6 hde) h2 hk h1
 unfold inBox at hc hf
 have nde := zF6 hde
 unfold det at hab hde z1 z2
 clear h1 h2 hk
 rcases hr with ⟨r1, r2⟩ | ⟨r1, r2⟩ | ⟨r1, r2⟩ | ⟨r1, r2⟩
 all_goals (rw [r1, r2] at hab z1 z2 hd; simp only [Int.sub_self, Int.zero_mul, Int.zero_sub, Int.zero_add] at hab z1 z2 hd)
 ·have ya : b.y - a.y ≠ 0 := fun e => by rw [e] at hab; simp at hab
  have xd : d.x = 0 := by
   rcases Int.mul_eq_zero.1 (Int.neg_eq_zero.1 z1) with k | k <;> omega
  have xe : e.x = 0 := by
   rcases Int.mul_eq_zero.1 (Int.neg_eq_zero.1 z2) with k | k <;> omega
  rw [xd, xe] at hde
  simp only [Int.sub_self, Int.zero_mul, Int.zero_sub, Int.sub_zero] at hde hab
  have n1 : b.y - a.y < 0 := by
   refine Decidable.byContradiction fun k => ?_
   have := Int.mul_nonneg (a := b.y - a.y) (b := c.x) (by omega) (by omega)
   omega
  have n2 : e.y - d.y < 0 := by
   refine Decidable.byContradiction fun k => ?_
   have := Int.mul_nonneg (a := e.y - d.y) (b := f.x) (by omega) (by omega)
   omega
  have := Int.mul_pos_of_neg_of_neg n1 n2
  omega
 ·have ya : b.y - a.y ≠ 0 := fun e => by rw [e] at hab; simp at hab
  have xd : d.x = W := by
   rcases Int.mul_eq_zero.1 (Int.neg_eq_zero.1 z1) with k | k <;> omega
  have xe : e.x = W := by
   rcases Int.mul_eq_zero.1 (Int.neg_eq_zero.1 z2) with k | k <;> omega
  rw [xd, xe] at hde
  simp only [Int.sub_self, Int.zero_mul, Int.zero_sub] at hde hab
  have n1 : 0 < b.y - a.y := by
   refine Decidable.byContradiction fun k => ?_
   have := Int.mul_nonneg_of_nonpos_of_nonpos (a := b.y - a.y) (b := c.x - W) (by omega) (by omega)
   omega
  have n2 : 0 < e.y - d.y := by
   refine Decidable.byContradiction fun k => ?_
   have := Int.mul_nonneg_of_nonpos_of_nonpos (a := e.y - d.y) (b := f.x - W) (by omega) (by omega)
   omega
  have := Int.mul_pos n1 n2
  omega
 ·simp only [Int.sub_zero, Int.add_zero] at hab z1 z2 hd
  have ya : b.x - a.x ≠ 0 := fun e => by rw [e] at hab; simp at hab
  have xd : d.y = 0 := by
   rcases Int.mul_eq_zero.1 z1 with k | k <;> omega
  have xe : e.y = 0 := by
   rcases Int.mul_eq_zero.1 z2 with k | k <;> omega
  rw [xd, xe] at hde
  simp only [Int.sub_self, Int.zero_mul, Int.sub_zero] at hde
  have n1 : 0 < b.x - a.x := by
   refine Decidable.byContradiction fun k => ?_
   have := Int.mul_nonneg (a := -(b.x - a.x)) (b := c.y) (by omega) (by omega)
   rw [Int.neg_mul] at this; omega
  have n2 : 0 < e.x - d.x := by
   refine Decidable.byContradiction fun k => ?_
   have := Int.mul_nonneg (a := -(e.x - d.x)) (b := f.y) (by omega) (by omega)
   rw [Int.neg_mul] at this; omega
  have := Int.mul_pos n1 n2
  omega
 ·simp only [Int.sub_zero, Int.add_zero] at hab z1 z2 hd
  have ya : b.x - a.x ≠ 0 := fun e => by rw [e] at hab; simp at hab
  have xd : d.y = H := by
   rcases Int.mul_eq_zero.1 z1 with k | k <;> omega
  have xe : e.y = H := by
   rcases Int.mul_eq_zero.1 z2 with k | k <;> omega
  rw [xd, xe] at hde
  simp only [Int.sub_self, Int.zero_mul, Int.sub_zero] at hde
  have n1 : b.x - a.x < 0 := by
   refine Decidable.byContradiction fun k => ?_
   have := Int.mul_nonneg (a := b.x - a.x) (b := H - c.y) (by omega) (by omega)
   have e : (b.x - a.x) * (H - c.y) = - ((b.x - a.x) * (c.y - H)) := by grind
   omega
  have n2 : e.x - d.x < 0 := by
   refine Decidable.byContradiction fun k => ?_
   have := Int.mul_nonneg (a := e.x - d.x) (b := H - f.y) (by omega) (by omega)
   have e : (e.x - d.x) * (H - f.y) = - ((e.x - d.x) * (f.y - H)) := by grind
   omega
  have := Int.mul_pos_of_neg_of_neg n1 n2
  omega
section
variable {W H : Int} {L : List Tri3} (h : Tiles W H L)
include h
omit h in
theorem zG7 {T : Tri3} {a b : Pt} (hT : T ∈ L) (hw : (a, b) ∈ ways T) : (a, b) ∈ L.flatMap ways := List.mem_flatMap.2 ⟨T, hT, hw⟩
theorem Tiles.cyc_pos {T : Tri3} {a b c : Pt} (hT : T ∈ L) (hc : Cyc T a b c) : 0 < det a b c := by rw [hc.det]; exact h.pos T hT
theorem Tiles.cyc_box {T : Tri3} {a b c : Pt} (hT : T ∈ L) (hc : Cyc T a b c) : inBox W H a := by
 have := h.box T hT
 rcases hc with ⟨rfl, _⟩ | ⟨rfl, _⟩ | ⟨rfl, _⟩
 ·exact this.1
 ·exact this.2.1
 ·exact this.2.2
theorem Tiles.edg_two {S T : Tri3} (hS : S ∈ L) (hT : T ∈ L) {a b c p : Pt} (hc : Cyc S a b c) (hp : edg a b c p) (hh : hasT T p) (hn : ¬ isCnr T p) : T = S ∨ ((b, a) ∈ ways T ∧ ¬ onRim W H a b) := by
 have pS := h.cyc_pos hS hc
 rcases zI0 (h.pos T hT) hh with k | k | ⟨d, e, f, hd, k⟩
 ·exact absurd k hn
 ·obtain ⟨q1, q2, q3⟩ := hp
  have hv : hasT S p := by
   unfold hasT
   rcases hc with ⟨rfl, rfl, rfl⟩ | ⟨rfl, rfl, rfl⟩ | ⟨rfl, rfl, rfl⟩ <;> omega
  exact .inl (h.ins_one hT hS k hv)
 ·have pT := h.cyc_pos hT hd
  by_cases hg : crd a b ⟨e.x - d.x, e.y - d.y⟩ = 0 ∧ (b.x - a.x) * (e.x - d.x) + (b.y - a.y) * (e.y - d.y) ≤ 0
  ·rcases h.rim (a, b) (zG7 hS hc.way) with hr | hr
   ·obtain ⟨U, hU, hw⟩ := List.mem_flatMap.1 hr
    obtain ⟨x, hx⟩ := zDd hw
    have pU := h.cyc_pos hU hx
    have hpU := zDt pS pU hp
    have hg' : ¬ (crd b a ⟨e.x - d.x, e.y - d.y⟩ = 0 ∧ (a.x - b.x) * (e.x - d.x) + (a.y - b.y) * (e.y - d.y) ≤ 0) := by
     intro ⟨g1, g2⟩
     have e1 : (a.x - b.x) * (e.x - d.x) + (a.y - b.y) * (e.y - d.y) = - ((b.x - a.x) * (e.x - d.x) + (b.y - a.y) * (e.y - d.y)) := by grind
     have z0 : (b.x - a.x) * (e.x - d.x) + (b.y - a.y) * (e.y - d.y) = 0 := by omega
     have g0 := hg.1
     have i1 : ((b.x - a.x) * (b.x - a.x) + (b.y - a.y) * (b.y - a.y)) * (e.x - d.x) = (b.x - a.x) * ((b.x - a.x) * (e.x - d.x) + (b.y - a.y) * (e.y - d.y)) - (b.y - a.y) * crd a b ⟨e.x - d.x, e.y - d.y⟩ := by unfold crd; grind
     have i2 : ((b.x - a.x) * (b.x - a.x) + (b.y - a.y) * (b.y - a.y)) * (e.y - d.y) = (b.y - a.y) * ((b.x - a.x) * (e.x - d.x) + (b.y - a.y) * (e.y - d.y)) + (b.x - a.x) * crd a b ⟨e.x - d.x, e.y - d.y⟩ := by unfold crd; grind
     rw [z0, g0] at i1 i2
     simp only [Int.mul_zero, Int.sub_zero, Int.add_zero] at i1 i2
     have s1 := sq_nn (b.x - a.x)
     have s2 := sq_nn (b.y - a.y)
     have hab := zF6 pS
     have nz : ¬ (b.x - a.x) * (b.x - a.x) + (b.y - a.y) * (b.y - a.y) = 0 := by
      intro z
      apply hab
      rw [Pt.eq_iff]
      have u1 := Int.mul_eq_zero.1 (show (b.x - a.x) * (b.x - a.x) = 0 by omega)
      have u2 := Int.mul_eq_zero.1 (show (b.y - a.y) * (b.y - a.y) = 0 by omega)
      omega
     have u1 := (Int.mul_eq_zero.1 i1).resolve_left nz
     have u2 := (Int.mul_eq_zero.1 i2).resolve_left nz
     exact zF6 pT (Pt.eq_iff.2 ⟨by omega, by omega⟩)
    obtain ⟨v, v1, v2⟩ := zFc (zF6 pS).symm hg'
    have hUT := h.same hU hT (M := 1) (by omega) (hx.near (zG6 hpU v1)) (hd.near (zG6 k v2))
    by_cases hr' : onRim W H a b
    ·exact (zJr hr' pS (h.cyc_box hS hc.turn.turn) (h.cyc_box hT hd.turn.turn) pT hp.1 k.1 hg.1 hg.2).elim
    ·exact .inr ⟨hUT ▸ hw, hr'⟩
   ·exact (zJr hr pS (h.cyc_box hS hc.turn.turn) (h.cyc_box hT hd.turn.turn) pT hp.1 k.1 hg.1 hg.2).elim
  ·obtain ⟨v, v1, v2⟩ := zFc (zF6 pS) hg
   exact .inl (h.same hS hT (M := 1) (by omega) (hc.near (zG6 hp v1)) (hd.near (zG6 k v2))).symm
end
theorem flat_one {L : List Tri3} (h : (L.flatMap ways).Nodup) {S T : Tri3} (hS : S ∈ L) (hT : T ∈ L) {w : Pt × Pt} (h1 : w ∈ ways S) (h2 : w ∈ ways T) : S = T := by
 refine Decidable.byContradiction fun hne => ?_
 obtain ⟨M, hM⟩ := zEm hS hT hne
 have h' := (zB5 hM).nodup_iff.1 h
 rw [List.flatMap_cons, List.flatMap_cons, List.nodup_append] at h'
 exact h'.2.2 w h1 w (List.mem_append_left _ h2) rfl
theorem near_cnr {p x y : Pt} (hp : 0 < det p x y) {s t : Int} (hs : 0 < s) (ht : 0 < t) : near3 1 p x y p ⟨s * (x.x - p.x) + t * (y.x - p.x), s * (x.y - p.y) + t * (y.y - p.y)⟩ := by
 unfold near3
 simp only [zIf]
 refine ⟨.inr ⟨by unfold det; grind, ?_⟩, .inl (by rw [zAv]; exact hp), .inr ⟨by unfold det; grind, ?_⟩⟩
 ·have e : crd p x ⟨s * (x.x - p.x) + t * (y.x - p.x), s * (x.y - p.y) + t * (y.y - p.y)⟩ = t * det p x y := by unfold crd det; grind
  rw [e]; exact Int.mul_pos ht hp
 ·have e : crd y p ⟨s * (x.x - p.x) + t * (y.x - p.x), s * (x.y - p.y) + t * (y.y - p.y)⟩ = s * det p x y := by unfold crd det; grind
  rw [e]; exact Int.mul_pos hs hp
theorem zJc (a b p x y : Pt) (s t : Int) : crd a b ⟨s * (x.x - p.x) + t * (y.x - p.x), s * (x.y - p.y) + t * (y.y - p.y)⟩ = s * crd a b ⟨x.x - p.x, x.y - p.y⟩ + t * crd a b ⟨y.x - p.x, y.y - p.y⟩ := by unfold crd; grind
section
variable {W H : Int} {L : List Tri3} (h : Tiles W H L)
include h
end
def hasM (M : Int) (T : Tri3) (p : Pt) : Prop := 0 ≤ det (sc M T.A) (sc M T.B) p ∧ 0 ≤ det (sc M T.B) (sc M T.C) p ∧ 0 ≤ det (sc M T.C) (sc M T.A) p
theorem hasM_one (T : Tri3) (p : Pt) : hasM 1 T p ↔ hasT T p := by unfold hasM hasT; simp only [zIf]
def bigs (M : Int) (v : Pt) : List Tri3 → Int
 | [] => 0
 | T :: L => big M T v + bigs M v L
theorem zK6 (M : Int) (v : Pt) : ∀ {L : List Tri3} {T : Tri3}, T ∈ L → big M T v ≤ bigs M v L
 | S :: L, T, h => by
  have p : ∀ l : List Tri3, 0 ≤ bigs M v l := fun l => by
   induction l with
   | nil => exact Int.le_refl 0
   | cons U l ih => unfold bigs big; omega
  unfold bigs
  rcases List.mem_cons.1 h with rfl | h
  ·have := p L; omega
  ·have := zK6 M v h
   unfold big at *; omega
theorem zIn {M K d c : Int} (hK : 0 < K) (hb : (M * c).natAbs < K) (h : 0 ≤ K * (K * d + M * c)) : 0 ≤ d := by
 have h1 := (zB9 hK).1 h
 refine Decidable.byContradiction fun hd => ?_
 have := Int.mul_nonneg (a := K) (b := -1 - d) (by omega) (by omega)
 have e : K * (-1 - d) = -K - K * d := by grind
 omega
theorem Tiles.covM {W H : Int} {L : List Tri3} (h : Tiles W H L) (hW : 0 < W) (hH : 0 < H) {M : Int} (hM : 0 < M) {p : Pt} (hp : inBox (M * W) (M * H) p) : ∃ T ∈ L, hasM M T p := by
 have mW := Int.mul_pos hM hW
 have mH := Int.mul_pos hM hH
 let v : Pt := ⟨M * W - 2 * p.x, M * H - 2 * p.y⟩
 let K : Int := 2 + bigs M v L
 have p0 : ∀ l : List Tri3, 0 ≤ bigs M v l := fun l => by
  induction l with
  | nil => exact Int.le_refl 0
  | cons U l ih => unfold bigs big; omega
 have hK2 : 2 ≤ K := by have := p0 L; omega
 have hc := h.cov (K * M) (Int.mul_pos (by omega) hM) ⟨K * p.x + v.x, K * p.y + v.y⟩
 have hs : sqr (K * M * W) (K * M * H) ⟨K * p.x + v.x, K * p.y + v.y⟩ = 1 := by
  unfold sqr
  obtain ⟨⟨h1, h2⟩, h3, h4⟩ := hp
  have i1 : K * p.x + v.x = (K - 2) * p.x + M * W := by show K * p.x + (M * W - 2 * p.x) = _; rw [Int.sub_mul]; omega
  have i2 : K * p.y + v.y = (K - 2) * p.y + M * H := by show K * p.y + (M * H - 2 * p.y) = _; rw [Int.sub_mul]; omega
  have j1 := Int.mul_nonneg (a := K - 2) (b := p.x) (by omega) h1
  have j2 := Int.mul_nonneg (a := K - 2) (b := p.y) (by omega) h3
  have j3 := Int.mul_le_mul_of_nonneg_left (c := K - 2) h2 (by omega)
  have j4 := Int.mul_le_mul_of_nonneg_left (c := K - 2) h4 (by omega)
  have l1 : K * M * W = (K - 2) * (M * W) + 2 * (M * W) := by grind
  have l2 : K * M * H = (K - 2) * (M * H) + 2 * (M * H) := by grind
  rw [if_pos]
  show (0 ≤ K * p.x + v.x ∧ K * p.x + v.x < K * M * W) ∧ 0 ≤ K * p.y + v.y ∧ K * p.y + v.y < K * M * H
  rw [i1, i2, l1, l2]
  omega
 rw [hs] at hc
 obtain ⟨T, hT, h1⟩ := zJa (K := K * M) (Int.mul_pos (by omega) hM) h.pos _ (by rw [hc]; omega)
 rw [zJ3] at h1
 have h2 := (zJ2 (zK9 (Int.mul_pos (show 0 < K by omega) hM) (h.pos T hT)) _).2.1 h1
 rw [zDy, zDy, zDy] at h2
 have hb := zK6 M v hT
 refine ⟨T, hT, ?_, ?_, ?_⟩
 ·exact zIn (K := K) (by omega) (by unfold big at hb; omega) h2.1
 ·exact zIn (K := K) (by omega) (by unfold big at hb; omega) h2.2.1
 ·exact zIn (K := K) (by omega) (by unfold big at hb; omega) h2.2.2
theorem Tiles.covers {W H : Int} {L : List Tri3} (h : Tiles W H L) (hW : 0 < W) (hH : 0 < H) {p : Pt} (hp : inBox W H p) : ∃ T ∈ L, hasT T p := by
 obtain ⟨T, hT, k⟩ := h.covM hW hH (M := 1) (by omega) (p := p) (by simpa using hp)
 exact ⟨T, hT, (hasM_one T p).1 k⟩
theorem onRim_swap {W H : Int} {a b : Pt} (h : onRim W H a b) : onRim W H b a := by unfold onRim at *; omega
theorem Tiles.change {W H : Int} {L Out In M : List Tri3} (h : Tiles W H L) (hL : L.Perm (Out ++ M)) {rem add keep : List (Pt × Pt)}
    (ho : (Out.flatMap ways).Perm (rem ++ keep)) (hi : (In.flatMap ways).Perm (add ++ keep)) (hn : add.Nodup) (hf : ∀ w ∈ add, w ∉ L.flatMap ways)
    (ha : ∀ w ∈ add, (w.2, w.1) ∈ add ∨ onRim W H w.1 w.2) (hr : ∀ w ∈ rem, (w.2, w.1) ∈ rem ∨ onRim W H w.1 w.2)
    (hc : ∀ K, 0 < K → ∀ q, cvr K add q = cvr K rem q) (hA : sumA In = sumA Out) (hp : ∀ T ∈ In, 0 < det T.A T.B T.C) (hb : ∀ T ∈ In, inBox W H T.A ∧ inBox W H T.B ∧ inBox W H T.C) : Tiles W H (In ++ M) := by
 have h0 := h.perm hL
 have o1 : ((Out ++ M).flatMap ways).Perm (rem ++ (keep ++ M.flatMap ways)) := by
  rw [List.flatMap_append, ← List.append_assoc]; exact ho.append_right _
 have i1 : ((In ++ M).flatMap ways).Perm (add ++ (keep ++ M.flatMap ways)) := by
  rw [List.flatMap_append, ← List.append_assoc]; exact hi.append_right _
 have n1 := o1.nodup_iff.1 h0.once
 rw [List.nodup_append] at n1
 have mem0 : ∀ w, w ∈ L.flatMap ways ↔ w ∈ rem ++ (keep ++ M.flatMap ways) := fun w => by rw [(zB5 hL).mem_iff, o1.mem_iff]
 refine ⟨?_, ?_, ?_, ?_, ?_, ?_⟩
 ·intro T hT
  rcases List.mem_append.1 hT with hT | hT
  ·exact hp T hT
  ·exact h0.pos T (List.mem_append_right _ hT)
 ·rw [i1.nodup_iff, List.nodup_append]
  refine ⟨hn, n1.2.1, fun a h1 b h2 e => ?_⟩
  subst e
  exact hf a h1 ((mem0 a).2 (List.mem_append_right _ h2))
 ·intro T hT
  rcases List.mem_append.1 hT with hT | hT
  ·exact hb T hT
  ·exact h0.box T (List.mem_append_right _ hT)
 ·intro w hw
  rw [i1.mem_iff] at hw ⊢
  rcases List.mem_append.1 hw with hw | hw
  ·rcases ha w hw with k | k
   ·exact .inl (List.mem_append_left _ k)
   ·exact .inr k
  ·rcases h.rim w ((mem0 w).2 (List.mem_append_right _ hw)) with k | k
   ·rcases List.mem_append.1 ((mem0 _).1 k) with k | k
    ·rcases hr _ k with g | g
     ·exact absurd rfl (n1.2.2 w g w hw)
     ·exact .inr (onRim_swap g)
    ·exact .inl (List.mem_append_right _ k)
   ·exact .inr k
 ·intro K hK q
  have e0 := h0.cov K hK q
  rw [zGf o1, zC3] at e0
  rw [zGf i1, zC3, hc K hK q]
  exact e0
 ·have e0 := h0.area
  rw [zDx] at e0 ⊢
  rw [hA]; exact e0
theorem Cyc.area {T : Tri3} {a b c : Pt} (h : Cyc T a b c) (L : List Tri3) : sumA (T :: L) = Go.Proofs.YtmobnmjjmafibaaGreat.det a b c + sumA L := by rw [h.det]; rfl
theorem Cyc.box {W H : Int} {T : Tri3} {a b c : Pt} (h : Cyc T a b c) (ha : inBox W H a) (hb : inBox W H b) (hc : inBox W H c) : inBox W H T.A ∧ inBox W H T.B ∧ inBox W H T.C := by
 rcases h with ⟨rfl, rfl, rfl⟩ | ⟨rfl, rfl, rfl⟩ | ⟨rfl, rfl, rfl⟩
 ·exact ⟨ha, hb, hc⟩
 ·exact ⟨hc, ha, hb⟩
 ·exact ⟨hb, hc, ha⟩
theorem Tiles.no_diag {W H : Int} {L : List Tri3} (h : Tiles W H L) {S : Tri3} (hS : S ∈ L) {a b c d : Pt} (hc : Cyc S a b c) (h1 : 0 < det c a d) (h2 : 0 < det d b c) : (d, c) ∉ L.flatMap ways := by
 intro hm
 obtain ⟨T, hT, hw⟩ := List.mem_flatMap.1 hm
 obtain ⟨e, he⟩ := zDd hw
 have pS := h.cyc_pos hS hc
 have pT := h.cyc_pos hT he.turn
 have n1 : d ≠ c := by
  rintro rfl
  have : det d a d = 0 := by unfold det; grind
  omega
 have n2 : d ≠ a := by
  rintro rfl
  have : det c d d = 0 := by unfold det; grind
  omega
 have n3 : d ≠ b := by
  rintro rfl
  have : det d d c = 0 := by unfold det; grind
  omega
 generalize e1 : crd c a ⟨e.x - c.x, e.y - c.y⟩ = u
 generalize e2 : crd b c ⟨e.x - c.x, e.y - c.y⟩ = v
 have f1 : crd c a ⟨d.x - c.x, d.y - c.y⟩ = det c a d := by unfold crd det; grind
 have f2 : crd b c ⟨d.x - c.x, d.y - c.y⟩ = det d b c := by unfold crd det; grind
 let t : Int := 1 + u.natAbs + v.natAbs
 have g1 : t ≤ t * det c a d := by
  have := Int.mul_nonneg (a := t) (b := det c a d - 1) (by omega) (by omega)
  rw [Int.mul_sub] at this; omega
 have g2 : t ≤ t * det d b c := by
  have := Int.mul_nonneg (a := t) (b := det d b c - 1) (by omega) (by omega)
  rw [Int.mul_sub] at this; omega
 have nT := he.turn.near (near_cnr pT (s := 1) (t := t) (by omega) (by omega))
 have nS : near 1 S c ⟨1 * (e.x - c.x) + t * (d.x - c.x), 1 * (e.y - c.y) + t * (d.y - c.y)⟩ := by
  refine hc.turn.turn.near ?_
  unfold near3
  simp only [zIf]
  refine ⟨.inr ⟨by unfold det; grind, ?_⟩, .inl pS, .inr ⟨by unfold det; grind, ?_⟩⟩
  ·rw [zJc, e1, f1]; omega
  ·rw [zJc, e2, f2]; omega
 have hST := h.same hS hT (M := 1) (by omega) nS nT
 have := he.cnr
 rw [← hST, hc.cnr_iff] at this
 rcases this with k | k | k
 ·exact n2 k
 ·exact n3 k
 ·exact n1 k
theorem zGc {α : Type} {a b c d e f : α} : [a, b, c, d, e, f].Perm ([a, d] ++ [b, c, e, f]) := by
 refine List.Perm.cons _ ?_
 exact (List.perm_append_comm (l₁ := [b, c]) (l₂ := [d])).append_right [e, f]
theorem Tiles.flip {W H : Int} {L M : List Tri3} (h : Tiles W H L) {S R U V : Tri3} (hL : L.Perm (S :: R :: M)) {a b c d : Pt} (hS : Cyc S a b c) (hR : Cyc R b a d) (h1 : 0 < det c a d) (h2 : 0 < det d b c) (hU : Cyc U c a d) (hV : Cyc V d b c) : Tiles W H (U :: V :: M) := by
 have mS : S ∈ L := hL.mem_iff.2 (by simp)
 have mR : R ∈ L := hL.mem_iff.2 (by simp)
 have x1 := h.no_diag mS hS h1 h2
 have x2 := h.no_diag mR hR h2 h1
 have n1 : d ≠ c := by
  rintro rfl
  have : det d a d = 0 := by unfold det; grind
  omega
 refine h.change (Out := [S, R]) (In := [U, V]) (M := M) hL (rem := [(a, b), (b, a)]) (add := [(d, c), (c, d)]) (keep := [(b, c), (c, a), (a, d), (d, b)]) ?_ ?_ ?_ ?_ ?_ ?_ ?_ ?_ ?_ ?_
 ·simp only [List.flatMap_cons, List.flatMap_nil, List.append_nil]
  exact (hS.ways.append hR.ways).trans zGc
 ·simp only [List.flatMap_cons, List.flatMap_nil, List.append_nil]
  refine (hU.turn.turn.ways.append hV.turn.turn.ways).trans ?_
  refine zGc.trans ?_
  refine List.Perm.append_left _ ?_
  exact List.perm_append_comm (l₁ := [(c, a), (a, d)]) (l₂ := [(d, b), (b, c)]) |>.trans
   ((List.Perm.swap (b, c) (d, b) [(c, a), (a, d)]).trans (List.Perm.cons _ (List.perm_append_comm (l₁ := [(d, b)]) (l₂ := [(c, a), (a, d)]))))
 ·simp [n1]
 ·intro w hw
  simp only [List.mem_cons, List.not_mem_nil, or_false] at hw
  rcases hw with rfl | rfl
  ·exact x1
  ·exact x2
 ·intro w hw
  simp only [List.mem_cons, List.not_mem_nil, or_false] at hw
  rcases hw with rfl | rfl <;> simp
 ·intro w hw
  simp only [List.mem_cons, List.not_mem_nil, or_false] at hw
  rcases hw with rfl | rfl <;> simp
 ·intro K hK q
  simp only [cvr]
  have e1 := zBl (sc K c) (sc K d) q
  have e2 := zBl (sc K a) (sc K b) q
  omega
 ·rw [hU.area, hV.area, hS.area, hR.area]
  simp only [sumA]
  unfold det; grind
 ·intro T hT
  simp only [List.mem_cons, List.not_mem_nil, or_false] at hT
  rcases hT with rfl | rfl
  ·rw [← hU.det]; exact h1
  ·rw [← hV.det]; exact h2
 ·have ba := h.cyc_box mS hS
  have bb := h.cyc_box mS hS.turn
  have bc := h.cyc_box mS hS.turn.turn
  have bd := h.cyc_box mR hR.turn.turn
  intro T hT
  simp only [List.mem_cons, List.not_mem_nil, or_false] at hT
  rcases hT with rfl | rfl
  ·exact hU.box bc ba bd
  ·exact hV.box bd bb bc
theorem way_cnr {T : Tri3} {w : Pt × Pt} (h : w ∈ ways T) : isCnr T w.1 ∧ isCnr T w.2 := by
 obtain ⟨a, b⟩ := w
 obtain ⟨c, hc⟩ := zDd h
 exact ⟨hc.cnr, hc.turn.cnr⟩
theorem zGb {L : List Tri3} {p : Pt} (hn : ∀ T ∈ L, ¬ isCnr T p) {w : Pt × Pt} (hw : w.1 = p ∨ w.2 = p) : w ∉ L.flatMap ways := by
 intro hm
 obtain ⟨T, hT, hk⟩ := List.mem_flatMap.1 hm
 have := way_cnr hk
 rcases hw with e | e <;> rw [e] at this
 ·exact hn T hT this.1
 ·exact hn T hT this.2
theorem zAh {a b c : Pt} (h : 0 < det a b c) : a ≠ b ∧ b ≠ c ∧ c ≠ a :=
 ⟨zF6 h, zF6 (c := a) (by rw [zAv]; exact h), zF6 (c := b) (by rw [zAv, zAv]; exact h)⟩
theorem ins_cyc {T : Tri3} {a b c p : Pt} (hc : Cyc T a b c) (h : insT T p) : 0 < det a b p ∧ 0 < det b c p ∧ 0 < det c a p := by
 unfold insT at h
 rcases hc with ⟨rfl, rfl, rfl⟩ | ⟨rfl, rfl, rfl⟩ | ⟨rfl, rfl, rfl⟩
 ·exact h
 ·exact ⟨h.2.1, h.2.2, h.1⟩
 ·exact ⟨h.2.2, h.1, h.2.1⟩
section
variable {W H : Int} {L M : List Tri3} (h : Tiles W H L) {p : Pt} (hn : ∀ T ∈ L, ¬ isCnr T p) (hb : inBox W H p)
include h hn hb
theorem Tiles.cut3 {T P Q R : Tri3} (hL : L.Perm (T :: M)) {a b c : Pt} (hT : Cyc T a b c) (hi : insT T p) (hP : Cyc P a b p) (hQ : Cyc Q b c p) (hR : Cyc R c a p) : Tiles W H (P :: Q :: R :: M) := by
 have mT : T ∈ L := hL.mem_iff.2 (by simp)
 have pT := h.cyc_pos mT hT
 obtain ⟨i1, i2, i3⟩ := ins_cyc hT hi
 obtain ⟨n1, n2, n3⟩ := zAh pT
 have np := hn T mT
 rw [hT.cnr_iff] at np
 simp only [not_or] at np
 obtain ⟨q1, q2, q3⟩ := np
 refine h.change (Out := [T]) (In := [P, Q, R]) (M := M) hL (rem := []) (add := [(b, p), (p, b), (c, p), (p, c), (a, p), (p, a)]) (keep := [(a, b), (b, c), (c, a)]) ?_ ?_ ?_ ?_ ?_ ?_ ?_ ?_ ?_ ?_
 ·simp only [List.flatMap_cons, List.flatMap_nil, List.append_nil, List.nil_append]
  exact hT.ways
 ·simp only [List.flatMap_cons, List.flatMap_nil, List.append_nil]
  refine (hP.ways.append (hQ.ways.append hR.ways)).trans ?_
  refine (List.perm_iff_count.2 fun w => ?_)
  simp only [List.cons_append, List.nil_append, List.count_cons, List.count_nil]
  omega
 ·simp [q1, q2, q3, n2, n3, Ne.symm q1, Ne.symm q2, Ne.symm q3, Ne.symm n1]
 ·intro w hw
  simp only [List.mem_cons, List.not_mem_nil, or_false] at hw
  refine zGb hn ?_
  rcases hw with rfl | rfl | rfl | rfl | rfl | rfl <;> simp
 ·intro w hw
  simp only [List.mem_cons, List.not_mem_nil, or_false] at hw
  rcases hw with rfl | rfl | rfl | rfl | rfl | rfl <;> simp
 ·intro w hw; simp at hw
 ·intro K hK q
  simp only [cvr]
  have e1 := zBl (sc K a) (sc K p) q
  have e2 := zBl (sc K b) (sc K p) q
  have e3 := zBl (sc K c) (sc K p) q
  omega
 ·rw [hP.area, hQ.area, hR.area, hT.area]
  simp only [sumA]
  have := zEh a b c p
  omega
 ·intro X hX
  simp only [List.mem_cons, List.not_mem_nil, or_false] at hX
  rcases hX with rfl | rfl | rfl
  ·rw [← hP.det]; exact i1
  ·rw [← hQ.det]; exact i2
  ·rw [← hR.det]; exact i3
 ·have ba := h.cyc_box mT hT
  have bb := h.cyc_box mT hT.turn
  have bc := h.cyc_box mT hT.turn.turn
  intro X hX
  simp only [List.mem_cons, List.not_mem_nil, or_false] at hX
  rcases hX with rfl | rfl | rfl
  ·exact hP.box ba bb hb
  ·exact hQ.box bb bc hb
  ·exact hR.box bc ba hb
omit h hn hb in
theorem zFr {a b c p : Pt} (hp : 0 < det a b c) (he : edg a b c p) : ((a.y ≤ p.y ∧ p.y ≤ b.y) ∨ (b.y ≤ p.y ∧ p.y ≤ a.y)) ∧ ((a.x ≤ p.x ∧ p.x ≤ b.x) ∨ (b.x ≤ p.x ∧ p.x ≤ a.x)) := by
 obtain ⟨h1, h2, h3⟩ := he
 have s := zEh a b c p
 have e1 : det a b c * (p.y - a.y) = det c a p * (b.y - a.y) + det a b p * (c.y - a.y) := by unfold det; grind
 have e2 : det a b c * (b.y - p.y) = det b c p * (b.y - a.y) - det a b p * (c.y - b.y) := by unfold det; grind
 have e3 : det a b c * (p.x - a.x) = det c a p * (b.x - a.x) + det a b p * (c.x - a.x) := by unfold det; grind
 have e4 : det a b c * (b.x - p.x) = det b c p * (b.x - a.x) - det a b p * (c.x - b.x) := by unfold det; grind
 rw [h1, Int.zero_mul] at e1 e2 e3 e4
 have key : ∀ u v x : Int, det a b c * u = det c a p * x + 0 → det a b c * v = det b c p * x - 0 → (0 ≤ u ∧ 0 ≤ v) ∨ (u ≤ 0 ∧ v ≤ 0) := by
  intro u v x k1 k2
  rcases Int.le_total 0 x with hx | hx
  ·have := Int.mul_nonneg (a := det c a p) (b := x) (by omega) hx
   have := Int.mul_nonneg (a := det b c p) (b := x) (by omega) hx
   exact .inl ⟨(zB9 hp).1 (by omega), (zB9 hp).1 (by omega)⟩
  ·have := Int.mul_nonpos_of_nonneg_of_nonpos (a := det c a p) (b := x) (by omega) hx
   have := Int.mul_nonpos_of_nonneg_of_nonpos (a := det b c p) (b := x) (by omega) hx
   have a1 := (zB9 (b := -u) hp).1 (by rw [Int.mul_neg]; omega)
   have a2 := (zB9 (b := -v) hp).1 (by rw [Int.mul_neg]; omega)
   exact .inr ⟨by omega, by omega⟩
 have k1 := key _ _ _ e1 e2
 have k2 := key _ _ _ e3 e4
 omega
omit h hn hb in
theorem sc_add {a b p : Pt} (h : det a b p = 0) (hb : (a.y ≤ p.y ∧ p.y ≤ b.y) ∨ (b.y ≤ p.y ∧ p.y ≤ a.y)) {K : Int} (hK : 0 < K) (q : Pt) : crs (sc K a) (sc K b) q = crs (sc K a) (sc K p) q + crs (sc K p) (sc K b) q := by
 refine crs_add (by rw [sc_det, h]; simp) ?_ q
 have m : ∀ x y : Int, x ≤ y → K * x ≤ K * y := fun x y h => Int.mul_le_mul_of_nonneg_left h (by omega)
 rcases hb with ⟨h1, h2⟩ | ⟨h1, h2⟩
 ·exact .inl ⟨m _ _ h1, m _ _ h2⟩
 ·exact .inr ⟨m _ _ h1, m _ _ h2⟩
theorem Tiles.cut2r {T Q R : Tri3} (hL : L.Perm (T :: M)) {a b c : Pt} (hT : Cyc T a b c) (hi : edg a b c p) (hr : onRim W H a b) (hQ : Cyc Q b c p) (hR : Cyc R c a p) : Tiles W H (Q :: R :: M) := by
 have mT : T ∈ L := hL.mem_iff.2 (by simp)
 have pT := h.cyc_pos mT hT
 have bw := zFr pT hi
 obtain ⟨i1, i2, i3⟩ := hi
 obtain ⟨n1, n2, n3⟩ := zAh pT
 have np := hn T mT
 rw [hT.cnr_iff] at np
 simp only [not_or] at np
 obtain ⟨q1, q2, q3⟩ := np
 refine h.change (Out := [T]) (In := [Q, R]) (M := M) hL (rem := [(a, b)]) (add := [(c, p), (p, c), (p, b), (a, p)]) (keep := [(b, c), (c, a)]) ?_ ?_ ?_ ?_ ?_ ?_ ?_ ?_ ?_ ?_
 ·simp only [List.flatMap_cons, List.flatMap_nil, List.append_nil]
  exact hT.ways
 ·simp only [List.flatMap_cons, List.flatMap_nil, List.append_nil]
  refine (hQ.ways.append hR.ways).trans ?_
  refine (List.perm_iff_count.2 fun w => ?_)
  simp only [List.cons_append, List.nil_append, List.count_cons, List.count_nil]
  omega
 ·simp [q1, q2, q3, n3, Ne.symm q2, Ne.symm q3, Ne.symm n2]
 ·intro w hw
  simp only [List.mem_cons, List.not_mem_nil, or_false] at hw
  refine zGb hn ?_
  rcases hw with rfl | rfl | rfl | rfl <;> simp
 ·intro w hw
  simp only [List.mem_cons, List.not_mem_nil, or_false] at hw
  rcases hw with rfl | rfl | rfl | rfl
  ·simp
  ·simp
  ·right; unfold onRim at *; unfold inBox at hb; simp only; omega
  ·right; unfold onRim at *; unfold inBox at hb; simp only; omega
 ·intro w hw
  simp only [List.mem_cons, List.not_mem_nil, or_false] at hw
  rw [hw]; exact .inr hr
 ·intro K hK q
  simp only [cvr]
  have e1 := zBl (sc K c) (sc K p) q
  have e2 := sc_add i1 bw.1 hK q
  omega
 ·rw [hQ.area, hR.area, hT.area]
  simp only [sumA]
  have := zEh a b c p
  omega
 ·intro X hX
  simp only [List.mem_cons, List.not_mem_nil, or_false] at hX
  rcases hX with rfl | rfl
  ·rw [← hQ.det]; exact i2
  ·rw [← hR.det]; exact i3
 ·have ba := h.cyc_box mT hT
  have bb := h.cyc_box mT hT.turn
  have bc := h.cyc_box mT hT.turn.turn
  intro X hX
  simp only [List.mem_cons, List.not_mem_nil, or_false] at hX
  rcases hX with rfl | rfl
  ·exact hQ.box bb bc hb
  ·exact hR.box bc ba hb
theorem Tiles.cut4 {T S Q R X Y : Tri3} (hL : L.Perm (T :: S :: M)) {a b c d : Pt} (hT : Cyc T a b c) (hS : Cyc S b a d) (hi : edg a b c p) (hQ : Cyc Q b c p) (hR : Cyc R c a p) (hX : Cyc X a d p) (hY : Cyc Y d b p) : Tiles W H (Q :: R :: X :: Y :: M) := by
 have mT : T ∈ L := hL.mem_iff.2 (by simp)
 have mS : S ∈ L := hL.mem_iff.2 (by simp)
 have pT := h.cyc_pos mT hT
 have pS := h.cyc_pos mS hS
 have ho := zDt pT pS hi
 have bw := zFr pT hi
 obtain ⟨i1, i2, i3⟩ := hi
 obtain ⟨o1, o2, o3⟩ := ho
 obtain ⟨n1, n2, n3⟩ := zAh pT
 obtain ⟨m1, m2, m3⟩ := zAh pS
 have np := hn T mT
 have np' := hn S mS
 rw [hT.cnr_iff] at np
 rw [hS.cnr_iff] at np'
 simp only [not_or] at np np'
 obtain ⟨q1, q2, q3⟩ := np
 obtain ⟨_, _, q4⟩ := np'
 have cd : c ≠ d := by
  rintro rfl
  rw [zBw] at pS; omega
 refine h.change (Out := [T, S]) (In := [Q, R, X, Y]) (M := M) hL (rem := [(a, b), (b, a)]) (add := [(c, p), (p, c), (d, p), (p, d), (p, b), (b, p), (a, p), (p, a)]) (keep := [(b, c), (c, a), (a, d), (d, b)]) ?_ ?_ ?_ ?_ ?_ ?_ ?_ ?_ ?_ ?_
 ·simp only [List.flatMap_cons, List.flatMap_nil, List.append_nil]
  exact (hT.ways.append hS.ways).trans zGc
 ·simp only [List.flatMap_cons, List.flatMap_nil, List.append_nil]
  refine (hQ.ways.append (hR.ways.append (hX.ways.append hY.ways))).trans ?_
  refine (List.perm_iff_count.2 fun w => ?_)
  simp only [List.cons_append, List.nil_append, List.count_cons, List.count_nil]
  omega
 ·simp [q1, q2, q3, q4, n3, m1, m3, cd, Ne.symm q1, Ne.symm q2, Ne.symm q3, Ne.symm q4, Ne.symm n2, Ne.symm m2]
 ·intro w hw
  simp only [List.mem_cons, List.not_mem_nil, or_false] at hw
  refine zGb hn ?_
  rcases hw with rfl | rfl | rfl | rfl | rfl | rfl | rfl | rfl <;> simp
 ·intro w hw
  simp only [List.mem_cons, List.not_mem_nil, or_false] at hw
  rcases hw with rfl | rfl | rfl | rfl | rfl | rfl | rfl | rfl <;> simp
 ·intro w hw
  simp only [List.mem_cons, List.not_mem_nil, or_false] at hw
  rcases hw with rfl | rfl <;> simp
 ·intro K hK q
  simp only [cvr]
  have e1 := zBl (sc K c) (sc K p) q
  have e2 := zBl (sc K d) (sc K p) q
  have e3 := zBl (sc K b) (sc K p) q
  have e4 := zBl (sc K a) (sc K p) q
  have e5 := zBl (sc K a) (sc K b) q
  omega
 ·rw [hQ.area, hR.area, hX.area, hY.area, hT.area, hS.area]
  simp only [sumA]
  have := zEh a b c p
  have := zEh b a d p
  omega
 ·intro Z hZ
  simp only [List.mem_cons, List.not_mem_nil, or_false] at hZ
  rcases hZ with rfl | rfl | rfl | rfl
  ·rw [← hQ.det]; exact i2
  ·rw [← hR.det]; exact i3
  ·rw [← hX.det]; exact o2
  ·rw [← hY.det]; exact o3
 ·have ba := h.cyc_box mT hT
  have bb := h.cyc_box mT hT.turn
  have bc := h.cyc_box mT hT.turn.turn
  have bd := h.cyc_box mS hS.turn.turn
  intro Z hZ
  simp only [List.mem_cons, List.not_mem_nil, or_false] at hZ
  rcases hZ with rfl | rfl | rfl | rfl
  ·exact hQ.box bb bc hb
  ·exact hR.box bc ba hb
  ·exact hX.box ba bd hb
  ·exact hY.box bd bb hb
end
theorem tiles_square {W H : Int} (hW : 0 < W) (hH : 0 < H) {X Y : Tri3} (hX : Cyc X ⟨0, 0⟩ ⟨W, 0⟩ ⟨W, H⟩) (hY : Cyc Y ⟨0, 0⟩ ⟨W, H⟩ ⟨0, H⟩) : Tiles W H [X, Y] := by
 have wp : ([X, Y].flatMap ways).Perm [(⟨0, 0⟩, ⟨W, 0⟩), (⟨W, 0⟩, ⟨W, H⟩), (⟨W, H⟩, ⟨0, 0⟩), (⟨0, 0⟩, ⟨W, H⟩), (⟨W, H⟩, ⟨0, H⟩), (⟨0, H⟩, ⟨0, 0⟩)] := by
  simp only [List.flatMap_cons, List.flatMap_nil, List.append_nil]
  exact hX.ways.append hY.ways
 have pWH := Int.mul_pos hW hH
 have dX : det ⟨0, 0⟩ ⟨W, 0⟩ ⟨W, H⟩ = W * H := by unfold det; grind
 have dY : det ⟨0, 0⟩ ⟨W, H⟩ ⟨0, H⟩ = W * H := by unfold det; grind
 refine ⟨?_, ?_, ?_, ?_, ?_, ?_⟩
 ·intro T hT
  simp only [List.mem_cons, List.not_mem_nil, or_false] at hT
  rcases hT with rfl | rfl
  ·rw [← hX.det, dX]; exact pWH
  ·rw [← hY.det, dY]; exact pWH
 ·rw [wp.nodup_iff]
  have w0 : W ≠ 0 := by omega
  have h0 : H ≠ 0 := by omega
  simp [w0, h0, Ne.symm w0, Ne.symm h0]
 ·have b1 : inBox W H ⟨0, 0⟩ := by unfold inBox; simp only; omega
  have b2 : inBox W H ⟨W, 0⟩ := by unfold inBox; simp only; omega
  have b3 : inBox W H ⟨W, H⟩ := by unfold inBox; simp only; omega
  have b4 : inBox W H ⟨0, H⟩ := by unfold inBox; simp only; omega
  intro T hT
  simp only [List.mem_cons, List.not_mem_nil, or_false] at hT
  rcases hT with rfl | rfl
  ·exact hX.box b1 b2 b3
  ·exact hY.box b1 b3 b4
 ·intro w hw
  rw [wp.mem_iff] at hw ⊢
  simp only [List.mem_cons, List.not_mem_nil, or_false] at hw
  unfold onRim
  rcases hw with rfl | rfl | rfl | rfl | rfl | rfl <;> simp
 ·intro K hK q
  rw [zGf wp]
  simp only [cvr]
  have e1 := zBl (sc K ⟨W, H⟩) (sc K ⟨0, 0⟩) q
  have kW := Int.mul_pos hK hW
  have kH := Int.mul_pos hK hH
  have z1 : crs (sc K ⟨0, 0⟩) (sc K ⟨W, 0⟩) q = 0 := by unfold crs sc; simp only; (repeat' split) <;> omega
  have z2 : crs (sc K ⟨W, H⟩) (sc K ⟨0, H⟩) q = 0 := by unfold crs sc; simp only; (repeat' split) <;> omega
  have d1 : det (sc K ⟨W, 0⟩) (sc K ⟨W, H⟩) q = (K * H) * (K * W - q.x) := by unfold det sc; grind
  have d2 : det (sc K ⟨0, H⟩) (sc K ⟨0, 0⟩) q = (K * H) * q.x := by unfold det sc; grind
  have s1 := zAy (b := K * W - q.x) kH
  have s2 := zC6 (b := q.x) kH
  have v1 : crs (sc K ⟨W, 0⟩) (sc K ⟨W, H⟩) q = if (0 ≤ q.y ∧ q.y < K * H) ∧ q.x < K * W then 1 else 0 := by
   unfold crs; rw [d1]
   generalize K * H * (K * W - q.x) = D at *
   unfold sc; simp only [Int.mul_zero]
   (repeat' split) <;> omega
  have v2 : crs (sc K ⟨0, H⟩) (sc K ⟨0, 0⟩) q = if (0 ≤ q.y ∧ q.y < K * H) ∧ q.x < 0 then -1 else 0 := by
   unfold crs; rw [d2]
   generalize K * H * q.x = D at *
   unfold sc; simp only [Int.mul_zero]
   (repeat' split) <;> omega
  rw [z1, z2, v1, v2]
  unfold sqr
  (repeat' split) <;> omega
 ·rw [hX.area, hY.area, dX, dY]; simp only [sumA]; omega
def PH (h : Pt → Int) (a b c d : Pt) : Int := det d b c * h a + det a d c * h b + det a b d * h c - det a b c * h d
theorem PH_lft (a b c d : Pt) : PH (fun p => p.x * p.x + p.y * p.y) a b c d = lft a b c d := by unfold PH lft ht cr way det; grind
theorem wgt_ex : ∃ (w : Pt → Int) (M : Int), (∀ p, vld p = true → 0 < w p ∧ w p ≤ M) ∧ ∀ p q, vld p = true → vld q = true → key p < key q → 2251799545249801 * w q ≤ w p := by
 have gen : ∀ (B : Nat) (C N : Int), (B : Int) = C → 0 < B → (∀ p, vld p = true → 0 ≤ key p ∧ key p ≤ N) → ∃ (w : Pt → Int) (M : Int), (∀ p, vld p = true → 0 < w p ∧ w p ≤ M) ∧ ∀ p q, vld p = true → vld q = true → key p < key q → C * w q ≤ w p := by
  intro B C N hC hB hN
  refine ⟨fun p => ((B ^ (N - key p).toNat : Nat) : Int), ((B ^ N.toNat : Nat) : Int), fun p hp => ?_, fun p q hp hq hk => ?_⟩
  ·have h1 : 0 < B ^ (N - key p).toNat := Nat.pow_pos hB
   have h2 : B ^ (N - key p).toNat ≤ B ^ N.toNat := Nat.pow_le_pow_right hB (by have := hN p hp; omega)
   refine ⟨?_, ?_⟩
   ·show (0 : Int) < ((B ^ (N - key p).toNat : Nat) : Int); omega
   ·show ((B ^ (N - key p).toNat : Nat) : Int) ≤ ((B ^ N.toNat : Nat) : Int); omega
  ·have := hN q hq
   have := hN p hp
   have e : (N - key p).toNat = ((N - key q).toNat + 1) + ((N - key p).toNat - ((N - key q).toNat + 1)) := by omega
   have h1 : B ^ ((N - key q).toNat + 1) ≤ B ^ (N - key p).toNat := Nat.pow_le_pow_right hB (by omega)
   rw [Nat.pow_succ, Nat.mul_comm] at h1
   show C * ((B ^ (N - key q).toNat : Nat) : Int) ≤ ((B ^ (N - key p).toNat : Nat) : Int)
   rw [← hC]
   exact_mod_cast h1
 exact gen 2251799545249801 2251799545249801 281474976710656 (by omega) (by omega) (fun p hp => by rw [zAr] at hp; unfold key; omega)
theorem zEe {u w D : Int} (h1 : -D ≤ u) (h2 : u ≤ D) (hw : 0 ≤ w) : -(D * w) ≤ u * w ∧ u * w ≤ D * w := by
 have e1 := Int.mul_le_mul_of_nonneg_right h2 hw
 have e2 := Int.mul_le_mul_of_nonneg_right h1 hw
 rw [Int.neg_mul] at e2
 exact ⟨e2, e1⟩
structure Hts (h : Pt → Int) : Prop where
 nn : ∀ p, vld p = true → 0 ≤ h p
 sign : ∀ a b c d, vld a = true → vld b = true → vld c = true → vld d = true → 0 < det a b c → d ≠ a → d ≠ b → d ≠ c → (circ a b c d = 1 ∧ 0 < PH h a b c d ∧ 0 ≤ lft a b c d) ∨ (circ a b c d = -1 ∧ PH h a b c d < 0)
theorem tie_main {w : Pt → Int} (hp : ∀ p, vld p = true → 0 < w p) (hw : ∀ p q, vld p = true → vld q = true → key p < key q → 2251799545249801 * w q ≤ w p)
    {a b c d : Pt} (ha : vld a = true) (hb : vld b = true) (hc : vld c = true) (hd : vld d = true) (hD : 0 < det a b c) (e1 : d ≠ a) (e2 : d ≠ b) (e3 : d ≠ c) (hl : lft a b c d = 0) :
    (circ a b c d = 1 ∧ PH w a b c d < 0) ∨ (circ a b c d = -1 ∧ 0 < PH w a b c d) := by
 obtain ⟨n1, n2, n3⟩ := zAh hD
 have h0 : ¬ ori a b c = 0 := by rw [ori_v ha hb hc, zBk]; omega
 rw [zBi h0 hd e1 e2 e3, if_neg (by rw [hl]; simp [sgn])]
 have hk := zCm ha hb hc hd
 have k1 : ∀ p q : Pt, vld p = true → vld q = true → p ≠ q → key p ≠ key q := fun p q hp hq hn h => hn (zBj hp hq h)
 have b0 := zH6 ha hb hc
 have b1 := zH6 hd hb hc
 have b2 := zH6 ha hd hc
 have b3 := zH6 ha hb hd
 have t1 : det d b c ≠ 0 := zE2 hl (by omega) e2 e3
 have t2 : det a d c ≠ 0 := by
  have := zE2 (a := b) (b := c) (c := a) (d := d) (by rw [zEz]; exact hl) (by rw [zAv]; omega) e3 e1
  rwa [← zAv a d c]
 have t3 : det a b d ≠ 0 := by
  have := zE2 (a := c) (b := a) (c := b) (d := d) (by rw [zEz b c a, zEz]; exact hl) (by rw [zAv b c a, zAv]; omega) e1 e2
  rwa [← zAv a b d, ← zAv b d a]
 have pa := hp a ha
 have pb := hp b hb
 have pc := hp c hc
 have pd := hp d hd
 have q1 := zEe b1.1 b1.2 (Int.le_of_lt pa)
 have q2 := zEe b2.1 b2.2 (Int.le_of_lt pb)
 have q3 := zEe b3.1 b3.2 (Int.le_of_lt pc)
 have q4 := zEe b0.1 b0.2 (Int.le_of_lt pd)
 have one : ∀ (u x : Int), u ≠ 0 → 0 < x → (0 < u ∧ x ≤ u * x) ∨ (u < 0 ∧ u * x ≤ -x) := by
  intro u x hu hx
  rcases Int.lt_or_gt_of_ne hu with k | k
  ·right
   have := Int.mul_nonneg (a := -1 - u) (b := x) (by omega) (by omega)
   rw [Int.sub_mul] at this
   exact ⟨k, by omega⟩
  ·left
   have := Int.mul_nonneg (a := u - 1) (b := x) (by omega) (by omega)
   rw [Int.sub_mul] at this
   exact ⟨k, by omega⟩
 unfold PH tie
 rcases zIx a b c d with m | m | m | m
 ·rw [m] at hk
  have x1 := hw a b ha hb (by have := k1 a b ha hb n1; omega)
  have x2 := hw a c ha hc (by have := k1 a c ha hc n3.symm; omega)
  have x3 := hw a d ha hd (by have := k1 a d ha hd e1.symm; omega)
  rw [m, if_neg (np e1.symm), if_pos (pp rfl), ori_v hd hb hc]
  have s := zAg (det d b c)
  have o := one _ _ t1 pa
  generalize det d b c * w a = z1 at *
  generalize det a d c * w b = z2 at *
  generalize det a b d * w c = z3 at *
  generalize det a b c * w d = z4 at *
  omega
 ·rw [m] at hk
  have x1 := hw b a hb ha (by have := k1 b a hb ha n1.symm; omega)
  have x2 := hw b c hb hc (by have := k1 b c hb hc n2; omega)
  have x3 := hw b d hb hd (by have := k1 b d hb hd e2.symm; omega)
  rw [m, if_neg (np e2.symm), if_neg (np n1.symm), if_pos (pp rfl), ori_v ha hd hc]
  have s := zAg (det a d c)
  have o := one _ _ t2 pb
  generalize det d b c * w a = z1 at *
  generalize det a d c * w b = z2 at *
  generalize det a b d * w c = z3 at *
  generalize det a b c * w d = z4 at *
  omega
 ·rw [m] at hk
  have x1 := hw c a hc ha (by have := k1 c a hc ha n3; omega)
  have x2 := hw c b hc hb (by have := k1 c b hc hb n2.symm; omega)
  have x3 := hw c d hc hd (by have := k1 c d hc hd e3.symm; omega)
  rw [m, if_neg (np e3.symm), if_neg (np n3), if_neg (np n2.symm), ori_v ha hb hd]
  have s := zAg (det a b d)
  have o := one _ _ t3 pc
  generalize det d b c * w a = z1 at *
  generalize det a d c * w b = z2 at *
  generalize det a b d * w c = z3 at *
  generalize det a b c * w d = z4 at *
  omega
 ·rw [m] at hk
  have x1 := hw d a hd ha (by have := k1 d a hd ha e1; omega)
  have x2 := hw d b hd hb (by have := k1 d b hd hb e2; omega)
  have x3 := hw d c hd hc (by have := k1 d c hd hc e3; omega)
  rw [m, if_pos (pp rfl), ori_v ha hb hc]
  have s := zAg (det a b c)
  have o := one _ _ (show det a b c ≠ 0 by omega) pd
  generalize det d b c * w a = z1 at *
  generalize det a d c * w b = z2 at *
  generalize det a b d * w c = z3 at *
  generalize det a b c * w d = z4 at *
  omega
theorem hts_ex : ∃ h, Hts h := by
 obtain ⟨w, M, hM, hw⟩ := wgt_ex
 have hM0 : 0 < M := by have := hM ⟨0, 0⟩ (by decide); omega
 refine ⟨fun p => (4 * 562949886312450 * M + 1) * (p.x * p.x + p.y * p.y) - w p + M, fun p hp => ?_, fun a b c d ha hb hc hd hD e1 e2 e3 => ?_⟩
 ·have := hM p hp
  have := Int.mul_nonneg (a := 4 * 562949886312450 * M + 1) (b := p.x * p.x + p.y * p.y) (by omega) (by have := sq_nn p.x; have := sq_nn p.y; omega)
  show 0 ≤ (4 * 562949886312450 * M + 1) * (p.x * p.x + p.y * p.y) - w p + M
  omega
 ·have e : PH (fun p => (4 * 562949886312450 * M + 1) * (p.x * p.x + p.y * p.y) - w p + M) a b c d = (4 * 562949886312450 * M + 1) * lft a b c d - PH w a b c d := by
     have z : det d b c + det a d c + det a b d = det a b c := by unfold det; grind
     rw [← PH_lft]; unfold PH; grind
  rw [e]
  have h0 : ¬ ori a b c = 0 := by rw [ori_v ha hb hc, zBk]; omega
  have pa := hM a ha
  have pb := hM b hb
  have pc := hM c hc
  have pd := hM d hd
  by_cases hl : lft a b c d = 0
  ·have t := tie_main (fun p hp => (hM p hp).1) hw ha hb hc hd hD e1 e2 e3 hl
   rw [hl, Int.mul_zero]
   omega
  ·have b0 := zH6 ha hb hc
   have b1 := zH6 hd hb hc
   have b2 := zH6 ha hd hc
   have b3 := zH6 ha hb hd
   have q1 := zEe b1.1 b1.2 (Int.le_of_lt pa.1)
   have q2 := zEe b2.1 b2.2 (Int.le_of_lt pb.1)
   have q3 := zEe b3.1 b3.2 (Int.le_of_lt pc.1)
   have q4 := zEe b0.1 b0.2 (Int.le_of_lt pd.1)
   rw [zBi h0 hd e1 e2 e3]
   have s := zAg (lft a b c d)
   rw [if_pos (by rw [zBk]; exact hl)]
   have key : (4 * 562949886312450 * M + 1) * lft a b c d ≤ -(4 * 562949886312450 * M + 1) ∨ (4 * 562949886312450 * M + 1) ≤ (4 * 562949886312450 * M + 1) * lft a b c d := by
    rcases Int.lt_or_gt_of_ne hl with k | k
    ·left
     have := Int.mul_nonneg (a := 4 * 562949886312450 * M + 1) (b := -1 - lft a b c d) (by omega) (by omega)
     rw [Int.mul_sub] at this; omega
    ·right
     have := Int.mul_nonneg (a := 4 * 562949886312450 * M + 1) (b := lft a b c d - 1) (by omega) (by omega)
     rw [Int.mul_sub] at this; omega
   have sg : 0 < lft a b c d → (4 * 562949886312450 * M + 1) * lft a b c d > 0 := fun k => Int.mul_pos (by omega) k
   have sg' : lft a b c d < 0 → (4 * 562949886312450 * M + 1) * lft a b c d < 0 := fun k => Int.mul_neg_of_pos_of_neg (by omega) k
   unfold PH
   generalize (4 * 562949886312450 * M + 1) * lft a b c d = Q at *
   generalize det d b c * w a = z1 at *
   generalize det a d c * w b = z2 at *
   generalize det a b d * w c = z3 at *
   generalize det a b c * w d = z4 at *
   omega
theorem lft_edge (a b c d : Pt) : lft a b c d = det c a d * ((b.x - a.x) * (b.x - a.x) + (b.y - a.y) * (b.y - a.y)) - det b a d * ((c.x - a.x) * (c.x - a.x) + (c.y - a.y) * (c.y - a.y)) - det a b c * ((d.x - a.x) * (d.x - a.x) + (d.y - a.y) * (d.y - a.y)) := by unfold lft ht cr way det; grind
theorem lft_edge2 (a b c d : Pt) : lft a b c d = det d b c * ((b.x - a.x) * (b.x - a.x) + (b.y - a.y) * (b.y - a.y)) - det b a d * ((c.x - b.x) * (c.x - b.x) + (c.y - b.y) * (c.y - b.y)) - det a b c * ((d.x - b.x) * (d.x - b.x) + (d.y - b.y) * (d.y - b.y)) := by unfold lft ht cr way det; grind
theorem sq_ne {p q : Pt} (h : p ≠ q) : 0 < (q.x - p.x) * (q.x - p.x) + (q.y - p.y) * (q.y - p.y) := by
 have s1 := sq_nn (q.x - p.x)
 have s2 := sq_nn (q.y - p.y)
 refine Decidable.byContradiction fun k => h ?_
 have u1 := Int.mul_eq_zero.1 (show (q.x - p.x) * (q.x - p.x) = 0 by omega)
 have u2 := Int.mul_eq_zero.1 (show (q.y - p.y) * (q.y - p.y) = 0 by omega)
 rw [Pt.eq_iff]; omega
theorem convex {a b c d : Pt} (h1 : 0 < det a b c) (h2 : 0 < det b a d) (hl : 0 ≤ lft a b c d) : 0 < det c a d ∧ 0 < det d b c := by
 obtain ⟨n1, n2, n3⟩ := zAh h1
 obtain ⟨m1, m2, m3⟩ := zAh h2
 have key : ∀ g x y z : Int, 0 < x → 0 < y → 0 < z → 0 ≤ g * x - det b a d * y - det a b c * z → 0 < g := by
  intro g x y z hx hy hz k
  refine Decidable.byContradiction fun hg => ?_
  have i1 := Int.mul_nonneg (a := -g) (b := x) (by omega) (by omega)
  have i2 := Int.mul_pos h2 hy
  have i3 := Int.mul_pos h1 hz
  rw [Int.neg_mul] at i1
  omega
 refine ⟨key _ _ _ _ (sq_ne n1) (sq_ne n3.symm) (sq_ne m2) (by rw [← lft_edge]; exact hl), key _ _ _ _ (sq_ne n1) (sq_ne n2) (sq_ne m3.symm) (by rw [← lft_edge2]; exact hl)⟩
def vol (h : Pt → Int) (T : Tri3) : Int := det T.A T.B T.C * (h T.A + h T.B + h T.C)
def volS (h : Pt → Int) : List Tri3 → Int
 | [] => 0
 | T :: L => vol h T + volS h L
theorem volS_perm {h : Pt → Int} {l m : List Tri3} (p : l.Perm m) : volS h l = volS h m := by
 induction p with
 | nil => rfl
 | cons x _ ih => simp only [volS, ih]
 | swap x y l => simp only [volS]; omega
 | trans _ _ h1 h2 => exact h1.trans h2
theorem Cyc.vol {T : Tri3} {a b c : Pt} (h : Cyc T a b c) (f : Pt → Int) : Go.Proofs.YtmobnmjjmafibaaGreat.vol f T = Go.Proofs.YtmobnmjjmafibaaGreat.det a b c * (f a + f b + f c) := by
 rw [h.det]; unfold Go.Proofs.YtmobnmjjmafibaaGreat.vol
 rcases h with ⟨rfl, rfl, rfl⟩ | ⟨rfl, rfl, rfl⟩ | ⟨rfl, rfl, rfl⟩
 ·rfl
 ·congr 1; omega
 ·congr 1; omega
theorem vol_flip (h : Pt → Int) {S R U V : Tri3} (M : List Tri3) {a b c d : Pt} (hS : Cyc S a b c) (hR : Cyc R b a d) (hU : Cyc U c a d) (hV : Cyc V d b c) : volS h (S :: R :: M) = volS h (U :: V :: M) + PH h a b c d := by
 simp only [volS]
 rw [hS.vol, hR.vol, hU.vol, hV.vol]
 unfold PH det; grind
theorem zJo {h : Pt → Int} (hh : Hts h) : ∀ {L : List Tri3}, (∀ T ∈ L, 0 < det T.A T.B T.C ∧ vld T.A = true ∧ vld T.B = true ∧ vld T.C = true) → 0 ≤ volS h L
 | [], _ => Int.le_refl 0
 | T :: L, k => by
  have k1 := k T (by simp)
  have k2 := zJo hh (L := L) (fun S hS => k S (by simp [hS]))
  have a1 := hh.nn _ k1.2.1
  have a2 := hh.nn _ k1.2.2.1
  have a3 := hh.nn _ k1.2.2.2
  have := Int.mul_nonneg (a := det T.A T.B T.C) (b := h T.A + h T.B + h T.C) (by omega) (by omega)
  unfold volS vol
  omega
theorem zHw {α : Type} (n m : α → Int) : ∀ (L : List α), L ≠ [] → (∀ x ∈ L, 0 < m x) → ∃ x ∈ L, ∀ y ∈ L, n y * m x ≤ n x * m y
 | [], h, _ => absurd rfl h
 | [x], _, _ => ⟨x, by simp, fun y hy => by simp at hy; subst hy; exact Int.le_refl _⟩
 | x :: y :: L, _, hm => by
  obtain ⟨z, hz, k⟩ := zHw n m (y :: L) (by simp) (fun u hu => hm u (by simp [hu]))
  have pz := hm z (by simp [hz])
  have px := hm x (by simp)
  by_cases g : n x * m z ≤ n z * m x
  ·refine ⟨z, by simp [hz], fun u hu => ?_⟩
   rcases List.mem_cons.1 hu with rfl | hu
   ·exact g
   ·exact k u hu
  ·refine ⟨x, by simp, fun u hu => ?_⟩
   rcases List.mem_cons.1 hu with rfl | hu
   ·exact Int.le_refl _
   ·have pu := hm u (by simp [hu])
    have k1 := k u hu
    -- n u / m u ≤ n z / m z < n x / m x
    have a1 : n u * m z * m x ≤ n z * m u * m x := Int.mul_le_mul_of_nonneg_right k1 (by omega)
    have a2 : n z * m x * m u ≤ n x * m z * m u := Int.mul_le_mul_of_nonneg_right (by omega) (by omega)
    have a3 : m z * (n u * m x) ≤ m z * (n x * m u) := by
     have e1 : m z * (n u * m x) = n u * m z * m x := by grind
     have e2 : m z * (n x * m u) = n x * m z * m u := by grind
     have e3 : n z * m u * m x = n z * m x * m u := by grind
     omega
    exact Int.le_of_mul_le_mul_left a3 pz
structure Fixed (W H : Int) (wl : Pt → Pt → Prop) (L : List Tri3) : Prop where
 tiles : Tiles W H L
 good : ∀ S ∈ L, ∀ R ∈ L, ∀ a b c d, Cyc S a b c → Cyc R b a d → ¬ wl a b → circ a b c d ≠ 1
theorem zJ4 {M : Tri3} {p : Pt} (hM : valT M = true) (vp : vld p = true) : hasP M p = true ↔ 0 ≤ det M.A M.B p ∧ 0 ≤ det M.B M.C p ∧ 0 ≤ det M.C M.A p := by
 obtain ⟨va, vb, vc, hD⟩ := zDe hM
 unfold hasP
 rw [hM, vp, Bool.true_and, Bool.true_and]
 simp only [Bool.and_eq_true, decide_eq_true_eq, (zKc va vb vp).2.1, (zKc vb vc vp).2.1, (zKc vc va vp).2.1]
end Go.Proofs.YtmobnmjjmafibaaGreat
namespace Go.Proofs.YtmobnmjjmafibaaGreat
open Go.RowKit Go.Sort
attribute [local go_sem] rOper rAt rUpon cell_set sg_i64 sg_u64 alloc_cell alloc_frozen
attribute [local go_sem 10000] pt_eql pt_neq
attribute [local irreducible] rWalk
theorem zDp : (Tryz.prog.info? 30).map (fun i => (i.zero, i.size, i.bytes)) = some (some (.agg #[.int .i64 0, .int .i64 0]), 2, 16) := by kernel_rfl
theorem zFj {w : World} {B g n cap : Nat} {xs tl : List Value} {T : TypeId} (h : Box w g (xs ++ tl) T) (hB : B ≤ g) (hl : xs.length = n * 2) (hn : n ≤ cap) (hc : cap ≤ maxLen) (ht : tl.length = (cap - n) * 2) :
    w.ownsRow B T 2 (.slice (some ⟨g, 0, none⟩) n cap) n xs := by
 refine ⟨hl, Or.inr ⟨g, cap, (xs ++ tl).toArray, rfl, hB, h, hn, hc, ?_, ?_⟩⟩
 ·simp [hl, ht]; omega
 ·simp [← hl]
theorem zIe {w : World} {ops : Array Oper} {rest : List Oper} {o : Oper} {a : Act} {Q : Exit → Act → World → Prop} (hgd : o.guard = none) (s x : Operand)
    (ho : o.op = .call { callee := .builtin .append, args := #[s, x], argTypes := #[52, 52] })
    (B n : Nat) (v : Value) (xs : List Value) (hs : a.eval s = v) (hown : w.ownsRow B 30 2 v n xs)
    (bx : Nat) (p : Pt) (hx : a.eval x = .slice (some ⟨bx, 0, none⟩) 1 1) (hbx : Box w bx [.int .i64 p.x, .int .i64 p.y] 30) (hn : n ≤ 1000000) (hbase : B ≤ w.heap.size)
    (h : ∀ w' g cap tl, B ≤ g → Box w' g (xs ++ .int .i64 p.x :: .int .i64 p.y :: tl) 30 → n + 1 ≤ cap → cap ≤ maxLen → tl.length = (cap - (n + 1)) * 2 → w.grownBy w' v.ownBlock →
     wpList Tryz.prog ops Q rest (a.put o.dst (.slice (some ⟨g, 0, none⟩) (n + 1) cap)) w') : wpList Tryz.prog ops Q (o :: rest) a w := by
 obtain ⟨i0, hi, hz0, hz1, hz2⟩ := info_parts zDp
 refine wpList_append_own w hgd s x 52 ho B 30 i0 _ 2 16 Tryz.underlying52 hi hz0 hz1 hz2 rfl (by decide) v n xs hs hown ⟨bx, 0, none⟩ 1 1 [.int .i64 p.x, .int .i64 p.y] hx rfl ?_ ?_ ?_ ?_ hbase ?_
 ·intro j u hj
  have := hbx.f.1
  match j, hj with
  | 0, hj => simp at hj; subst hj; simp [Addr.add, this]
  | 1, hj => simp at hj; subst hj; simp [Addr.add, this]
 ·intro u hu; simp at hu; rcases hu with rfl | rfl <;> rfl
 ·unfold maxLen; omega
 ·omega
 ·intro v' w' hown' hg _
  obtain ⟨hl, ⟨_, h0⟩ | ⟨g, cap, cur, rfl, hB, hb, h1, h2, h3, h4⟩⟩ := hown'
  ·omega
  ·refine h w' g cap (cur.toList.drop ((n + 1) * 2)) hB ?_ h1 h2 ?_ hg
   ·unfold Box
    rw [hb]
    have e : xs ++ .int .i64 p.x :: .int .i64 p.y :: cur.toList.drop ((n + 1) * 2) = cur.toList := by
     rw [show xs ++ .int .i64 p.x :: .int .i64 p.y :: cur.toList.drop ((n + 1) * 2) = (xs ++ [.int .i64 p.x, .int .i64 p.y]) ++ cur.toList.drop ((n + 1) * 2) by simp, ← h4, List.take_append_drop]
    rw [e]
   ·rw [List.length_drop, Array.length_toList, h3, Nat.sub_mul]
end Go.Proofs.YtmobnmjjmafibaaGreat
namespace Go.Proofs.YtmobnmjjmafibaaGreat
open Go.RowKit Go.Sort
attribute [local go_sem] rOper rAt rUpon cell_set sg_i64 sg_u64 alloc_cell alloc_frozen
attribute [local go_sem 10000] pt_eql pt_neq tri_eql
attribute [local irreducible] rWalk
def Two (w : World) (A : Addr) (p : Pt) : Prop := A.block < w.heap.size ∧ w.cell? A = some (.int .i64 p.x) ∧ w.cell? ⟨A.block, A.off + 1, none⟩ = some (.int .i64 p.y)
theorem RowAt.two {w : World} {a : Option Addr} {L : List Pt} (h : RowAt cP 2 w a L) {j : Nat} (hj : j < L.length) : ∃ ad A, a = some ad ∧ ad.add (j * 2) = A ∧ Two w A L[j] := by
 obtain ⟨ad, A, h1, h2, _, h4, h5⟩ := h.pt hj
 exact ⟨ad, A, h1, h2, h4, h5⟩
theorem Two.ext {w w' : World} {A : Addr} {p : Pt} {n : Nat} (h : Two w A p) (hb : Below n w w') (hn : n = w.heap.size) : Two w' A p := by
 obtain ⟨h0, h1, h2⟩ := h
 have e : ∀ q : Addr, q.block = A.block → w'.cell? q = w.cell? q := fun q hq => hb.cell (by rw [hq, hn]; exact h0)
 exact ⟨Nat.lt_of_lt_of_le h0 hb.size, (e A rfl).trans h1, (e ⟨A.block, A.off + 1, none⟩ rfl).trans h2⟩
theorem Two.ee {w w' : World} {A : Addr} {p : Pt} (h : Two w A p) (hb : Below w.heap.size w w') : Two w' A p := h.ext hb rfl
theorem Two.f {w : World} {A : Addr} {p : Pt} (h : Two w A p) : (A.block = w.heap.size) = False ∧ w.cell? A = some (.int .i64 p.x) ∧ w.cell? ⟨A.block, A.off + 1, none⟩ = some (.int .i64 p.y) := ⟨by simp; have := h.1; omega, h.2⟩
theorem Two.cells {w : World} {A : Addr} {p : Pt} (h : Two w A p) : (∀ d os, (grow (redrawn w d) os).cell? A = some (.int .i64 p.x)) ∧ (∀ d os, (grow (redrawn w d) os).cell? ⟨A.block, A.off + 1, none⟩ = some (.int .i64 p.y)) :=
 ⟨fun d os => (h.ext (below_regrown w d os) rfl).2.1, fun d os => (h.ext (below_regrown w d os) rfl).2.2⟩
theorem Two.set {w : World} {A : Addr} {p : Pt} (h : Two w A p) (q : Addr) (v : Value) (hq : q.block ≠ A.block) : Two (w.setCell q v) A p := by
 obtain ⟨h0, h1, h2⟩ := h
 refine ⟨by simpa using h0, ?_, ?_⟩
 ·rw [World.cell?_setCell_other (h := fun e => hq (by rw [e]))]; exact h1
 ·rw [World.cell?_setCell_other (h := fun e => hq (by rw [e]))]; exact h2
theorem zJ7 (tl : List Value) : ∀ (S : List Pt) (j : Nat) (p : Pt), j < S.length → ((S.flatMap cP ++ tl).set (j * 2) (.int .i64 p.x)).set (j * 2 + 1) (.int .i64 p.y) = (S.set j p).flatMap cP ++ tl
 | q :: S, 0, p, _ => by simp [cP]
 | q :: S, j + 1, p, h => by
  have ih := zJ7 tl S j p (by simpa using h)
  simp only [List.flatMap_cons, cP, List.cons_append, List.nil_append, List.set_cons_succ] at ih ⊢
  rw [show (j + 1) * 2 = j * 2 + 1 + 1 by omega]
  simp only [List.set_cons_succ]
  rw [ih]
theorem zCs {w : World} {g : Nat} {S : List Pt} {tl : List Value} (h : Box w g (S.flatMap cP ++ tl) 30) {j : Nat} (hj : j < S.length) :
    w.cell? ⟨g, j * 2, none⟩ = some (.int .i64 S[j].x) ∧ w.cell? ⟨g, j * 2 + 1, none⟩ = some (.int .i64 S[j].y) ∧ w.frozen? ⟨g, j * 2, none⟩ = false ∧ w.frozen? ⟨g, j * 2 + 1, none⟩ = false := by
 have hf := h.f
 have e : ∀ i, i < 2 → (S.flatMap cP ++ tl)[j * 2 + i]? = (cP S[j])[i]? := fun i hi => by
  rw [List.getElem?_append_left (by rw [zAw zCr]; omega)]
  exact zB1 zCr S j i S[j] (List.getElem?_eq_getElem hj) hi
 have e0 := e 0 (by omega)
 have e1 := e 1 (by omega)
 refine ⟨by rw [hf.1, show j * 2 = j * 2 + 0 from rfl, e0]; rfl, by rw [hf.1, e1]; rfl, hf.2.1 _, hf.2.1 _⟩
theorem zH8 {w : World} {g : Nat} {S : List Pt} {tl : List Value} (h : Box w g (S.flatMap cP ++ tl) 30) {j : Nat} (hj : j < S.length) (p : Pt) :
    Box ((w.setCell ⟨g, j * 2, none⟩ (.int .i64 p.x)).setCell ⟨g, j * 2 + 1, none⟩ (.int .i64 p.y)) g ((S.set j p).flatMap cP ++ tl) 30 := by
 rw [← zJ7 tl S j p hj]
 exact (h.set (j * 2) _).set (j * 2 + 1) _
theorem rsortP_any (a0 : Option Addr) (c0 n : Nat) (L : List Pt) (hL : Hid (L.length = n)) (hn : n ≤ 500000) (w : World) (h0 : RowAt cP 2 w a0 L) :
    Calls Tryz.prog 83 #[.slice a0 n c0] w fun e w' => ∃ (M : List Pt) (a : Option Addr) (cap : Nat), e = .returned (.slice a M.length cap) ∧ RowAt cP 2 w' a M ∧ Rising cmpP M ∧ (∀ p, p ∈ M ↔ p ∈ L) ∧ Below w.heap.size w w' := by
 go_enter Tryz.func83, Tryz.ntmps83
 go_wp2
 go_loopw [3, 4] (fun vo vi wr => ∃ (k : Nat) (M : List Pt), vi = .int .i64 k ∧ k ≤ n ∧ Hid (Rising cmpP M) ∧ Hid (∀ p, p ∈ M ↔ p ∈ L.take k) ∧ M.length ≤ k ∧ wr.ownsRow w.heap.size 30 2 vo M.length (M.flatMap cP) ∧ Below w.heap.size w wr) (fun _ vi _ => n - (intOf vi).toNat)
 case atStart => exact ⟨0, [], rfl, Nat.zero_le _, Lib.hid (by simp [Rising]), Lib.hid (by simp), Nat.le_refl _, World.ownsRow_nil _ _ _ _, Below.refl _ _⟩
 case round =>
  obtain ⟨k, M, rfl, hk, hR, hM, hMk, hown, hw⟩ := hrel
  by_cases hlt : k < n
  case neg =>
   obtain ⟨a, cap, rfl, _, hr⟩ := zAs zCr hown
   have HM := Lib.hid (show ∀ p, p ∈ M ↔ p ∈ L by intro p; rw [hM.out p, List.take_of_length_le (by rw [hL.out]; omega)])
   go_wp2
   go_ret
   exact ⟨M, a, cap, rfl, hr, hR.out, HM.out, hw⟩
  case pos =>
   have hlk : k < L.length := hL.out ▸ hlt
   obtain ⟨ad, A, ea, eA, hA0⟩ := h0.two hlk
   have hA := hA0.ee hw
   obtain ⟨a1, c1, rfl, hc1, hr1⟩ := zAs zCr hown
   have hT := Lib.hid (show L.take (k + 1) = L.take k ++ [L[k]] from List.take_succ_eq_append_getElem hlk)
   generalize L[k] = x at *
   go_wp2
   obtain ⟨W0, rfl⟩ : ∃ W0, W0 = wr := ⟨_, rfl⟩
   go_loopw [5] (fun va wr => ∃ a : Nat, va = .int .i64 a ∧ a ≤ M.length ∧ Hid (∀ (i : Nat) (_ : a ≤ i) (h2 : i < M.length), 0 < cmpP (M[i]'h2) x) ∧ Below W0.heap.size W0 wr) (fun va _ => (intOf va).toNat)
   case atStart => exact ⟨M.length, rfl, Nat.le_refl _, Lib.hid (fun i h1 h2 => by omega), Below.refl _ _⟩
   case round =>
    obtain ⟨a, rfl, haM, hhi, hw1⟩ := hrel
    rcases a with _ | j
    ·have hAT : 0 ≤ M.length := Nat.zero_le _
     have hlo : ∀ (i : Nat) (hi : i < 0), cmpP (M[i]'(by omega)) x < 0 := fun i hi => by omega
     have hhi2 : ∀ (i : Nat) (_ : 0 ≤ i) (h2 : i < M.length), 0 < cmpP (M[i]'h2) x := fun i h1 h2 => hhi.out i h1 h2
     have HHI := Lib.hid hhi2
     clear hhi hhi2
     go_wp2
     refine wp_region_tail 14 (by kernel_rfl) (by kernel_rfl) (C := fun w' => ∃ p : Regrown, w' = grow (redrawn wr p.d) p.os) rgB ?_
     simp only [tK1, tK0, dP1, dP0]
     repeat (first | (refine zA0 (Eq.refl false) ?_; simp only [Act.put, sT2, sT1, sT0]) | (refine rWalk_step (fun K hK => ?_); go_simp; first | (refine hK _ ?_; clear hK K) | (apply Exists.intro; refine ⟨fun _ => ?_, hK _ ?_⟩; (first | fail); clear hK K)))
     refine rWalk_nil ?_
     intro w2 hb
     have hw2 := (upB hw1 hb)
     go_wp2
     refine wp_region_tail 13 (by kernel_rfl) (by kernel_rfl) (C := fun w' => ∃ p : Regrown, w' = grow (redrawn w2 p.d) p.os) rgB ?_
     simp only [tK1, tK0, dP1, dP0]
     repeat (first | (refine zA0 (Eq.refl false) ?_; simp only [Act.put, sT2, sT1, sT0]) | (refine rWalk_step (fun K hK => ?_); go_simp; first | (refine hK _ ?_; clear hK K) | (apply Exists.intro; refine ⟨fun _ => ?_, hK _ ?_⟩; (first | fail); clear hK K)))
     refine rWalk_nil ?_
     intro w3 hb3
     have hw3 := (upB hw2 hb3)
     have hhi2 := HHI.out
     have HI := Lib.hid (zEd wholeP hR.out (x := x) (k := 0) hAT hlo hhi2)
     obtain ⟨z1, t0, t1⟩ := (hA.ee hw3).f
     have own3 := hown.kept (zA6 hw3 none) (by cases a1 <;> simp [Value.ownBlock])
     have HB := Lib.hid (Nat.le_trans hw.size hw3.size)
     have hMn : M.length ≤ 1000000 := by omega
     have hw3w := (upB hw hw3)
     have hlt0 := fun q hq => (own3.lt q hq).1
     clear hlo hhi2
     go_wp2_with (at_builtin; refine zIe rfl _ _ rfl w.heap.size M.length _ (M.flatMap cP) rfl (own3.alloc _) w3.heap.size x rfl (Box.new rfl) hMn (by have := HB.out; simp; omega) ?_; intro w4 g cap tl hg0 hbx hcp1 hcp2 htl hg4)
     have hw4 := (hw3w.alloc HB.out (.cells #[.int .i64 x.x, .int .i64 x.y] 30)).grown hg4 (by have := HB.out; simp; omega) hlt0
     have hbx2 : Box w4 g ((M ++ [x]).flatMap cP ++ tl) 30 := by simpa [cP] using hbx
     clear z1 t0 t1 own3 hg4 hlt0 hbx
     go_loopw [6] (fun vk wr => ∃ (q : Nat) (S : List Pt), vk = .int .i64 q ∧ 0 ≤ q ∧ q ≤ M.length ∧ Hid (Moved M S q) ∧ Box wr g (S.flatMap cP ++ tl) 30 ∧ Below w.heap.size w wr) (fun vk _ => (intOf vk).toNat)
     case atStart => exact ⟨M.length, M ++ [x], by first | rfl | go_num, hAT, Nat.le_refl _, Lib.hid (zFm M x), hbx2, hw4⟩
     case round =>
      clear hbx2 hw4
      obtain ⟨q, S, rfl, hq1, hq2, hS, hbS, hwS⟩ := hrel
      have hSl := hS.out.len
      by_cases hq : 0 < q
      ·rcases q with _ | q
       ·omega
       ·have hqM : q < M.length := hq2
        obtain ⟨u0, u1, _, _⟩ := zCs hbS (j := q) (by omega)
        obtain ⟨y0, y1, v0, v1, f0, f1⟩ : ∃ y0 y1, wr.cell? ⟨g, (q + 1) * 2, none⟩ = some y0 ∧ wr.cell? ⟨g, (q + 1) * 2 + 1, none⟩ = some y1 ∧ wr.frozen? ⟨g, (q + 1) * 2, none⟩ = false ∧ wr.frozen? ⟨g, (q + 1) * 2 + 1, none⟩ = false := ⟨_, _, zCs hbS (j := q + 1) (by omega)⟩
        have eg : S[q] = M[q] := hS.out.get hqM
        have hHS := Lib.hid (hS.out.step hqM)
        have hbS2 := zH8 hbS (j := q + 1) (by omega) (M[q]'hqM)
        rw [eg] at u0 u1
        have n5 : q < M.length + 1 := by omega
        have n6 : q + 1 < M.length + 1 := by omega
        have HBS := Lib.hid hbS2
        have HW := Lib.hid hwS
        clear eg hbS2 hwS hS
        clear hbS hSl
        go_wp2
        exact ⟨⟨q, S.set (q + 1) (M[q]'hqM), rfl, by omega, by omega, hHS, HBS.out, (HW.out.setCell hg0 _).setCell hg0 _⟩, by simp [intOf]⟩
      ·obtain rfl : q = 0 := by omega
       obtain ⟨y0, y1, v0, v1, f0, f1⟩ : ∃ y0 y1, wr.cell? ⟨g, 0, none⟩ = some y0 ∧ wr.cell? ⟨g, 1, none⟩ = some y1 ∧ wr.frozen? ⟨g, 0, none⟩ = false ∧ wr.frozen? ⟨g, 1, none⟩ = false := ⟨_, _, zCs hbS (j := 0) (by omega)⟩
       have hbS2 := zH8 hbS (j := 0) (by omega) x
       rw [hS.out.done hAT x] at hbS2
       have HBS := Lib.hid hbS2
       have HW := Lib.hid ((hwS.setCell (p := ⟨g, 0, none⟩) hg0 (.int .i64 x.x)).setCell (p := ⟨g, 1, none⟩) hg0 (.int .i64 x.y))
       obtain ⟨z1, t0, t1⟩ := (hA0.ee hwS).f
       have n8 : 0 < M.length + 1 := by omega
       have HLn := Lib.hid (show (M.take 0 ++ x :: M.drop 0).length = M.length + 1 by rw [List.length_append, List.length_cons, List.length_take, List.length_drop]; omega)
       have HMB := Lib.hid (show ∀ p, p ∈ M.take 0 ++ x :: M.drop 0 ↔ p ∈ L.take (k + 1) by intro p; rw [HI.out.2 p, hM.out p, hT.out]; simp)
       clear hbS2 hwS hbS hS hSl hq
       go_wp2
       try rw [← ea]
       go_roundw
       case rel => exact ⟨k + 1, M.take 0 ++ x :: M.drop 0, by go_num, by omega, Lib.hid HI.out.1, HMB, by rw [HLn.out]; omega, by rw [HLn.out]; exact zFj HBS.out hg0 (by rw [zAw zCr, HLn.out]) hcp1 hcp2 htl, HW.out⟩
       case measure => simp [intOf]; omega
    ·obtain ⟨ad1, A1, ea1, eA1, hB0⟩ := hr1.two (j := j) (by omega)
     have hB := hB0.ee hw1
     have hA1 := hA.ee hw1
     have hjM : j < M.length := haM
     have cc := zAb (M[j]'(by omega)) x
     have e1 : IntKind.i64.wrap (j : Int) = j := by rw [IntKind.wrap_i64]; omega
     by_cases hc : 0 < cmpP (M[j]'(by omega)) x
     ·have hd : decide (0 < cmpP (M[j]'(by omega)) x) = true := by simpa using hc
      have HH := Lib.hid (show ∀ (i : Nat) (_ : j ≤ i) (h2 : i < M.length), 0 < cmpP (M[i]'h2) x from fun i h1 h2 => by
       by_cases e : i = j
       ·subst e; exact hc
       ·exact hhi.out i (by omega) h2)
      clear hc hhi
      generalize cmpP (M[j]'(by omega)) x = q at *
      obtain ⟨t0, t1⟩ := hA1.cells
      obtain ⟨s0, s1⟩ := hB.cells
      go_wp2
      refine wp_region_tail 14 (by kernel_rfl) (by kernel_rfl) (C := fun w' => ∃ p : Regrown, w' = grow (redrawn wr p.d) p.os) rgB ?_
      simp only [tK1, tK0, dP1, dP0]
      repeat (first | (refine zA0 (Eq.refl false) ?_; simp only [Act.put, sT2, sT1, sT0]) | (refine rWalk_step (fun K hK => ?_); go_simp; first | (refine hK _ ?_; clear hK K) | (apply Exists.intro; refine ⟨fun _ => ?_, hK _ ?_⟩; (first | with_reducible exact toExt cc _); clear hK K)))
      refine rWalk_nil ?_
      intro w2 hb
      have hw2 := (upB hw1 hb)
      have e2 : wrap64 (((j + 1 : Nat) : Int) - 1) = j := by rw [w64]; omega
      go_wp2
      try rw [← ea1]
      try rw [← ea]
      go_roundw
      case rel => exact ⟨j, by go_num, by omega, HH, hw2⟩
      case measure => simp [intOf]
     ·have hd : decide (0 < cmpP (M[j]'(by omega)) x) = false := by simpa using hc
      by_cases hx : M[j]'hjM = x
      ·skip
       have hp : peqI (M[j]'hjM).x (M[j]'hjM).y x.x x.y = true := zBf.2 hx
       have HMB := Lib.hid (show ∀ p, p ∈ M ↔ p ∈ L.take (k + 1) by
        intro p
        rw [hT.out, List.mem_append, ← hM.out p]
        constructor
        ·exact .inl
        ·rintro (h | h)
         ·exact h
         ·simp at h; subst h; rw [← hx]; exact List.getElem_mem hjM)
       clear hc hx hhi
       generalize cmpP (M[j]'hjM) x = q at *
       obtain ⟨t0, t1⟩ := hA1.cells
       obtain ⟨s0, s1⟩ := hB.cells
       go_wp2
       refine wp_region_tail 14 (by kernel_rfl) (by kernel_rfl) (C := fun w' => ∃ p : Regrown, w' = grow (redrawn wr p.d) p.os) rgB ?_
       simp only [tK1, tK0, dP1, dP0]
       repeat (first | (refine zA0 (Eq.refl false) ?_; simp only [Act.put, sT2, sT1, sT0]) | (refine rWalk_step (fun K hK => ?_); go_simp; first | (refine hK _ ?_; clear hK K) | (apply Exists.intro; refine ⟨fun _ => ?_, hK _ ?_⟩; (first | with_reducible exact toExt cc _); clear hK K)))
       refine rWalk_nil ?_
       intro w2 hb
       have hw2 := (upB hw1 hb)
       clear t0 t1 s0 s1 hd
       obtain ⟨t0, t1⟩ := (hA1.ee hb).cells
       obtain ⟨s0, s1⟩ := (hB.ee hb).cells
       go_wp2
       refine wp_region_tail 13 (by kernel_rfl) (by kernel_rfl) (C := fun w' => ∃ p : Regrown, w' = grow (redrawn w2 p.d) p.os) rgB ?_
       simp only [tK1, tK0, dP1, dP0]
       repeat (first | (refine zA0 (Eq.refl false) ?_; simp only [Act.put, sT2, sT1, sT0]) | (refine rWalk_step (fun K hK => ?_); go_simp; first | (refine hK _ ?_; clear hK K) | (apply Exists.intro; refine ⟨fun _ => ?_, hK _ ?_⟩; (first | fail); clear hK K)))
       refine rWalk_nil ?_
       intro w3 hb3
       have hw3 := (upB hw2 hb3)
       have own3 := hown.kept (zA6 hw3 none) (by cases a1 <;> simp [Value.ownBlock])
       have hw3w := (upB hw hw3)
       clear t0 t1 s0 s1 hp cc hb3 hw1 hw2
       go_wp2
       try rw [← ea1]
       try rw [← ea]
       go_roundw
       case rel => exact ⟨k + 1, M, by go_num, by omega, hR, HMB, by omega, own3, hw3w⟩
       case measure => simp [intOf]; omega
      ·have hlt1 : cmpP (M[j]'hjM) x < 0 := by have := zCq (p := M[j]'hjM) (q := x); have : cmpP (M[j]'hjM) x ≠ 0 := fun e => hx (this.1 e); omega
       have hAT : j + 1 ≤ M.length := hjM
       have hlo : ∀ (i : Nat) (hi : i < j + 1), cmpP (M[i]'(by omega)) x < 0 := rising_below wholeP hR.out hjM hlt1
       have hhi2 := fun i h1 h2 => hhi.out i h1 h2
       have hp : peqI (M[j]'hjM).x (M[j]'hjM).y x.x x.y = false := by rw [← Bool.not_eq_true, zBf]; exact hx
       clear hc hx hlt1 hhi
       generalize cmpP (M[j]'hjM) x = q at *
       obtain ⟨t0, t1⟩ := hA1.cells
       obtain ⟨s0, s1⟩ := hB.cells
       go_wp2
       refine wp_region_tail 14 (by kernel_rfl) (by kernel_rfl) (C := fun w' => ∃ p : Regrown, w' = grow (redrawn wr p.d) p.os) rgB ?_
       simp only [tK1, tK0, dP1, dP0]
       repeat (first | (refine zA0 (Eq.refl false) ?_; simp only [Act.put, sT2, sT1, sT0]) | (refine rWalk_step (fun K hK => ?_); go_simp; first | (refine hK _ ?_; clear hK K) | (apply Exists.intro; refine ⟨fun _ => ?_, hK _ ?_⟩; (first | with_reducible exact toExt cc _); clear hK K)))
       refine rWalk_nil ?_
       intro w2 hb
       have hw2 := (upB hw1 hb)
       clear t0 t1 s0 s1 hd
       obtain ⟨t0, t1⟩ := (hA1.ee hb).cells
       obtain ⟨s0, s1⟩ := (hB.ee hb).cells
       go_wp2
       refine wp_region_tail 13 (by kernel_rfl) (by kernel_rfl) (C := fun w' => ∃ p : Regrown, w' = grow (redrawn w2 p.d) p.os) rgB ?_
       simp only [tK1, tK0, dP1, dP0]
       repeat (first | (refine zA0 (Eq.refl false) ?_; simp only [Act.put, sT2, sT1, sT0]) | (refine rWalk_step (fun K hK => ?_); go_simp; first | (refine hK _ ?_; clear hK K) | (apply Exists.intro; refine ⟨fun _ => ?_, hK _ ?_⟩; (first | fail); clear hK K)))
       refine rWalk_nil ?_
       intro w3 hb3
       have hw3 := (upB hw2 hb3)
       clear t0 t1 s0 s1 hp cc
       have HI := Lib.hid (zEd wholeP hR.out (x := x) (k := (j + 1)) hAT hlo hhi2)
       obtain ⟨z1, t0, t1⟩ := (hA.ee hw3).f
       have own3 := hown.kept (zA6 hw3 none) (by cases a1 <;> simp [Value.ownBlock])
       rw [ea1] at own3
       have HB := Lib.hid (Nat.le_trans hw.size hw3.size)
       have hMn : M.length ≤ 1000000 := by omega
       have hw3w := (upB hw hw3)
       have hlt0 := fun q hq => (own3.lt q hq).1
       clear hlo hhi2
       go_wp2_with (at_builtin; refine zIe rfl _ _ rfl w.heap.size M.length _ (M.flatMap cP) rfl (own3.alloc _) w3.heap.size x rfl (Box.new rfl) hMn (by have := HB.out; simp; omega) ?_; intro w4 g cap tl hg0 hbx hcp1 hcp2 htl hg4)
       have hw4 := (hw3w.alloc HB.out (.cells #[.int .i64 x.x, .int .i64 x.y] 30)).grown hg4 (by have := HB.out; simp; omega) hlt0
       have hbx2 : Box w4 g ((M ++ [x]).flatMap cP ++ tl) 30 := by simpa [cP] using hbx
       clear z1 t0 t1 own3 hg4 hlt0 hbx
       go_loopw [6] (fun vk wr => ∃ (q : Nat) (S : List Pt), vk = .int .i64 q ∧ (j + 1) ≤ q ∧ q ≤ M.length ∧ Hid (Moved M S q) ∧ Box wr g (S.flatMap cP ++ tl) 30 ∧ Below w.heap.size w wr) (fun vk _ => (intOf vk).toNat)
       case atStart => exact ⟨M.length, M ++ [x], by first | rfl | go_num, hAT, Nat.le_refl _, Lib.hid (zFm M x), hbx2, hw4⟩
       case round =>
        clear hbx2 hw4
        obtain ⟨q, S, rfl, hq1, hq2, hS, hbS, hwS⟩ := hrel
        have hSl := hS.out.len
        by_cases hq : (j + 1) < q
        ·rcases q with _ | q
         ·omega
         ·have hqM : q < M.length := hq2
          obtain ⟨u0, u1, _, _⟩ := zCs hbS (j := q) (by omega)
          obtain ⟨y0, y1, v0, v1, f0, f1⟩ : ∃ y0 y1, wr.cell? ⟨g, (q + 1) * 2, none⟩ = some y0 ∧ wr.cell? ⟨g, (q + 1) * 2 + 1, none⟩ = some y1 ∧ wr.frozen? ⟨g, (q + 1) * 2, none⟩ = false ∧ wr.frozen? ⟨g, (q + 1) * 2 + 1, none⟩ = false := ⟨_, _, zCs hbS (j := q + 1) (by omega)⟩
          have eg : S[q] = M[q] := hS.out.get hqM
          have hHS := Lib.hid (hS.out.step hqM)
          have hbS2 := zH8 hbS (j := q + 1) (by omega) (M[q]'hqM)
          rw [eg] at u0 u1
          have n5 : q < M.length + 1 := by omega
          have n6 : q + 1 < M.length + 1 := by omega
          have HBS := Lib.hid hbS2
          have HW := Lib.hid hwS
          clear eg hbS2 hwS hS
          clear hbS hSl
          go_wp2
          exact ⟨⟨q, S.set (q + 1) (M[q]'hqM), rfl, by omega, by omega, hHS, HBS.out, (HW.out.setCell hg0 _).setCell hg0 _⟩, by simp [intOf]⟩
        ·obtain rfl : q = (j + 1) := by omega
         obtain ⟨y0, y1, v0, v1, f0, f1⟩ : ∃ y0 y1, wr.cell? ⟨g, (j + 1) * 2, none⟩ = some y0 ∧ wr.cell? ⟨g, (j + 1) * 2 + 1, none⟩ = some y1 ∧ wr.frozen? ⟨g, (j + 1) * 2, none⟩ = false ∧ wr.frozen? ⟨g, (j + 1) * 2 + 1, none⟩ = false := ⟨_, _, zCs hbS (j := (j + 1)) (by omega)⟩
         have hbS2 := zH8 hbS (j := (j + 1)) (by omega) x
         rw [hS.out.done hAT x] at hbS2
         have HBS := Lib.hid hbS2
         have HW := Lib.hid ((hwS.setCell (p := ⟨g, (j + 1) * 2, none⟩) hg0 (.int .i64 x.x)).setCell (p := ⟨g, (j + 1) * 2 + 1, none⟩) hg0 (.int .i64 x.y))
         obtain ⟨z1, t0, t1⟩ := (hA0.ee hwS).f
         have n8 : (j + 1) < M.length + 1 := by omega
         have HLn := Lib.hid (show (M.take (j + 1) ++ x :: M.drop (j + 1)).length = M.length + 1 by rw [List.length_append, List.length_cons, List.length_take, List.length_drop]; omega)
         have HMB := Lib.hid (show ∀ p, p ∈ M.take (j + 1) ++ x :: M.drop (j + 1) ↔ p ∈ L.take (k + 1) by intro p; rw [HI.out.2 p, hM.out p, hT.out]; simp)
         clear hbS2 hwS hbS hS hSl hq
         go_wp2
         try rw [← ea]
         go_roundw
         case rel => exact ⟨k + 1, M.take (j + 1) ++ x :: M.drop (j + 1), by go_num, by omega, Lib.hid HI.out.1, HMB, by rw [HLn.out]; omega, by rw [HLn.out]; exact zFj HBS.out hg0 (by rw [zAw zCr, HLn.out]) hcp1 hcp2 htl, HW.out⟩
         case measure => simp [intOf]; omega
def cnrs (L : List Tri3) : List Pt := L.flatMap fun T => [T.A, T.B, T.C]
theorem zGh : ∀ L : List Tri3, (cnrs L).length = 3 * L.length
 | [] => rfl
 | T :: L => by have := zGh L; unfold cnrs at *; rw [List.flatMap_cons, List.length_append, this]; simp; omega
theorem rcorners_any (a0 : Option Addr) (c0 n : Nat) (L : List Tri3) (hL : Hid (L.length = n)) (hn : n ≤ 100000) (w : World) (h0 : RowAt cT 6 w a0 L) :
    Calls Tryz.prog 43 #[.slice a0 n c0] w fun e w' => ∃ (M : List Pt) (a : Option Addr) (cap : Nat), e = .returned (.slice a M.length cap) ∧ RowAt cP 2 w' a M ∧ Rising cmpP M ∧ (∀ p, p ∈ M ↔ p ∈ cnrs L) ∧ Below w.heap.size w w' := by
 go_enter Tryz.func43, Tryz.ntmps43
 go_wp2
 go_loopw [3, 4] (fun vo vi wr => ∃ k : Nat, vi = .int .i64 k ∧ k ≤ n ∧ wr.ownsRow w.heap.size 30 2 vo (cnrs (L.take k)).length ((cnrs (L.take k)).flatMap cP) ∧ Below w.heap.size w wr) (fun _ vi _ => n - (intOf vi).toNat)
 case atStart => exact ⟨0, rfl, Nat.zero_le _, World.ownsRow_nil _ _ _ _, Below.refl _ _⟩
 case round =>
  obtain ⟨k, rfl, hk, hown, hw⟩ := hrel
  by_cases hlt : k < n
  case neg =>
   obtain ⟨a, cap, rfl, _, hr⟩ := zAs zCr hown
   rw [List.take_of_length_le (by rw [hL.out]; omega)] at hr
   have HL := Lib.hid (show L.take k = L from List.take_of_length_le (by rw [hL.out]; omega))
   have hlen := Lib.hid (show (cnrs (L.take k)).length = 3 * n by rw [HL.out, zGh, hL.out])
   have hcl := Lib.hid (show (cnrs L).length = 3 * n by rw [zGh, hL.out])
   rw [hlen.out]
   go_wp2_with fail
   refine (rsortP_any _ _ _ _ hcl (by omega) _ hr).mono ?_
   rintro e w2 ⟨M, a2, cap2, rfl, h1, h2, h3, hb⟩
   go_wp2
   go_ret
   exact ⟨M, a2, cap2, rfl, h1, h2, h3, (upB hw hb)⟩
  case pos =>
   have hlk : k < L.length := hL.out ▸ hlt
   have HT := Lib.hid (show cnrs (L.take (k + 1)) = cnrs (L.take k) ++ [L[k].A, L[k].B, L[k].C] by rw [List.take_succ_eq_append_getElem hlk]; unfold cnrs; rw [List.flatMap_append]; rfl)
   have hle : (cnrs (L.take k)).length ≤ 1000000 := by rw [zGh, List.length_take]; omega
   obtain ⟨ad, A, ea, eA, hA0⟩ := h0.six hlk
   have hA := hA0.ee hw
   generalize L[k] = T at *
   obtain ⟨t0, t1, t2, t3, t4, t5⟩ := hA.2
   obtain ⟨i0, hi0, hz0, hz1, hz2⟩ := info_parts zDp
   have hAb : A.block < w.heap.size := hA0.1
   have ag : u3.ownBlock ≠ some A.block := fun e => by have := (hown.lt _ e).1; omega
   have HB := Lib.hid hw.size
   have HO := Lib.hid hown
   have hAw : A.block < wr.heap.size := hA.1
   go_wp2
   go_region_held3 (fun w' => w'.cell? A = some (.int .i64 T.A.x) ∧ w'.cell? ⟨A.block, A.off + 1, none⟩ = some (.int .i64 T.A.y) ∧ w'.cell? ⟨A.block, A.off + 2, none⟩ = some (.int .i64 T.B.x) ∧ w'.cell? ⟨A.block, A.off + 3, none⟩ = some (.int .i64 T.B.y) ∧ w'.cell? ⟨A.block, A.off + 4, none⟩ = some (.int .i64 T.C.x) ∧ w'.cell? ⟨A.block, A.off + 5, none⟩ = some (.int .i64 T.C.y))
    (first
     | go_keep
     | (go_split_ands
        refine ⟨?_, ?_, ?_, ?_, ?_, ?_⟩
        ·(rw [hgrow.cell_far A (by simp; omega) (Ne.symm ag)]; assumption)
        ·(rw [hgrow.cell_far ⟨A.block, A.off + 1, none⟩ (by simp; omega) (Ne.symm ag)]; assumption)
        ·(rw [hgrow.cell_far ⟨A.block, A.off + 2, none⟩ (by simp; omega) (Ne.symm ag)]; assumption)
        ·(rw [hgrow.cell_far ⟨A.block, A.off + 3, none⟩ (by simp; omega) (Ne.symm ag)]; assumption)
        ·(rw [hgrow.cell_far ⟨A.block, A.off + 4, none⟩ (by simp; omega) (Ne.symm ag)]; assumption)
        ·(rw [hgrow.cell_far ⟨A.block, A.off + 5, none⟩ (by simp; omega) (Ne.symm ag)]; assumption)))
    ((refine step_append_lies _ (by rfl) _ _ _ (by rfl) w.heap.size 30 i0 _ 2 16 Tryz.underlying52 hi0 hz0 hz1 hz2 rfl (by decide) u3 (cnrs (L.take k)).length ((cnrs (L.take k)).flatMap cP) (by rfl) ((hown.alloc _).drew)
        ⟨wr.heap.size, 0, none⟩ 3 3 (cT T) (by rfl) (by rfl) (World.news_of_block (cs := (cT T).toArray) (t := 30) (fr := (0, 0)) (heap_alloc_new wr _)) (zKg T)
        (by omega) (by unfold maxLen; omega) (by omega) (by have := HB.out; simp; omega) (wr.heap.size + 1) (by simp) ?_; intro gg cap w1 hown1 hgrow hat hlt1))
   go_wp2
   have hw4 : Below w.heap.size w w1 := ((hw.alloc HB.out (.cells (cT T).toArray 30)).drew).grown hgrow (by have := HB.out; show w.heap.size ≤ (wr.alloc _).heap.size; simp; omega) (fun q hq => (HO.out.lt q hq).1)
   have hl2 := Lib.hid (show (cnrs (L.take (k + 1))).length = (cnrs (L.take k)).length + 3 by rw [HT.out]; simp)
   have hown4 : w1.ownsRow w.heap.size 30 2 (.slice (some ⟨gg, 0, none⟩) ((cnrs (L.take k)).length + 3) cap) (cnrs (L.take (k + 1))).length ((cnrs (L.take (k + 1))).flatMap cP) := by
    rw [hl2.out, HT.out, List.flatMap_append]
    simpa [cT, cP] using hown1
   rw [← ea]
   go_roundw
   case rel => exact ⟨k + 1, by go_num, by omega, hown4, hw4⟩
   case measure => simp [intOf]; omega
theorem zeros_pt (n : Nat) : (Builtin.zeroCells #[.int .i64 0, .int .i64 0] n).toList = List.replicate (n * 2) (.int .i64 0) := by
 simp only [Builtin.zeroCells]
 apply List.ext_getElem
 ·simp
 ·intro i h1 h2
  simp at h1
  have : i % 2 = 0 ∨ i % 2 = 1 := by omega
  rcases this with h | h <;> simp [h]
theorem run_clear_pts (w : World) (ty : TypeId) (b o n c : Nat) (hn : 0 < n)
    (hc : ∀ j, j < n * 2 → (w.cell? ⟨b, o + j, none⟩).isSome = true) (hf : ∀ j, j < n * 2 → w.frozen? ⟨b, o + j, none⟩ = false) :
    (Builtin.clear_ #[52] ty #[.slice (some ⟨b, o, none⟩) n c]).run Tryz.prog w = .ok (.tuple #[]) (w.setCells b o (List.replicate (n * 2) (.int .i64 0))) := by
 have hst := run_storeCells_cells (P := Tryz.prog) b o (List.replicate (n * 2) (.int .i64 0)) 0 w (by simpa using hc) (by simpa using hf) (by intro v hv'; rw [List.eq_of_mem_replicate hv']; rfl)
 simp only [Nat.add_zero] at hst
 obtain ⟨m, rfl⟩ : ∃ m, n = m + 1 := ⟨n - 1, by omega⟩
 have hz := zeros_pt (m + 1)
 simp [Builtin.clear_, run_underlying Tryz.underlying52, Value.cells, hz, hst]
theorem zD6 {w : World} {g : Nat} {S : List Pt} {tl : List Value} (h : Box w g (S.flatMap cP ++ tl) 30) (k : Nat) : RowAt cP 2 w (some ⟨g, 0, none⟩) (S.take k) := fun j x hj => by
 have hj2 : j < k ∧ S[j]? = some x := by
  rw [List.getElem?_take] at hj
  split at hj
  ·exact ⟨by assumption, hj⟩
  ·cases hj
 have hl := (List.getElem?_eq_some_iff.1 hj2.2)
 refine ⟨_, rfl, h.lt, fun i u hu => ?_⟩
 have hi : i < 2 := (List.getElem?_eq_some_iff.1 hu).1
 rw [Addr.add_lit, Addr.add_lit, h.f.1, Nat.zero_add, List.getElem?_append_left (by rw [zAw zCr]; have := hl.1; omega), zB1 zCr S j i x hj2.2 hi]
 exact hu
end Go.Proofs.YtmobnmjjmafibaaGreat
namespace Go.Proofs.YtmobnmjjmafibaaGreat
section
variable {α : Type} [DecidableEq α] {c : α → α → Int}
structure Cpt (c : α → α → Int) (L : List α) (r : Nat) (M : List α) : Prop where
 rise : Rising c M
 mem : ∀ p, p ∈ M ↔ p ∈ L.take r
 last : ∀ (h : 0 < r) (h2 : r ≤ L.length), M.getLast? = some (L[r - 1]'(by omega))
 len : M.length ≤ r
omit [DecidableEq α] in
theorem rising_snoc (W : Whole c) {M : List α} {x y : α} (h : Rising c M) (hl : M.getLast? = some y) (hxy : c y x < 0) : Rising c (M ++ [x]) := by
 unfold Rising at *
 rw [List.pairwise_append]
 refine ⟨h, by simp, fun a ha b hb => ?_⟩
 simp at hb; subst hb
 rw [List.getLast?_eq_some_iff] at hl
 obtain ⟨N, rfl⟩ := hl
 rw [List.pairwise_append] at h
 rcases List.mem_append.1 ha with ha | ha
 ·exact W.trans (h.2.2 a ha y (by simp)) hxy
 ·simp at ha; subst ha; exact hxy
omit [DecidableEq α] in
theorem Cpt.start {L : List α} (h : 0 < L.length) : Cpt c L 1 (L.take 1) := by
 cases L with
 | nil => simp at h
 | cons x L => exact ⟨by simp [Rising], by simp, by simp, by simp⟩
omit [DecidableEq α] in
theorem Cpt.next (W : Whole c) {L M : List α} {r : Nat} (h : Cpt c L r M) (ho : InOrder c L) (h0 : 0 < r) (hr : r < L.length) (hne : L[r] ≠ L[r - 1]'(by omega)) : Cpt c L (r + 1) (M ++ [L[r]]) := by
 have hl := h.last h0 (by omega)
 have hle : c (L[r - 1]'(by omega)) L[r] ≤ 0 := by
  unfold InOrder at ho
  rw [List.pairwise_iff_getElem] at ho
  exact ho _ _ _ _ (by omega)
 have hlt : c (L[r - 1]'(by omega)) L[r] < 0 := by
  have : c (L[r - 1]'(by omega)) L[r] ≠ 0 := fun e => hne (W.eq0.1 e).symm
  omega
 refine ⟨rising_snoc W h.rise hl hlt, fun p => ?_, fun _ _ => by simp, by have := h.len; simp; omega⟩
 rw [List.take_succ_eq_append_getElem hr, List.mem_append, List.mem_append, h.mem p]
omit [DecidableEq α] in
theorem Cpt.same {L M : List α} {r : Nat} (h : Cpt c L r M) (h0 : 0 < r) (hr : r < L.length) (he : L[r] = L[r - 1]'(by omega)) : Cpt c L (r + 1) M := by
 refine ⟨h.rise, fun p => ?_, fun _ _ => ?_, by have := h.len; omega⟩
 ·rw [List.take_succ_eq_append_getElem hr, List.mem_append, h.mem p]
  constructor
  ·exact .inl
  ·rintro (hp | hp)
   ·exact hp
   ·simp at hp
    rw [hp, he]
    exact List.mem_take_iff_getElem.2 ⟨r - 1, by omega, rfl⟩
 ·rw [h.last h0 (by omega)]; simp [he]
omit [DecidableEq α] in
theorem Cpt.all (W : Whole c) {L : List α} (ho : InOrder c L) : ∀ r, r ≤ L.length → 0 < r → (∀ (i : Nat) (h0 : 0 < i) (_ : i < r) (h2 : i < L.length), L[i] ≠ L[i - 1]'(by omega)) → Cpt c L r (L.take r)
 | 0, _, h, _ => absurd h (by omega)
 | 1, h, _, _ => Cpt.start (by omega)
 | r + 2, h, _, hd => by
  have ih := Cpt.all W ho (r + 1) (by omega) (by omega) (fun i h0 h1 h2 => hd i h0 (by omega) h2)
  have := ih.next W ho (by omega) (by omega) (hd (r + 1) (by omega) (by omega) (by omega))
  rwa [← List.take_succ_eq_append_getElem (by omega)] at this
end
open Go.RowKit Go.Sort
attribute [local go_sem] rOper rAt rUpon cell_set sg_i64 sg_u64 alloc_cell alloc_frozen
attribute [local go_sem 10000] pt_eql pt_neq tri_eql
attribute [local irreducible] rWalk
theorem zC9 (b : Nat) : ∀ (l : List Value) (o : Nat) (w : World), w.grownBy (w.setCells b o l) (some b)
 | [], _, w => zC1 _ _
 | v :: l, o, w => by
  rw [World.setCells]
  have h1 : w.grownBy (w.setCell ⟨b, o, none⟩ v) (some b) := ⟨rfl, rfl, rfl, by simp, fun i _ hne => Below.heap_setCell w ⟨b, o, none⟩ v i (fun e => hne (by rw [e]))⟩
  exact zA9 h1 (zC9 b l (o + 1) _)
theorem compact_any (g cap n : Nat) (L : List Pt) (tl : List Value) (hL : Hid (L.length = n)) (hn : n ≤ 1000000) (hcap : n ≤ cap) (hcap2 : cap ≤ maxLen) (ho : Hid (InOrder cmpP L)) (w : World) (hb : Box w g (L.flatMap cP ++ tl) 30) :
    Calls Tryz.prog 82 #[.slice (some ⟨g, 0, none⟩) n cap] w fun e w' => ∃ M : List Pt, e = .returned (.slice (some ⟨g, 0, none⟩) M.length cap) ∧ RowAt cP 2 w' (some ⟨g, 0, none⟩) M ∧ Rising cmpP M ∧ (∀ p, p ∈ M ↔ p ∈ L) ∧ w.grownBy w' (some g) := by
 by_cases h2 : n < 2
 ·have HR := Lib.hid (zD6 hb n)
  have e : L.take n = L := List.take_of_length_le (by rw [hL.out]; omega)
  rw [e] at HR
  have hr : Hid (Rising cmpP L) := Lib.hid (by
   have := hL.out
   match L, this with
   | [], _ => simp [Rising]
   | [x], _ => simp [Rising]
   | _ :: _ :: _, h => simp at h; omega)
  clear e hb
  go_enter Tryz.func82, Tryz.ntmps82
  go_wp2
  go_ret
  exact ⟨L, by rw [hL.out]; rfl, HR.out, hr.out, fun p => Iff.rfl, zC1 _ _⟩
 ·go_enter Tryz.func82, Tryz.ntmps82
  go_wp2
  unfold maxLen at hcap2
  go_loopw [3] (fun vk wr => ∃ q : Nat, vk = .int .i64 ((q + 1 : Nat) : Int) ∧ q + 1 ≤ n ∧ Hid (∀ (i : Nat) (h0 : 0 < i) (_ : i < q + 1) (h2 : i < L.length), L[i] ≠ L[i - 1]'(by omega)) ∧ Below w.heap.size w wr) (fun vk _ => n - (intOf vk).toNat)
  case atStart => exact ⟨0, rfl, by omega, Lib.hid (fun i h0 h1 h2 => by omega), Below.refl _ _⟩
  case round =>
   obtain ⟨q, rfl, hq, hap, hw⟩ := hrel
   by_cases hlt : q + 1 < n
   case neg =>
    have HC := Lib.hid (Cpt.all wholeP ho.out n (by rw [hL.out]; omega) (by omega) (fun i h0 h1 h2 => hap.out i h0 (by omega) h2))
    have e : L.take n = L := List.take_of_length_le (by rw [hL.out]; omega)
    rw [e] at HC
    have HR := Lib.hid (zD6 (hb.ee hw) n)
    rw [e] at HR
    clear e
    go_wp2
    go_ret
    exact ⟨L, by rw [hL.out]; rfl, HR.out, HC.out.rise, fun p => by rw [HC.out.mem p, List.take_of_length_le (by rw [hL.out]; omega)], zA6 hw _⟩
   case pos =>
    have l1 : q + 1 < L.length := hL.out ▸ hlt
    have l0 : q < L.length := by omega
    have hb1 := hb.ee hw
    obtain ⟨u0, u1, _, _⟩ := zCs hb1 l1
    obtain ⟨v0, v1, _, _⟩ := zCs hb1 l0
    have e1 : IntKind.i64.wrap (q : Int) = q := by rw [IntKind.wrap_i64]; omega
    have l2 : q < n := by omega
    by_cases hx : L[q + 1] = L[q]
    case neg =>
     have hp : peqI L[q + 1].x L[q + 1].y L[q].x L[q].y = false := by rw [← Bool.not_eq_true, zBf]; exact hx
     have HA := Lib.hid (show ∀ (i : Nat) (h0 : 0 < i) (_ : i < q + 1 + 1) (h2 : i < L.length), L[i] ≠ L[i - 1]'(by omega) from fun i h0 h1 h2 => by
      by_cases e : i = q + 1
      ·subst e; exact hx
      ·exact hap.out i h0 (by omega) h2)
     clear hx hap hb1
     go_wp2
     go_quiet (fail)
     have hw2 : Below w.heap.size w (wr.drewN nq) := hw.trans ⟨rfl, rfl, rfl, Nat.le_refl _, fun _ _ => rfl⟩
     go_wp2
     go_roundw
     case rel => exact ⟨q + 1, by go_num, by omega, HA, hw2⟩
     case measure => simp [intOf]; omega
    case pos =>
     have hp : peqI L[q + 1].x L[q + 1].y L[q].x L[q].y = true := zBf.2 hx
     have HC := Lib.hid (((Cpt.all wholeP ho.out (q + 1) (by omega) (by omega) (fun i h0 h1 h2 => hap.out i h0 h1 h2)).same (by omega) l1 (by simpa using hx)))
     have hsl : ∀ w', (Instr.slice 52 (.slice (some ⟨g, 0, none⟩) n cap) (some (.int .i64 ((q : Int) + 1))) none none).run Tryz.prog w' = .ok (.slice (some ⟨g, (q + 1) * 2, none⟩) (n - (q + 1)) (cap - (q + 1))) w' := fun w' => by
      have := zFe (some ⟨g, 0, none⟩) n cap (q + 1) (by omega) w'
      rw [if_neg (by omega)] at this
      simpa [Addr.add_lit] using this
     obtain ⟨N2, hN2⟩ : ∃ N2, n - (q + 1) = N2 := ⟨_, rfl⟩
     obtain ⟨C2, hC2⟩ : ∃ C2, cap - (q + 1) = C2 := ⟨_, rfl⟩
     rw [hN2, hC2] at hsl
     have HN := Lib.hid hN2
     clear hN2 hC2 hx hap
     go_wp2
     go_quiet (fail)
     have hw2 : Below w.heap.size w (wr.drewN nq) := hw.trans ⟨rfl, rfl, rfl, Nat.le_refl _, fun _ _ => rfl⟩
     have hb2 := hb.ee hw2
     clear u0 u1 v0 v1 hp hb1
     go_wp2
     go_loopw [3, 5] (fun vk v2 wr => ∃ (k p : Nat) (S M : List Pt), vk = .int .i64 k ∧ v2 = .int .i64 ((p + 1 : Nat) : Int) ∧ p + 1 ≤ N2 ∧ 1 ≤ k ∧ Hid (Cpt cmpP L (q + 1 + (p + 1)) M) ∧ Hid (S.length = n) ∧ Hid (S.take k = M) ∧ Hid (M.length = k) ∧ k < q + 1 + (p + 1) ∧ Hid (∀ (j : Nat) (h1 : j < L.length) (h2 : j < S.length), q + 1 + (p + 1) ≤ j + 1 → S[j] = L[j]) ∧ Box wr g (S.flatMap cP ++ tl) 30 ∧ w.grownBy wr (some g)) (fun _ v2 _ => N2 - (intOf v2).toNat)
     case atStart => exact ⟨q + 1, 0, L, L.take (q + 1), rfl, rfl, by have := HN.out; omega, by omega, HC, hL, Lib.hid rfl, Lib.hid (by rw [List.length_take]; omega), by omega, Lib.hid (fun j h1 h2 _ => rfl), hb2, zA6 hw2 _⟩
     case round =>
      clear hb2 hw2 hw HC
      obtain ⟨k, p, S, M, rfl, rfl, hp2, hk1, hC, hS, hST, hMk, hkr, hSj, hbS, hg⟩ := hrel
      have hSl := hS.out
      have hnN := HN.out
      by_cases hlp : p + 1 < N2
      case neg =>
       have hr : q + 1 + (p + 1) = n := by omega
       have hkn : k < n := by omega
       have hkc : k < cap := by omega
       have HF := Lib.hid hC.out
       have hs2 : ∀ w', (Instr.slice 52 (.slice (some ⟨g, 0, none⟩) n cap) (some (.int .i64 (k : Int))) none none).run Tryz.prog w' = .ok (.slice (some ⟨g, k * 2, none⟩) (n - k) (cap - k)) w' := fun w' => by
        have := zFe (some ⟨g, 0, none⟩) n cap k (by omega) w'
        rw [if_neg (by omega)] at this
        simpa [Addr.add_lit] using this
       have hs3 : ∀ w', (Instr.slice 52 (.slice (some ⟨g, 0, none⟩) n cap) none (some (.int .i64 (k : Int))) none).run Tryz.prog w' = .ok (.slice (some ⟨g, 0, none⟩) k cap) w' := fun w' => run_upto_pt _ n cap k (by omega) w'
       have hf := hbS.f
       have hcl : ∀ ty, (Builtin.clear_ #[52] ty #[.slice (some ⟨g, k * 2, none⟩) (n - k) (cap - k)]).run Tryz.prog wr = .ok (.tuple #[]) (wr.setCells g (k * 2) (List.replicate ((n - k) * 2) (.int .i64 0))) := fun ty =>
        run_clear_pts wr ty g (k * 2) (n - k) (cap - k) (by omega) (fun j hj => by rw [hf.1, List.getElem?_append_left (by rw [zAw zCr, hSl]; omega), List.getElem?_eq_getElem (by rw [zAw zCr, hSl]; omega)]; rfl) (fun j hj => hf.2.1 _)
       have HR := Lib.hid (show RowAt cP 2 (wr.setCells g (k * 2) (List.replicate ((n - k) * 2) (.int .i64 0))) (some ⟨g, 0, none⟩) M by
        have h1 := zD6 hbS k
        rw [hST.out] at h1
        intro j x hj
        obtain ⟨ad, e, _, h3⟩ := h1 j x hj
        cases e
        have hjl := (List.getElem?_eq_some_iff.1 hj).1
        refine ⟨_, rfl, by rw [zEb]; exact hbS.lt, fun i u hu => ?_⟩
        have hi : i < 2 := (List.getElem?_eq_some_iff.1 hu).1
        have h4 := h3 i u hu
        rw [Addr.add_lit, Addr.add_lit] at h4 ⊢
        rw [zEi g _ _ _ _ (by have := hMk.out; omega)]
        exact h4)
       have HG := Lib.hid (show w.grownBy (wr.setCells g (k * 2) (List.replicate ((n - k) * 2) (.int .i64 0))) (some g) from zA9 hg (zC9 g _ _ _))
       clear hf hSl hnN hbS hg hC
       go_wp2
       go_ret
       exact ⟨M, by rw [hMk.out]; rfl, HR.out, HF.out.rise, fun x => by rw [HF.out.mem x, List.take_of_length_le (by rw [hL.out]; omega)], HG.out⟩
      case pos =>
       have hr : q + 1 + (p + 1) < n := by omega
       have lr : q + 1 + (p + 1) < L.length := hL.out ▸ hr
       have lr0 : q + 1 + p < L.length := by omega
       obtain ⟨u0, u1, _, _⟩ := zCs hbS (j := q + 1 + (p + 1)) (by omega)
       obtain ⟨v0, v1, _, _⟩ := zCs hbS (j := q + 1 + p) (by omega)
       rw [hSj.out _ lr (by omega) (by omega), show (q + 1 + (p + 1)) * 2 = (q + 1) * 2 + (p + 1) * 2 by omega] at u0 u1
       rw [hSj.out _ lr0 (by omega) (by omega), show (q + 1 + p) * 2 = (q + 1) * 2 + p * 2 by omega] at v0 v1
       obtain ⟨y0, y1, d0, d1, f0, f1⟩ : ∃ y0 y1, wr.cell? ⟨g, k * 2, none⟩ = some y0 ∧ wr.cell? ⟨g, k * 2 + 1, none⟩ = some y1 ∧ wr.frozen? ⟨g, k * 2, none⟩ = false ∧ wr.frozen? ⟨g, k * 2 + 1, none⟩ = false := ⟨_, _, zCs hbS (j := k) (by omega)⟩
       have e1 : IntKind.i64.wrap (p : Int) = p := by rw [IntKind.wrap_i64]; omega
       have l2 : p < N2 := by omega
       have hkn : k < n := by omega
       have HB := Lib.hid hbS
       have HG := Lib.hid hg
       have HSl := Lib.hid hSl
       by_cases hx : L[q + 1 + (p + 1)] = L[q + 1 + p]
       ·have hp : peqI L[q + 1 + (p + 1)].x L[q + 1 + (p + 1)].y L[q + 1 + p].x L[q + 1 + p].y = true := zBf.2 hx
        have HC := Lib.hid (hC.out.same (by omega) lr hx)
        have HJ := Lib.hid (show ∀ (j : Nat) (h1 : j < L.length) (h2 : j < S.length), q + 1 + (p + 1 + 1) ≤ j + 1 → S[j] = L[j] from fun j h1 h2 h3 => hSj.out j h1 h2 (by omega))
        generalize L[q + 1 + (p + 1)] = s1 at *
        generalize L[q + 1 + p] = s0 at *
        clear hx hSl hnN hbS hg hC hSj d0 d1 f0 f1
        go_wp2
        go_quiet (fail)
        have hdr : Below wr.heap.size wr (wr.drewN nq) := ⟨rfl, rfl, rfl, Nat.le_refl _, fun _ _ => rfl⟩
        go_wp2
        go_roundw
        case rel => exact ⟨k, p + 1, S, M, rfl, by go_num, by omega, by omega, HC, hS, hST, hMk, by omega, HJ, HB.out.ee hdr, zAa HG.out hdr⟩
        case measure => simp [intOf]; omega
       ·have hp : peqI L[q + 1 + (p + 1)].x L[q + 1 + (p + 1)].y L[q + 1 + p].x L[q + 1 + p].y = false := by rw [← Bool.not_eq_true, zBf]; exact hx
        have HC := Lib.hid (hC.out.next wholeP ho.out (by omega) lr hx)
        have HJ := Lib.hid (show ∀ (j : Nat) (h1 : j < L.length) (h2 : j < (S.set k L[q + 1 + (p + 1)]).length), q + 1 + (p + 1 + 1) ≤ j + 1 → (S.set k L[q + 1 + (p + 1)])[j] = L[j] from fun j h1 h2 h3 => by
         rw [List.getElem_set_ne (by omega)]
         exact hSj.out j h1 (by simpa using h2) (by omega))
        have HST := Lib.hid (show (S.set k L[q + 1 + (p + 1)]).take (k + 1) = M ++ [L[q + 1 + (p + 1)]] by
         rw [List.take_succ_eq_append_getElem (by simp; omega), List.take_set_of_le (Nat.le_refl _), hST.out, List.getElem_set_self])
        have HMk := Lib.hid (show (M ++ [L[q + 1 + (p + 1)]]).length = k + 1 by rw [List.length_append, hMk.out]; rfl)
        have HSS := Lib.hid (show (S.set k L[q + 1 + (p + 1)]).length = n by rw [List.length_set, hSl])
        generalize L[q + 1 + (p + 1)] = s1 at *
        generalize L[q + 1 + p] = s0 at *
        clear hx hSl hnN hbS hg hC hSj
        go_wp2
        go_quiet (fail)
        have hdr : Below wr.heap.size wr (wr.drewN nq) := ⟨rfl, rfl, rfl, Nat.le_refl _, fun _ _ => rfl⟩
        have HB2 := Lib.hid (zH8 (HB.out.ee hdr) (j := k) (by have := HSl.out; omega) s1)
        have HG2 := Lib.hid (zA9 (zAa HG.out hdr) (zC9 g [.int .i64 s1.x, .int .i64 s1.y] (k * 2) (wr.drewN nq)))
        go_wp2
        go_roundw
        case rel => exact ⟨k + 1, p + 1, S.set k s1, M ++ [s1], by go_num, by go_num, by omega, by omega, HC, HSS, HST, HMk, by omega, HJ, HB2.out, HG2.out⟩
        case measure => simp [intOf]; omega
theorem append_ptO {w : World} {ops : Array Oper} {rest : List Oper} {o : Oper} {a : Act} {Q : Exit → Act → World → Prop} (hgd : o.guard = none) (s x : Operand)
    (ho : o.op = .call { callee := .builtin .append, args := #[s, x], argTypes := #[52, 52] })
    (B : Nat) (v : Value) (L : List Pt) (hs : a.eval s = v) (hown : w.ownsRow B 30 2 v L.length (L.flatMap cP))
    (bx : Nat) (p : Pt) (hx : a.eval x = .slice (some ⟨bx, 0, none⟩) 1 1) (hbx : Box w bx (cP p) 30) (hn : L.length ≤ 1000000) (hbase : B ≤ w.heap.size)
    (h : ∀ w' v', w'.ownsRow B 30 2 v' (L ++ [p]).length ((L ++ [p]).flatMap cP) → w.grownBy w' v.ownBlock → v' ≠ .slice none 0 0 → wpList Tryz.prog ops Q rest (a.put o.dst v') w') : wpList Tryz.prog ops Q (o :: rest) a w := by
 obtain ⟨i0, hi, hz0, hz1, hz2⟩ := info_parts zDp
 refine wpList_append_own w hgd s x 52 ho B 30 i0 _ 2 16 Tryz.underlying52 hi hz0 hz1 hz2 rfl (by decide) v L.length _ hs hown ⟨bx, 0, none⟩ 1 1 (cP p) hx rfl ?_ (cP_one p) ?_ ?_ hbase ?_
 ·intro j u hj
  have := hbx.f.1 j
  rw [hj] at this
  rw [Addr.add_lit, Nat.zero_add]
  exact this
 ·unfold maxLen; omega
 ·omega
 ·intro v' w' hown' hg hnil
  refine h w' v' ?_ hg (fun e => by have := (hnil.1 e).2; omega)
  rw [List.length_append, List.length_singleton, List.flatMap_append]
  simpa using hown'
theorem box_of_row {w : World} {g : Nat} {cur : Array Value} {L : List Pt} (hb : w.heap[g]? = some (.cells cur 30 (0, 0))) (h : RowAt cP 2 w (some ⟨g, 0, none⟩) L) :
    ∃ tl, Box w g (L.flatMap cP ++ tl) 30 := by
 refine ⟨cur.toList.drop (L.length * 2), ?_⟩
 unfold Box
 rw [hb]
 have e : cur.toList.take (L.length * 2) = L.flatMap cP := by
  apply List.ext_getElem?
  intro t
  by_cases ht : t < L.length * 2
  ·have hj : t / 2 < L.length := by omega
   rw [List.getElem?_take_of_lt ht]
   have e2 := zB1 zCr L (t / 2) (t % 2) L[t / 2] (List.getElem?_eq_getElem hj) (by omega)
   rw [show t / 2 * 2 + t % 2 = t by omega] at e2
   rw [e2]
   obtain ⟨ad, e3, _, h3⟩ := h (t / 2) L[t / 2] (List.getElem?_eq_getElem hj)
   cases e3
   have hlt : t % 2 < (cP L[t / 2]).length := by rw [zCr]; omega
   have h4 := h3 (t % 2) _ (List.getElem?_eq_getElem hlt)
   rw [Addr.add_lit, Addr.add_lit] at h4
   simp only [World.cell?, hb, Option.isSome_none, Bool.false_eq_true, if_false] at h4
   rw [show 0 + t / 2 * 2 + t % 2 = t by omega] at h4
   rw [Array.getElem?_toList, h4, List.getElem?_eq_getElem hlt]
  ·rw [List.getElem?_eq_none (by rw [List.length_take]; omega), List.getElem?_eq_none (by rw [zAw zCr]; omega)]
 rw [← e, List.take_append_drop]
theorem sortP_box (B : Nat) (g cap : Nat) (L : List Pt) (hL : L.length ≤ 3000000) (w : World) (h : w.ownsRow B 30 2 (.slice (some ⟨g, 0, none⟩) L.length cap) L.length (L.flatMap cP)) :
    Calls Tryz.prog 80 #[.slice (some ⟨g, 0, none⟩) L.length cap, .func (.func 81) #[] #[]] w fun e w' => e = .returned (.tuple #[]) ∧ w.grownBy w' (some g) ∧ ∃ tl, Box w' g ((srt cmpP L).flatMap cP ++ tl) 30 := by
 obtain ⟨hH, hg⟩ := zDq zCr h
 have hc := AnyQ.slices_SortFunc_total sortPt 2 Tryz.isAgg30 Tryz.sizeOf30 cP zCr cP_one cmpP wholeP.swo 81 #[] g 0 cap L.toArray w enterP (cmpLaysP g 0 _ w) hH hg (by simp; omega) wholeP.one
 change Calls Tryz.prog 80 _ _ _ at hc
 rw [show L.toArray.size = L.length by simp] at hc
 rcases h.2 with ⟨h0, _⟩ | ⟨g', cap', cur, h0, hB, hb, h1, h2, h3, h4⟩
 ·cases h0
 ·simp only [Value.slice.injEq, Option.some.injEq, Addr.mk.injEq, and_true, true_and] at h0
  obtain ⟨e1, e3⟩ := h0
  subst e1 e3
  refine hc.mono fun e w' ⟨he, n, os, hw⟩ => ⟨he, ?_, ?_⟩
  ·rw [hw]; exact zBy _
  ·have hr := zD2 (L := srt cmpP L) zCr (zF0 (n := n) (os := os) (d' := (srt cmpP L).toArray) hH hg (by simp [srt])) (Nat.lt_of_lt_of_le hg (zBy (c := cP) (k := 2) _).size)
   have hbl : w'.heap[g]? = some (.cells (putCells id 0 (flatK cP 2 (srt cmpP L).toArray) cur) 30 (0, 0)) := by
    rw [hw]
    show (grow (putRow id (Sort.ahead w n) g 0 (flatK cP 2 (srt cmpP L).toArray)) os).heap[g]? = _
    rw [heap_grow_old _ _ (by simpa using hg)]
    simp [putRow, mapBlock, Sort.ahead, Array.getElem?_modify, hb, onCells]
   rw [hw] at hbl ⊢
   exact box_of_row hbl hr
def froms (E : Es) : List Pt := E.map fun e => e.1.1
theorem zFl (mb b : Nat) (E : Es) (hE : E.length ≤ 1000000) (w : World) (Bm : Box w mb [.map (some b)] 89) (Hm : HoldsMap eW eT okW w b E) :
    Calls Tryz.prog 42 #[.pointer (some ⟨mb, 0, none⟩)] w fun e w' => ∃ (M : List Pt) (a : Option Addr) (cap : Nat), e = .returned (.slice a M.length cap) ∧ RowAt cP 2 w' a M ∧ Rising cmpP M ∧ (∀ p, p ∈ M ↔ p ∈ froms E) ∧ Below w.heap.size w w' := by
 obtain ⟨i0, hi, hz0, hz1, hz2⟩ := info_parts zDp
 have Fm := Bm.f
 go_enter Tryz.func42, Tryz.ntmps42
 go_wp2_with (first | (at_len; refine zF7 _ rfl _ rfl kvM rfl Hm ?_) | (at_make; refine wpList_make_own _ rfl _ _ 52 rfl w.heap.size 30 i0 _ 2 Tryz.underlying52 hi hz0 hz1 .i64 .i64 _ E.length rfl rfl rfl (by rw [hz2]; omega) (by unfold maxLen; omega) (Nat.le_refl _) ?_; intro w0 own0 hg0; have Bm0 := Bm.ext (zCb hg0) rfl; have Fn := Bm0.f) | (at_range; refine zB7 _ rfl _ rfl kvM rfl (Hm.ext (zCb hg0) rfl) ?_))
 intro w1 HR0 hw1 _
 have hw01 := (zCb hg0).trans (hw1.mono hg0.size)
 have own1 := own0.kept (zA6 hw1 none) (.inr (by simp [Value.ownBlock]))
 have hr0 := Lib.hid hg0.size
 clear Fm Fn Bm0 own0 hw1 hg0
 go_wp2
 go_loopw [3] (fun v wr => ∃ D R : Es, Hid ((D ++ R).Perm E) ∧ Hid (v ≠ .slice none 0 0) ∧ wr.ownsRow w.heap.size 30 2 v (froms D).length ((froms D).flatMap cP) ∧ Ranging eW eT okW wr b w0.heap.size E R ∧ Below w.heap.size w wr) (fun _ wr => wr.rangeLeft b w0.heap.size)
 case atStart => exact ⟨[], E, Lib.hid (by simp), Lib.hid (by simp), own1, HR0, hw01⟩
 case round =>
  clear HR0 hw01 own1
  obtain ⟨D, R, hD, hnn, hown, HR, hw⟩ := hrel
  go_wp2_with (at_next; refine zBh _ rfl _ rfl rfl HR ?_ ?_)
  ·intro hR
   subst hR
   have hp0 : (froms D).Perm (froms E) := List.Perm.map _ (by simpa using hD.out : D.Perm E)
   have hle : (froms D).length ≤ 1000000 := by rw [hp0.length_eq]; unfold froms; rw [List.length_map]; exact hE
   have hown2 := hown.2
   rcases hown2 with ⟨e0, _⟩ | ⟨g, cap, cur, rfl, hB, hb, h1, h2, h3, h4⟩
   ·exact absurd e0 hnn.out
   ·have HS := Lib.hid (zAp (c := cmpP) (froms D))
    have HO := Lib.hid (wholeP.srt_order (froms D))
    have HL := Lib.hid hp0
    clear hp0 hb h3 h4
    go_wp2_with fail
    refine (sortP_box _ _ _ _ (by omega) _ hown).mono ?_
    rintro e w2 ⟨rfl, hg2, tl, hbx⟩
    have hw2 := hw.grown hg2 hw.size (fun k hk => by cases hk; exact hB)
    go_wp2_with fail
    refine (compact_any g cap (froms D).length (srt cmpP (froms D)) tl (Lib.hid HS.out.length_eq) hle h1 h2 HO _ hbx).mono ?_
    rintro e w3 ⟨M, rfl, hr, hri, hm, hg3⟩
    go_wp2
    go_ret
    exact ⟨M, _, cap, rfl, hr, hri, fun p => by rw [hm p, HS.out.mem_iff, HL.out.mem_iff], hw2.grown hg3 hw2.size (fun k hk => by cases hk; exact hB)⟩
  ·intro u x T R' w2 hperm HR1 hg1 hs1 hen
   have hD2 := Lib.hid (show ((D ++ [((u, x), T)]) ++ R').Perm E by have := (hperm.append_left D).symm.trans hD.out; simpa using this)
   have own2 := hown.kept hg1 (.inr (fun e => zAu hown HR e.symm))
   have hw2 := hw.grown hg1 hw.size (fun k hk => by cases hk; exact hr0.out)
   have HL := Lib.hid (show w2.rangeLeft b w0.heap.size < wr.rangeLeft b w0.heap.size by rw [zAf HR1, zAf HR, hperm.length_eq]; simp)
   have hen2 : (Instr.entry (.pointer (some ⟨w0.heap.size, 0, none⟩))).run Tryz.prog w2 = .ok (.tuple #[.agg #[.int .i64 u.x, .int .i64 u.y, .int .i64 x.x, .int .i64 x.y], .agg #[.int .i64 T.A.x, .int .i64 T.A.y, .int .i64 T.B.x, .int .i64 T.B.y, .int .i64 T.C.x, .int .i64 T.C.y]]) w2 := hen
   have hle : (froms D).length ≤ 1000000 := by have := hD2.out.length_eq; unfold froms; simp at *; omega
   have HH := Lib.hid (show froms (D ++ [((u, x), T)]) = froms D ++ [u] by unfold froms; rw [List.map_append]; rfl)
   have HB := Lib.hid hw2.size
   have hb3 : Below w2.heap.size w2 (w2.alloc (.cells #[.int .i64 u.x, .int .i64 u.y, .int .i64 x.x, .int .i64 x.y] 113)) := by go_grown
   have own3 := own2.alloc (.cells #[.int .i64 u.x, .int .i64 u.y, .int .i64 x.x, .int .i64 x.y] 113)
   have HO3 := Lib.hid own3
   clear hown HR hg1 hs1 hen hperm hw own2
   go_wp2_with (at_builtin; refine append_ptO rfl _ _ rfl w.heap.size _ (froms D) rfl (own3.alloc _) (w2.heap.size + 1) u rfl (Box.new (by simp)) hle (by have := HB.out; simp; omega) ?_; intro w4 v4 hown4 hg4 hn4)
   have hR3 := (HR1.ee hb3).kept (World.grownBy_alloc _ (.cells (cP u).toArray 30) none) (by simp) (by simp)
   have hR4 := hR3.kept hg4 (zC0 (own3.alloc _) hR3.holds) (zAu (own3.alloc _) hR3)
   have hw4 := ((((upB hw2 hb3)).alloc (by have := HB.out; simp; omega) (.cells (cP u).toArray 30))).grown hg4 (by have := HB.out; simp; omega) (fun k hk => ((own3.alloc (.cells (cP u).toArray 30)).lt k hk).1)
   go_roundw
   case rel => exact ⟨D ++ [((u, x), T)], R', hD2, Lib.hid hn4, by rw [HH.out]; exact hown4, hR4, hw4⟩
   case measure => rw [zAf hR4, ← zAf HR1]; exact HL.out
end Go.Proofs.YtmobnmjjmafibaaGreat
namespace Go.Proofs.YtmobnmjjmafibaaGreat
open Go.RowKit
def wys (T : Tri3) : Es := [((T.A, T.B), T), ((T.B, T.C), T), ((T.C, T.A), T)]
theorem zEl {T : Tri3} (h : valT T = true) : T.A ≠ T.B ∧ T.B ≠ T.C ∧ T.C ≠ T.A := by
 unfold valT at h
 simp only [Bool.and_eq_true, Bool.not_eq_true', decide_eq_false_iff_not] at h
 have h0 := h.1
 refine ⟨fun e => h0 ?_, fun e => h0 ?_, fun e => h0 ?_⟩
 ·rw [e]; unfold ori det; simp [sgn]
 ·rw [e]; unfold ori det; rw [Int.mul_comm (T.C.x - T.A.x)]; simp [sgn]
 ·rw [e]; unfold ori det; simp [sgn]
theorem zH3 {E : Es} {T : Tri3} (h : fitsE E T = true) : getE E (T.A, T.B) = none ∧ getE E (T.B, T.C) = none ∧ getE E (T.C, T.A) = none ∧ valT T = true := by
 unfold fitsE at h
 simpa only [Bool.and_eq_true, Option.isNone_iff_eq_none] using h
theorem putT_eq {E : Es} {T : Tri3} (h : fitsE E T = true) : (putT E T).Perm (E ++ wys T) := by
 obtain ⟨h1, h2, h3, hv⟩ := zH3 h
 obtain ⟨a1, a2, a3⟩ := zEl hv
 rw [zEg] at h1 h2 h3
 unfold putT putE wys
 rw [zDu h1, zDu (x := (T.B, T.C)) (E := ((T.A, T.B), T) :: E) (fun p hp => by
  rcases List.mem_cons.1 hp with rfl | hp
  ·intro e; simp at e; exact a1 e.1
  ·exact h2 p hp), zDu (x := (T.C, T.A)) (E := ((T.B, T.C), T) :: ((T.A, T.B), T) :: E) (fun p hp => by
  rcases List.mem_cons.1 hp with rfl | hp
  ·intro e; simp at e; exact a2 e.1
  ·rcases List.mem_cons.1 hp with rfl | hp
   ·intro e; simp at e; exact a3 e.1.symm
   ·exact h3 p hp)]
 refine List.Perm.trans ?_ (List.perm_append_comm (l₁ := [((T.A, T.B), T), ((T.B, T.C), T), ((T.C, T.A), T)]))
 exact (List.reverse_perm [((T.A, T.B), T), ((T.B, T.C), T), ((T.C, T.A), T)]).append_right E
structure Good (E : Es) (L : List Tri3) : Prop where
 perm : E.Perm (L.flatMap wys)
 nodup : KeysNodup E
 val : ∀ T ∈ L, valT T = true
theorem zHz : ∀ (L : List Tri3), (∀ T ∈ L, valT T = true) → heads yes (L.flatMap wys) = L
 | [], _ => rfl
 | T :: L, h => by
  obtain ⟨a1, a2, a3⟩ := zEl (h T (by simp))
  rw [List.flatMap_cons, zAt, zHz L (fun S hS => h S (by simp [hS]))]
  have : heads yes (wys T) = [T] := by
   unfold heads wys yes
   simp [Ne.symm a1, a3]
  rw [this]; rfl
theorem Good.heads {E : Es} {L : List Tri3} (h : Good E L) : (heads yes E).Perm L := by
 have := zCp (p := yes) h.perm
 rwa [zHz L h.val] at this
theorem zJn : ∀ L : List Tri3, (L.flatMap wys).length = 3 * L.length
 | [] => rfl
 | T :: L => by rw [List.flatMap_cons, List.length_append, zJn L, List.length_cons]; simp [wys]; omega
theorem Good.len {E : Es} {L : List Tri3} (h : Good E L) : E.length = 3 * L.length := by rw [h.perm.length_eq, zJn]
theorem zI2 : ∀ L : List Tri3, froms (L.flatMap wys) = cnrs L
 | [] => rfl
 | T :: L => by
  have ih := zI2 L
  unfold froms cnrs at *
  rw [List.flatMap_cons, List.map_append, ih, List.flatMap_cons]; rfl
theorem Good.froms {E : Es} {L S : List Tri3} (h : Good E L) (hS : S.Perm L) (p : Pt) : p ∈ froms E ↔ p ∈ cnrs S := by
 have h1 : (Go.Proofs.YtmobnmjjmafibaaGreat.froms E).Perm (cnrs L) := by
  rw [← zI2 L]; exact h.perm.map _
 rw [h1.mem_iff]
 unfold cnrs
 exact (hS.flatMap_right _).mem_iff.symm
theorem Good.left {E : Es} {L : List Tri3} (h : Good E L) {T : Tri3} (hT : T ∈ L) {i : Int} (hi : i = 0 ∨ i = 1 ∨ i = 2) : lftE E (crn T i) (crn T (i + 1)) = (T, true) := by
 refine zBe (zGa h.nodup (h.perm.mem_iff.2 (List.mem_flatMap.2 ⟨T, hT, ?_⟩)))
 rcases hi with rfl | rfl | rfl <;> simp [wys, crn, plc]
theorem zB2 {a b c : Pt} (va : vld a = true) (vb : vld b = true) (vc : vld c = true) (h : 0 < det a b c) : Cyc (mk a b c) a b c ∧ valT (mk a b c) = true := by
 have o : ori a b c = 1 := by rw [ori_v va vb vc, sgn_pos]; exact h
 have h0 : ¬ ori a b c = 0 := by omega
 obtain ⟨_, _, _, n1, n2, n3⟩ := zIw h0
 have e0 : mk a b c = mkT a b c := by unfold mk; rw [if_neg h0, if_pos o]
 refine ⟨?_, (mk_ok h0).1⟩
 rw [e0]
 rcases zDl va vb vc n1 n2 n3 with ⟨_, _, e⟩ | ⟨_, _, e⟩ | ⟨_, _, e⟩ <;> rw [e]
 ·exact .inl ⟨rfl, rfl, rfl⟩
 ·exact .inr (.inr ⟨rfl, rfl, rfl⟩)
 ·exact .inr (.inl ⟨rfl, rfl, rfl⟩)
theorem zIk {T : Tri3} (h : valT T = true) : key T.A < key T.B ∧ key T.A < key T.C := by
 obtain ⟨va, vb, vc, hD⟩ := zDe h
 obtain ⟨n1, n2, n3⟩ := zAh hD
 rw [zHb] at h
 unfold valS lds at h
 rw [zBm va vb, zBm va vc] at h
 simp only [Bool.and_eq_true, decide_eq_true_eq] at h
 have k1 : key T.A ≠ key T.B := fun e => n1 (zBj va vb e)
 have k2 : key T.A ≠ key T.C := fun e => n3 (zBj va vc e).symm
 omega
theorem val_cyc {S T : Tri3} (hS : valT S = true) (hT : valT T = true) (h : Cyc S T.A T.B T.C) : S = T := by
 have s := zIk hS
 have t := zIk hT
 rcases h with ⟨h1, h2, h3⟩ | ⟨h1, h2, h3⟩ | ⟨h1, h2, h3⟩
 ·cases S; cases T; simp_all
 ·rw [h1, h2, h3] at t; omega
 ·rw [h1, h2, h3] at t; omega
def part (p a b : Pt) : List Tri3 := if ori a b p = 0 then [] else [mk a b p]
def cutP (p : Pt) (T : Tri3) : List Tri3 := part p T.A T.B ++ (part p T.B T.C ++ part p T.C T.A)
theorem zAx {p a b : Pt} (va : vld a = true) (vb : vld b = true) (vp : vld p = true) (h : 0 < det a b p) : part p a b = [mk a b p] := by
 unfold part; rw [if_neg]; rw [ori_v va vb vp, zBk]; omega
theorem zCw {p a b : Pt} (va : vld a = true) (vb : vld b = true) (vp : vld p = true) (h : det a b p = 0) : part p a b = [] := by
 unfold part; rw [if_pos]; rw [ori_v va vb vp, h]; rfl
theorem zE6 {T : Tri3} {a b c : Pt} (h : Cyc T a b c) (p : Pt) : (cutP p T).Perm (part p a b ++ (part p b c ++ part p c a)) := by
 unfold cutP
 rcases h with ⟨rfl, rfl, rfl⟩ | ⟨rfl, rfl, rfl⟩ | ⟨rfl, rfl, rfl⟩
 ·exact .refl _
 ·exact List.perm_append_comm.trans (by rw [List.append_assoc])
 ·rw [← List.append_assoc]; exact List.perm_append_comm
theorem zH2 {L : List Tri3} (h : (L.flatMap ways).Nodup) : L.Nodup := by
 induction L with
 | nil => exact List.nodup_nil
 | cons T L ih =>
  rw [List.flatMap_cons, List.nodup_append] at h
  rw [List.nodup_cons]
  refine ⟨fun hT => ?_, ih h.2.1⟩
  exact h.2.2 (T.A, T.B) (by simp [ways]) (T.A, T.B) (List.mem_flatMap.2 ⟨T, hT, by simp [ways]⟩) rfl
theorem zH4 {α : Type} [DecidableEq α] {L : List α} (hn : L.Nodup) {p : α → Bool} {a : α} (ha : a ∈ L) (h : ∀ x ∈ L, p x = true ↔ x = a) : (L.filter p).Perm [a] ∧ L.Perm (a :: L.filter fun x => !p x) := by
 have h1 : (L.filter p).Perm [a] := by
  refine (List.perm_ext_iff_of_nodup (hn.sublist List.filter_sublist) (by simp)).2 fun x => ?_
  simp only [List.mem_filter, List.mem_singleton]
  exact ⟨fun ⟨k1, k2⟩ => (h x k1).1 k2, fun k => by subst k; exact ⟨ha, (h x ha).2 rfl⟩⟩
 refine ⟨h1, ?_⟩
 have := List.filter_append_perm p L
 exact this.symm.trans (h1.append_right _)
theorem filter_two {α : Type} [DecidableEq α] {L : List α} (hn : L.Nodup) {p : α → Bool} {a b : α} (ha : a ∈ L) (hb : b ∈ L) (hab : a ≠ b) (h : ∀ x ∈ L, p x = true ↔ (x = a ∨ x = b)) : (L.filter p).Perm [a, b] ∧ L.Perm (a :: b :: L.filter fun x => !p x) := by
 have h1 : (L.filter p).Perm [a, b] := by
  refine (List.perm_ext_iff_of_nodup (hn.sublist List.filter_sublist) (by simp [hab])).2 fun x => ?_
  simp only [List.mem_filter, List.mem_cons, List.not_mem_nil, or_false]
  refine ⟨fun ⟨k1, k2⟩ => (h x k1).1 k2, fun k => ?_⟩
  rcases k with rfl | rfl
  ·exact ⟨ha, (h x ha).2 (.inl rfl)⟩
  ·exact ⟨hb, (h x hb).2 (.inr rfl)⟩
 refine ⟨h1, ?_⟩
 have := List.filter_append_perm p L
 exact this.symm.trans (h1.append_right _)
inductive Spots (W H : Int) (L : List Tri3) (p : Pt) : List Tri3 → Prop
 | within (T : Tri3) : T ∈ L → insT T p → Spots W H L p [T]
 | rim (T : Tri3) (a b c : Pt) : T ∈ L → Cyc T a b c → edg a b c p → onRim W H a b → Spots W H L p [T]
 | edge (T S : Tri3) (a b c d : Pt) : T ∈ L → S ∈ L → Cyc T a b c → Cyc S b a d → edg a b c p → ¬ onRim W H a b → Spots W H L p [T, S]
section
variable {W H : Int} {L : List Tri3} (h : Tiles W H L)
include h
theorem Tiles.spots (hW : 0 < W) (hH : 0 < H) {p : Pt} (hp : inBox W H p) (hn : ∀ T ∈ L, ¬ isCnr T p) {f : Tri3 → Bool} (hf : ∀ T ∈ L, f T = true ↔ hasT T p) :
    ∃ F, Spots W H L p F ∧ (L.filter f).Perm F ∧ L.Perm (F ++ L.filter fun x => !f x) := by
 obtain ⟨T, hT, k⟩ := h.covers hW hH hp
 have nd := zH2 h.once
 rcases zI0 (h.pos T hT) k with g | g | ⟨a, b, c, hc, g⟩
 ·exact absurd g (hn T hT)
 ·have := zH4 nd hT (p := f) (fun x hx => by
     rw [hf x hx]
     exact ⟨fun q => (h.ins_one hT hx g q).symm, fun e => by rw [e]; exact k⟩)
  exact ⟨_, .within T hT g, this⟩
 ·have two := fun x hx (q : hasT x p) => h.edg_two hT hx hc g q (hn x hx)
  by_cases hr : onRim W H a b
  ·have := zH4 nd hT (p := f) (fun x hx => by
      rw [hf x hx]
      refine ⟨fun q => ?_, fun e => by rw [e]; exact k⟩
      rcases two x hx q with e | ⟨_, e⟩
      ·exact e
      ·exact absurd hr e)
   exact ⟨_, .rim T a b c hT hc g hr, this⟩
  ·have hm := (h.rim (a, b) (zG7 hT hc.way)).resolve_right hr
   obtain ⟨S, hS, hw⟩ := List.mem_flatMap.1 hm
   have hw : (b, a) ∈ ways S := hw
   obtain ⟨d, hd⟩ := zDd hw
   have pT := h.cyc_pos hT hc
   have pS := h.cyc_pos hS hd
   have ho := zDt pT pS g
   have hne : T ≠ S := by
    rintro rfl
    have e1 := (hd.cnr_iff c).1 hc.turn.turn.cnr
    obtain ⟨n1, n2, n3⟩ := zAh pT
    rcases e1 with e | e | e
    ·exact n2 e.symm
    ·exact n3 e
    ·rw [← e, zBw] at pS; omega
   have hasS : hasT S p := by
    obtain ⟨o1, o2, o3⟩ := ho
    have : 0 ≤ det b a p ∧ 0 ≤ det a d p ∧ 0 ≤ det d b p := ⟨by omega, by omega, by omega⟩
    unfold hasT
    rcases hd with ⟨rfl, rfl, rfl⟩ | ⟨rfl, rfl, rfl⟩ | ⟨rfl, rfl, rfl⟩
    ·exact this
    ·exact ⟨this.2.2, this.1, this.2.1⟩
    ·exact ⟨this.2.1, this.2.2, this.1⟩
   have := filter_two nd hT hS hne (p := f) (fun x hx => by
    rw [hf x hx]
    refine ⟨fun q => ?_, fun e => ?_⟩
    ·rcases two x hx q with e | ⟨e, _⟩
     ·exact .inl e
     ·exact .inr (flat_one h.once hx hS e hw)
    ·rcases e with rfl | rfl
     ·exact k
     ·exact hasS)
   exact ⟨_, .edge T S a b c d hT hS hc hd g hr, this⟩
theorem tiles_cut (hW : 0 < W) (hH : 0 < H) (hW' : W < 16777216) (hH' : H < 16777216) {p : Pt} (hp : inBox W H p) (hn : ∀ T ∈ L, ¬ isCnr T p) {F M : List Tri3} (hF : Spots W H L p F) (hL : L.Perm (F ++ M)) :
    Tiles W H (F.flatMap (cutP p) ++ M) ∧ (∀ T ∈ F.flatMap (cutP p), valT T = true ∧ isCnr T p) := by
 have vb : ∀ q, inBox W H q → vld q = true := fun q hq => by rw [zAr]; unfold inBox at hq; omega
 have vp := vb p hp
 cases hF with
 | within T hT hi =>
  have hc := Cyc.refl T
  have va := vb _ (h.cyc_box hT hc)
  have vb' := vb _ (h.cyc_box hT hc.turn)
  have vc := vb _ (h.cyc_box hT hc.turn.turn)
  obtain ⟨i1, i2, i3⟩ := hi
  have e : [T].flatMap (cutP p) = [mk T.A T.B p, mk T.B T.C p, mk T.C T.A p] := by
   simp only [List.flatMap_cons, List.flatMap_nil, List.append_nil]
   unfold cutP
   rw [zAx va vb' vp i1, zAx vb' vc vp i2, zAx vc va vp i3]; rfl
  rw [e]
  have m1 := zB2 va vb' vp i1
  have m2 := zB2 vb' vc vp i2
  have m3 := zB2 vc va vp i3
  refine ⟨h.cut3 hn hp hL hc ⟨i1, i2, i3⟩ m1.1 m2.1 m3.1, fun X hX => ?_⟩
  simp only [List.mem_cons, List.not_mem_nil, or_false] at hX
  rcases hX with rfl | rfl | rfl
  ·exact ⟨m1.2, m1.1.turn.turn.cnr⟩
  ·exact ⟨m2.2, m2.1.turn.turn.cnr⟩
  ·exact ⟨m3.2, m3.1.turn.turn.cnr⟩
 | rim T a b c hT hc hi hr =>
  have va := vb _ (h.cyc_box hT hc)
  have vb' := vb _ (h.cyc_box hT hc.turn)
  have vc := vb _ (h.cyc_box hT hc.turn.turn)
  obtain ⟨i1, i2, i3⟩ := hi
  have e : ([T].flatMap (cutP p)).Perm [mk b c p, mk c a p] := by
   simp only [List.flatMap_cons, List.flatMap_nil, List.append_nil]
   have := zE6 hc p
   rw [zCw va vb' vp i1, zAx vb' vc vp i2, zAx vc va vp i3] at this
   exact this
  have m2 := zB2 vb' vc vp i2
  have m3 := zB2 vc va vp i3
  refine ⟨(h.cut2r hn hp hL hc ⟨i1, i2, i3⟩ hr m2.1 m3.1).perm (e.symm.append_right M), fun X hX => ?_⟩
  rw [e.mem_iff] at hX
  simp only [List.mem_cons, List.not_mem_nil, or_false] at hX
  rcases hX with rfl | rfl
  ·exact ⟨m2.2, m2.1.turn.turn.cnr⟩
  ·exact ⟨m3.2, m3.1.turn.turn.cnr⟩
 | edge T S a b c d hT hS hc hd hi hr =>
  have va := vb _ (h.cyc_box hT hc)
  have vb' := vb _ (h.cyc_box hT hc.turn)
  have vc := vb _ (h.cyc_box hT hc.turn.turn)
  have vd := vb _ (h.cyc_box hS hd.turn.turn)
  have ho := zDt (h.cyc_pos hT hc) (h.cyc_pos hS hd) hi
  obtain ⟨i1, i2, i3⟩ := hi
  obtain ⟨o1, o2, o3⟩ := ho
  have e : ([T, S].flatMap (cutP p)).Perm [mk b c p, mk c a p, mk a d p, mk d b p] := by
   simp only [List.flatMap_cons, List.flatMap_nil, List.append_nil]
   have e1 := zE6 hc p
   rw [zCw va vb' vp i1, zAx vb' vc vp i2, zAx vc va vp i3] at e1
   have e2 := zE6 hd p
   rw [zCw vb' va vp o1, zAx va vd vp o2, zAx vd vb' vp o3] at e2
   exact e1.append e2
  have m1 := zB2 vb' vc vp i2
  have m2 := zB2 vc va vp i3
  have m3 := zB2 va vd vp o2
  have m4 := zB2 vd vb' vp o3
  refine ⟨(h.cut4 hn hp hL hc hd ⟨i1, i2, i3⟩ m1.1 m2.1 m3.1 m4.1).perm (e.symm.append_right M), fun X hX => ?_⟩
  rw [e.mem_iff] at hX
  simp only [List.mem_cons, List.not_mem_nil, or_false] at hX
  rcases hX with rfl | rfl | rfl | rfl
  ·exact ⟨m1.2, m1.1.turn.turn.cnr⟩
  ·exact ⟨m2.2, m2.1.turn.turn.cnr⟩
  ·exact ⟨m3.2, m3.1.turn.turn.cnr⟩
  ·exact ⟨m4.2, m4.1.turn.turn.cnr⟩
end
theorem zFu (L : List Tri3) : (L.flatMap wys).map (·.1) = L.flatMap ways := by
 induction L with
 | nil => rfl
 | cons T L ih => rw [List.flatMap_cons, List.flatMap_cons, List.map_append, ih]; rfl
theorem zIi {L : List Tri3} {w : Pt × Pt} {T : Tri3} : (w, T) ∈ L.flatMap wys ↔ T ∈ L ∧ w ∈ ways T := by
 rw [List.mem_flatMap]
 constructor
 ·rintro ⟨S, hS, h⟩
  simp only [wys, List.mem_cons, Prod.mk.injEq, List.not_mem_nil, or_false] at h
  rcases h with ⟨rfl, rfl⟩ | ⟨rfl, rfl⟩ | ⟨rfl, rfl⟩ <;> exact ⟨hS, by simp [ways]⟩
 ·rintro ⟨hS, h⟩
  refine ⟨T, hS, ?_⟩
  simp only [ways, List.mem_cons, List.not_mem_nil, or_false] at h
  rcases h with rfl | rfl | rfl <;> simp [wys]
section
variable {E : Es} {L : List Tri3} (h : Good E L)
include h
theorem Good.once : (L.flatMap ways).Nodup := by
 rw [← zFu]
 have hn := h.nodup
 unfold KeysNodup at hn
 exact (h.perm.map (·.1)).nodup_iff.1 hn
theorem Good.get {a b : Pt} {T : Tri3} : getE E (a, b) = some T ↔ T ∈ L ∧ (a, b) ∈ ways T := by
 rw [getE_iff h.nodup, h.perm.mem_iff, zIi]
theorem Good.get_none {a b : Pt} : getE E (a, b) = none ↔ (a, b) ∉ L.flatMap ways := by
 rw [zEg]
 constructor
 ·intro k hm
  rw [← zFu, List.mem_map] at hm
  obtain ⟨p, hp, e⟩ := hm
  exact k p (h.perm.mem_iff.2 hp) e
 ·intro k p hp e
  apply k
  rw [← zFu, List.mem_map]
  exact ⟨p, h.perm.mem_iff.1 hp, e⟩
theorem Good.has {T : Tri3} : hasE E T = true ↔ T ∈ L := by
 unfold hasE
 constructor
 ·intro k
  cases hg : getE E (T.A, T.B) with
  | none => rw [hg] at k; cases k
  | some S =>
   rw [hg] at k
   have e := zFa.1 k
   rw [← e]; exact (h.get.1 hg).1
 ·intro k
  rw [h.get.2 ⟨k, by simp [ways]⟩]
  exact zFa.2 rfl
theorem Good.order {M : List Tri3} (p : L.Perm M) : Good E M := ⟨h.perm.trans (p.flatMap_right _), h.nodup, fun T hT => h.val T (p.mem_iff.2 hT)⟩
end
theorem takeT_nodup {E : Es} (h : KeysNodup E) (T : Tri3) : KeysNodup (takeT E T) := zC2 (zC2 (zC2 h _) _) _
theorem Good.take {E : Es} {T : Tri3} {M : List Tri3} (h : Good E (T :: M)) : hasE E T = true ∧ Good (takeT E T) M := by
 refine ⟨h.has.2 (by simp), ?_, takeT_nodup h.nodup T, fun S hS => h.val S (by simp [hS])⟩
 have hT := h.val T (by simp)
 have ho := h.once
 rw [List.flatMap_cons, List.nodup_append] at ho
 -- what is taken: the three pairs of T
 have hp : E.Perm (wys T ++ M.flatMap wys) := by have := h.perm; rwa [List.flatMap_cons] at this
 have e1 : takeT E T = E.filter (fun p => decide (p.1 ∉ ways T)) := by
  unfold takeT delE
  rw [List.filter_filter, List.filter_filter]
  refine List.filter_congr fun p _ => ?_
  simp only [ways, List.mem_cons, List.not_mem_nil, or_false]
  by_cases a1 : p.1 = (T.A, T.B) <;> by_cases a2 : p.1 = (T.B, T.C) <;> by_cases a3 : p.1 = (T.C, T.A) <;> simp [a1, a2, a3]
 rw [e1]
 refine (hp.filter _).trans ?_
 rw [List.filter_append]
 have f1 : (wys T).filter (fun p => decide (p.1 ∉ ways T)) = [] := by
  rw [List.filter_eq_nil_iff]
  intro p hp'
  have : p.1 ∈ ways T := by
   have : p ∈ [T].flatMap wys := by simpa using hp'
   obtain ⟨q, S⟩ := p
   have := zIi.1 this
   simp only [List.mem_singleton] at this
   rw [← this.1]; exact this.2
  simpa using this
 have f2 : (M.flatMap wys).filter (fun p => decide (p.1 ∉ ways T)) = M.flatMap wys := by
  rw [List.filter_eq_self]
  intro p hp'
  have : p.1 ∉ ways T := fun k => ho.2.2 p.1 k p.1 (by rw [← zFu]; exact List.mem_map_of_mem hp') rfl
  simpa using this
 rw [f1, f2, List.nil_append]
theorem Good.put {E : Es} {T : Tri3} {M : List Tri3} (h : Good E M) (hv : valT T = true) (hn : ∀ w ∈ ways T, w ∉ M.flatMap ways) : fitsE E T = true ∧ Good (putT E T) (T :: M) := by
 have hf : fitsE E T = true := by
  unfold fitsE
  simp only [Bool.and_eq_true, Option.isNone_iff_eq_none]
  exact ⟨h.get_none.2 (hn _ (by simp [ways])), h.get_none.2 (hn _ (by simp [ways])), h.get_none.2 (hn _ (by simp [ways])), hv⟩
 refine ⟨hf, ?_, zCk (zCk (zCk h.nodup _ _) _ _) _ _, fun S hS => ?_⟩
 ·refine (putT_eq hf).trans ?_
  rw [List.flatMap_cons]
  exact (h.perm.append_right _).trans List.perm_append_comm
 ·rcases List.mem_cons.1 hS with rfl | hS
  ·exact hv
  ·exact h.val S hS
theorem Good.takes : ∀ {F : List Tri3} {E : Es} {M : List Tri3}, Good E (F ++ M) → (takeRun E F).1 = F.length ∧ Good (takeRun E F).2 M
 | [], E, M, h => ⟨rfl, h⟩
 | T :: F, E, M, h => by
  obtain ⟨h1, h2⟩ := Good.take (E := E) (T := T) (M := F ++ M) h
  obtain ⟨k1, k2⟩ := Good.takes h2
  unfold takeRun
  rw [if_pos h1]
  exact ⟨by simp [k1], k2⟩
theorem Good.puts : ∀ {I : List Tri3} {E : Es} {M : List Tri3}, Good E M → (∀ T ∈ I, valT T = true) → ((I ++ M).flatMap ways).Nodup → (putRun E I).1 = I.length ∧ Good (putRun E I).2 (I ++ M)
 | [], E, M, h, _, _ => ⟨rfl, h⟩
 | T :: I, E, M, h, hv, hn => by
  have hn' : (ways T ++ (I ++ M).flatMap ways).Nodup := by rw [← List.flatMap_cons]; exact hn
  rw [List.nodup_append] at hn'
  obtain ⟨h1, h2⟩ := Good.put (E := E) (T := T) (M := M) h (hv T (by simp)) (fun w hw k => hn'.2.2 w hw w (by rw [List.flatMap_append]; exact List.mem_append_right _ k) rfl)
  obtain ⟨k1, k2⟩ := Good.puts (I := I) h2 (fun S hS => hv S (by simp [hS])) ((zB5 (List.perm_middle (a := T) (l₁ := I) (l₂ := M))).nodup_iff.2 hn)
  unfold putRun
  rw [if_pos h1]
  exact ⟨by simp [k1], k2.order List.perm_middle⟩
def someC (L : List Tri3) (p : Pt) : Prop := ∃ T ∈ L, isCnr T p
structure Kept (K : Pt → Pt → Prop) (L L' : List Tri3) : Prop where
 len : L'.length = L.length
 cnr : ∀ p, someC L' p ↔ someC L p
 wall : ∀ a b, K a b → (a, b) ∈ L.flatMap ways → (a, b) ∈ L'.flatMap ways
theorem Kept.refl (K : Pt → Pt → Prop) (L : List Tri3) : Kept K L L := ⟨rfl, fun _ => Iff.rfl, fun _ _ _ h => h⟩
theorem Kept.trans {K : Pt → Pt → Prop} {A B C : List Tri3} (h : Kept K A B) (k : Kept K B C) : Kept K A C :=
 ⟨k.len.trans h.len, fun p => (k.cnr p).trans (h.cnr p), fun a b w m => k.wall a b w (h.wall a b w m)⟩
theorem Kept.perm {K : Pt → Pt → Prop} {L M : List Tri3} (p : L.Perm M) : Kept K L M :=
 ⟨p.length_eq.symm, fun q => by unfold someC; simp only [p.mem_iff], fun _ _ _ h => (zB5 p).mem_iff.1 h⟩
structure Flp (K : Pt → Pt → Prop) (L : List Tri3) (S R : Tri3) (M : List Tri3) (a b c d : Pt) : Prop where
 make ::
 perm : L.Perm (S :: R :: M)
 one : Cyc S a b c
 two : Cyc R b a d
 free : ¬ K a b ∧ ¬ K b a
 left : 0 < det c a d
 right : 0 < det d b c
section
variable {W H : Int} {K : Pt → Pt → Prop} {L : List Tri3} {S R : Tri3} {M : List Tri3} {a b c d : Pt}
theorem Flp.pts (f : Flp K L S R M a b c d) (h : Tiles W H L) : inBox W H a ∧ inBox W H b ∧ inBox W H c ∧ inBox W H d := by
 have mS : S ∈ L := f.perm.mem_iff.2 (by simp)
 have mR : R ∈ L := f.perm.mem_iff.2 (by simp)
 exact ⟨h.cyc_box mS f.one, h.cyc_box mS f.one.turn, h.cyc_box mS f.one.turn.turn, h.cyc_box mR f.two.turn.turn⟩
theorem Flp.news (f : Flp K L S R M a b c d) (h : Tiles W H L) (hW : W < 16777216) (hH : H < 16777216) :
    (Cyc (mk c a d) c a d ∧ valT (mk c a d) = true) ∧ (Cyc (mk d b c) d b c ∧ valT (mk d b c) = true) := by
 have vb : ∀ q, inBox W H q → vld q = true := fun q hq => by rw [zAr]; unfold inBox at hq; omega
 obtain ⟨ba, bb, bc, bd⟩ := f.pts h
 exact ⟨zB2 (vb _ bc) (vb _ ba) (vb _ bd) f.left, zB2 (vb _ bd) (vb _ bb) (vb _ bc) f.right⟩
theorem Flp.tiles (f : Flp K L S R M a b c d) (h : Tiles W H L) (hW : W < 16777216) (hH : H < 16777216) : Tiles W H (mk c a d :: mk d b c :: M) := by
 obtain ⟨u, v⟩ := f.news h hW hH
 exact h.flip f.perm f.one f.two f.left f.right u.1 v.1
theorem Flp.kept (f : Flp K L S R M a b c d) (h : Tiles W H L) (hW : W < 16777216) (hH : H < 16777216) : Kept K L (mk c a d :: mk d b c :: M) := by
 obtain ⟨⟨u, _⟩, v, _⟩ := f.news h hW hH
 refine (Kept.perm f.perm).trans ⟨rfl, fun p => ?_, fun x y hk hm => ?_⟩
 ·unfold someC
  simp only [List.mem_cons]
  constructor
  ·rintro ⟨T, rfl | rfl | hT, hp⟩
   ·rcases (u.cnr_iff p).1 hp with rfl | rfl | rfl
    ·exact ⟨S, .inl rfl, f.one.turn.turn.cnr⟩
    ·exact ⟨S, .inl rfl, f.one.cnr⟩
    ·exact ⟨R, .inr (.inl rfl), f.two.turn.turn.cnr⟩
   ·rcases (v.cnr_iff p).1 hp with rfl | rfl | rfl
    ·exact ⟨R, .inr (.inl rfl), f.two.turn.turn.cnr⟩
    ·exact ⟨S, .inl rfl, f.one.turn.cnr⟩
    ·exact ⟨S, .inl rfl, f.one.turn.turn.cnr⟩
   ·exact ⟨T, .inr (.inr hT), hp⟩
  ·rintro ⟨T, rfl | rfl | hT, hp⟩
   ·rcases (f.one.cnr_iff p).1 hp with rfl | rfl | rfl
    ·exact ⟨_, .inl rfl, u.turn.cnr⟩
    ·exact ⟨_, .inr (.inl rfl), v.turn.cnr⟩
    ·exact ⟨_, .inl rfl, u.cnr⟩
   ·rcases (f.two.cnr_iff p).1 hp with rfl | rfl | rfl
    ·exact ⟨_, .inr (.inl rfl), v.turn.cnr⟩
    ·exact ⟨_, .inl rfl, u.turn.cnr⟩
    ·exact ⟨_, .inr (.inl rfl), v.cnr⟩
   ·exact ⟨T, .inr (.inr hT), hp⟩
 ·rw [List.flatMap_cons, List.flatMap_cons] at hm ⊢
  simp only [List.mem_append] at hm ⊢
  rw [f.one.ways.mem_iff, f.two.ways.mem_iff] at hm
  rw [u.ways.mem_iff, v.ways.mem_iff]
  simp only [List.mem_cons, Prod.mk.injEq, List.not_mem_nil, or_false] at hm ⊢
  obtain ⟨f1, f2⟩ := f.free
  rcases hm with (⟨rfl, rfl⟩ | h | h) | (⟨rfl, rfl⟩ | h | h) | h
  ·exact absurd hk f1
  ·exact .inr (.inl (.inr (.inl h)))
  ·exact .inl (.inl h)
  ·exact absurd hk f2
  ·exact .inl (.inr (.inl h))
  ·exact .inr (.inl (.inl h))
  ·exact .inr (.inr h)
theorem Flp.good {E : Es} (f : Flp K L S R M a b c d) (g : Good E L) (h : Tiles W H L) (hW : W < 16777216) (hH : H < 16777216) :
    ((takeRun E [S, R]).1 = 2 ∧ (putRun (takeRun E [S, R]).2 [mk c a d, mk d b c]).1 = 2) ∧ Good (putRun (takeRun E [S, R]).2 [mk c a d, mk d b c]).2 (mk c a d :: mk d b c :: M) := by
 have k := Good.takes (F := [S, R]) (M := M) (g.order f.perm)
 obtain ⟨u, v⟩ := f.news h hW hH
 have t := f.tiles h hW hH
 have p := Good.puts (I := [mk c a d, mk d b c]) k.2 (fun T hT => by
  simp only [List.mem_cons, List.not_mem_nil, or_false] at hT
  rcases hT with rfl | rfl
  ·exact u.2
  ·exact v.2) t.once
 exact ⟨⟨k.1, p.1⟩, p.2⟩
theorem Flp.less {h : Pt → Int} (f : Flp K L S R M a b c d) (t : Tiles W H L) (hW : W < 16777216) (hH : H < 16777216) (hp : 0 < PH h a b c d) : volS h (mk c a d :: mk d b c :: M) < volS h L := by
 obtain ⟨u, v⟩ := f.news t hW hH
 rw [volS_perm f.perm, vol_flip h M f.one f.two u.1 v.1]
 omega
end
theorem Tiles.vols {W H : Int} {L : List Tri3} (h : Tiles W H L) (hW : W < 16777216) (hH : H < 16777216) {ht : Pt → Int} (hh : Hts ht) : 0 ≤ volS ht L := by
 have vb : ∀ q, inBox W H q → vld q = true := fun q hq => by rw [zAr]; unfold inBox at hq; omega
 refine zJo hh fun T hT => ⟨h.pos T hT, vb _ (h.box T hT).1, vb _ (h.box T hT).2.1, vb _ (h.box T hT).2.2⟩
theorem Tiles.flip_bad {W H : Int} {K : Pt → Pt → Prop} {L : List Tri3} (h : Tiles W H L) (hW : W < 16777216) (hH : H < 16777216) {ht : Pt → Int} (hh : Hts ht) {S R : Tri3} (hS : S ∈ L) (hR : R ∈ L) {a b c d : Pt} (cS : Cyc S a b c) (cR : Cyc R b a d) (hk : ¬ K a b ∧ ¬ K b a) (hb : circ a b c d = 1) :
    0 < PH ht a b c d ∧ ∃ M, Flp K L S R M a b c d := by
 have vb : ∀ q, inBox W H q → vld q = true := fun q hq => by rw [zAr]; unfold inBox at hq; omega
 have p1 := h.cyc_pos hS cS
 have p2 := h.cyc_pos hR cR
 obtain ⟨q1, q2, q3⟩ := zAh p2
 have dc : d ≠ c := by
  rintro rfl
  rw [zBw] at p2; omega
 have sg := hh.sign a b c d (vb _ (h.cyc_box hS cS)) (vb _ (h.cyc_box hS cS.turn)) (vb _ (h.cyc_box hS cS.turn.turn)) (vb _ (h.cyc_box hR cR.turn.turn)) p1 (Ne.symm q2) q3 dc
 have hne : S ≠ R := by
  rintro rfl
  obtain ⟨n1, n2, n3⟩ := zAh p1
  rcases (cR.cnr_iff c).1 cS.turn.turn.cnr with e | e | e
  ·exact n2 e.symm
  ·exact n3 e
  ·exact dc e.symm
 rcases sg with ⟨_, s2, s3⟩ | ⟨s1, _⟩
 ·obtain ⟨x, y⟩ := convex p1 p2 s3
  obtain ⟨M, hM⟩ := zEm hS hR hne
  exact ⟨s2, M, hM, cS, cR, hk, x, y⟩
 ·omega
def allBack (L : List Tri3) (p : Pt) : Prop := ∀ w ∈ L.flatMap ways, w.1 = p ∨ w.2 = p → (w.2, w.1) ∈ L.flatMap ways
def atRim (W H : Int) (p : Pt) : Prop := p.x = 0 ∨ p.y = 0 ∨ p.x = W ∨ p.y = H
theorem zEp {L : List Tri3} (hpos : ∀ T ∈ L, 0 < det T.A T.B T.C) {al be ga : Int} (hu : al * al + be * be = 1) (hf : ∀ T ∈ L, ∀ q, isCnr T q → 0 ≤ al * q.x + be * q.y + ga) {p : Pt} (hp : al * p.x + be * p.y + ga = 0) (hc : someC L p) : ¬ allBack L p := by
 intro hb
 have cycpos : ∀ {T : Tri3} {a b c : Pt}, T ∈ L → Cyc T a b c → 0 < det a b c := fun hT hc => by rw [hc.det]; exact hpos _ hT
 obtain ⟨f, ef⟩ : ∃ f : Pt → Int, ∀ q, f q = al * q.x + be * q.y + ga := ⟨_, fun _ => rfl⟩
 obtain ⟨g, eg⟩ : ∃ g : Pt → Int, ∀ q, g q = be * (q.x - p.x) - al * (q.y - p.y) := ⟨_, fun _ => rfl⟩
 have hf : ∀ T ∈ L, ∀ q, isCnr T q → 0 ≤ f q := fun T hT q hq => by rw [ef]; exact hf T hT q hq
 have hp : f p = 0 := by rw [ef]; exact hp
 have hd : ∀ x y, det p x y = g x * f y - f x * g y := by
  intro x y
  have e1 : g x * f y - f x * g y = (al * al + be * be) * det p x y + (g x - g y) * f p := by
   rw [eg, eg, ef, ef, ef]; unfold det; grind
  rw [e1, hu, hp, Int.one_mul, Int.mul_zero, Int.add_zero]
 clear ef eg hu
 -- the first ways of those that stand around
 let F : List Pt := (L.flatMap ways).filterMap fun w => if w.1 = p then some w.2 else none
 have mF : ∀ x, x ∈ F ↔ (p, x) ∈ L.flatMap ways := by
  intro x
  simp only [F, List.mem_filterMap]
  constructor
  ·rintro ⟨⟨a, b⟩, hw, e⟩
   split at e
   ·rename_i e1
    simp only [Option.some.injEq] at e
    simp only at e1
    rw [← e, ← e1]; exact hw
   ·cases e
  ·intro hw; exact ⟨_, hw, by simp⟩
 have tri : ∀ x, x ∈ F → ∃ T ∈ L, ∃ y, Cyc T p x y := by
  intro x hx
  obtain ⟨T, hT, hw⟩ := List.mem_flatMap.1 ((mF x).1 hx)
  obtain ⟨y, hy⟩ := zDd hw
  exact ⟨T, hT, y, hy⟩
 -- of each the triangle on its right
 have right : ∀ x, x ∈ F → ∃ T ∈ L, ∃ z, Cyc T p z x := by
  intro x hx
  have := hb (p, x) ((mF x).1 hx) (.inl rfl)
  obtain ⟨T, hT, hw⟩ := List.mem_flatMap.1 this
  have hw : (x, p) ∈ ways T := hw
  obtain ⟨z, hz⟩ := zDd hw
  exact ⟨T, hT, z, hz.turn⟩
 have fpos : ∀ x ∈ F, 0 < f x := by
  intro x hx
  obtain ⟨T, hT, z, hz⟩ := right x hx
  obtain ⟨S, hS, y, hy⟩ := tri x hx
  have p1 := cycpos hT hz
  have p2 := cycpos hS hy
  have a1 := hf T hT x hz.turn.turn.cnr
  have a2 := hf T hT z hz.turn.cnr
  have a3 := hf S hS y hy.turn.turn.cnr
  refine Decidable.byContradiction fun k => ?_
  have z0 : f x = 0 := by omega
  rw [hd, z0] at p1 p2
  simp only [Int.mul_zero, Int.zero_mul, Int.zero_sub, Int.sub_zero] at p1 p2
  have n1 : g x < 0 := by
   refine Decidable.byContradiction fun k => ?_
   have := Int.mul_nonneg a2 (show 0 ≤ g x by omega)
   omega
  have := Int.mul_nonneg (show 0 ≤ - g x by omega) a3
  rw [Int.neg_mul] at this
  omega
 obtain ⟨T, hT, hp'⟩ := hc
 obtain ⟨x0, y0, h0⟩ := cnr_cyc hp'
 have hx0 : x0 ∈ F := (mF x0).2 (zG7 hT h0.way)
 obtain ⟨x, hx, hmax⟩ := zHw g f F (List.ne_nil_of_mem hx0) fpos
 obtain ⟨R, hR, z, hz⟩ := right x hx
 have hzF : z ∈ F := (mF z).2 (zG7 hR hz.way)
 have p1 := cycpos hR hz
 rw [hd] at p1
 have := hmax z hzF
 have e : f z * g x = g x * f z := Int.mul_comm _ _
 omega
theorem Tiles.open {W H : Int} {L : List Tri3} (h : Tiles W H L) {p : Pt} (hp : atRim W H p) (hc : someC L p) : ¬ allBack L p := by
 have bx : ∀ T ∈ L, ∀ q, isCnr T q → inBox W H q := by
  intro T hT q hq
  have := h.box T hT
  rcases hq with rfl | rfl | rfl
  ·exact this.1
  ·exact this.2.1
  ·exact this.2.2
 rcases hp with k | k | k | k
 ·exact zEp h.pos (al := 1) (be := 0) (ga := 0) (by omega) (fun T hT q hq => by have := bx T hT q hq; unfold inBox at this; omega) (by omega) hc
 ·exact zEp h.pos (al := 0) (be := 1) (ga := 0) (by omega) (fun T hT q hq => by have := bx T hT q hq; unfold inBox at this; omega) (by omega) hc
 ·exact zEp h.pos (al := -1) (be := 0) (ga := W) (by omega) (fun T hT q hq => by have := bx T hT q hq; unfold inBox at this; omega) (by omega) hc
 ·exact zEp h.pos (al := 0) (be := -1) (ga := H) (by omega) (fun T hT q hq => by have := bx T hT q hq; unfold inBox at this; omega) (by omega) hc
theorem zK4 {W H : Int} {a b c p : Pt} (h1 : 0 < det a b c) (ba : inBox W H a) (bb : inBox W H b) (he : edg a b c p) : atRim W H p ↔ onRim W H a b := by
 obtain ⟨z, q1, q2⟩ := he
 have s := zEh a b c p
 have ex : det a b c * p.x = det b c p * a.x + det c a p * b.x + det a b p * c.x := by unfold det; grind
 have ey : det a b c * p.y = det b c p * a.y + det c a p * b.y + det a b p * c.y := by unfold det; grind
 rw [z, Int.zero_mul] at ex ey
 rw [z] at s
 have key : ∀ u v t : Int, 0 ≤ u → 0 ≤ v → det a b c * t = det b c p * u + det c a p * v → (t = 0 ↔ u = 0 ∧ v = 0) := by
  intro u v t hu hv e
  have m1 := Int.mul_nonneg (Int.le_of_lt q1) hu
  have m2 := Int.mul_nonneg (Int.le_of_lt q2) hv
  constructor
  ·intro h; rw [h, Int.mul_zero] at e
   have z1 : det b c p * u = 0 := by omega
   have z2 : det c a p * v = 0 := by omega
   rcases Int.mul_eq_zero.1 z1 with k | k <;> rcases Int.mul_eq_zero.1 z2 with k' | k' <;> omega
  ·rintro ⟨rfl, rfl⟩
   rw [Int.mul_zero, Int.mul_zero] at e
   rcases Int.mul_eq_zero.1 (show det a b c * t = 0 by omega) with k | k <;> omega
 unfold inBox at ba bb
 have k1 := key a.x b.x p.x ba.1.1 bb.1.1 (by omega)
 have k2 := key a.y b.y p.y ba.2.1 bb.2.1 (by omega)
 have s' : det b c p + det c a p = det a b c := by omega
 have w1 : det a b c * W = det b c p * W + det c a p * W := by rw [← s', Int.add_mul]
 have w2 : det a b c * H = det b c p * H + det c a p * H := by rw [← s', Int.add_mul]
 have k3 := key (W - a.x) (W - b.x) (W - p.x) (by omega) (by omega) (by rw [Int.mul_sub, Int.mul_sub, Int.mul_sub]; omega)
 have k4 := key (H - a.y) (H - b.y) (H - p.y) (by omega) (by omega) (by rw [Int.mul_sub, Int.mul_sub, Int.mul_sub]; omega)
 unfold atRim onRim
 omega
theorem ins_norim {W H : Int} {T : Tri3} {p : Pt} (hp : 0 < det T.A T.B T.C) (hb : inBox W H T.A ∧ inBox W H T.B ∧ inBox W H T.C) (hi : insT T p) : ¬ atRim W H p := by
 obtain ⟨q1, q2, q3⟩ := hi
 have s := zEh T.A T.B T.C p
 have ex : det T.A T.B T.C * p.x = det T.B T.C p * T.A.x + det T.C T.A p * T.B.x + det T.A T.B p * T.C.x := by unfold det; grind
 have ey : det T.A T.B T.C * p.y = det T.B T.C p * T.A.y + det T.C T.A p * T.B.y + det T.A T.B p * T.C.y := by unfold det; grind
 have flat : ∀ al be ga : Int, al * T.A.x + be * T.A.y + ga = 0 → al * T.B.x + be * T.B.y + ga = 0 → al * T.C.x + be * T.C.y + ga = 0 → (al ≠ 0 ∨ be ≠ 0) → False := by
  intro al be ga e1 e2 e3 hn
  have i1 : al * det T.A T.B T.C = ((al * T.B.x + be * T.B.y + ga) - (al * T.A.x + be * T.A.y + ga)) * (T.C.y - T.A.y) - ((al * T.C.x + be * T.C.y + ga) - (al * T.A.x + be * T.A.y + ga)) * (T.B.y - T.A.y) := by unfold det; grind
  have i2 : be * det T.A T.B T.C = ((al * T.C.x + be * T.C.y + ga) - (al * T.A.x + be * T.A.y + ga)) * (T.B.x - T.A.x) - ((al * T.B.x + be * T.B.y + ga) - (al * T.A.x + be * T.A.y + ga)) * (T.C.x - T.A.x) := by unfold det; grind
  rw [e1, e2, e3] at i1 i2
  simp only [Int.sub_self, Int.zero_mul] at i1 i2
  rcases Int.mul_eq_zero.1 i1 with k | k <;> rcases Int.mul_eq_zero.1 i2 with k' | k' <;> omega
 have key : ∀ al be ga : Int, (al ≠ 0 ∨ be ≠ 0) → 0 ≤ al * T.A.x + be * T.A.y + ga → 0 ≤ al * T.B.x + be * T.B.y + ga → 0 ≤ al * T.C.x + be * T.C.y + ga → al * p.x + be * p.y + ga ≠ 0 := by
  intro al be ga hn h1 h2 h3 e
  have i : det T.A T.B T.C * (al * p.x + be * p.y + ga) = det T.B T.C p * (al * T.A.x + be * T.A.y + ga) + det T.C T.A p * (al * T.B.x + be * T.B.y + ga) + det T.A T.B p * (al * T.C.x + be * T.C.y + ga) := by unfold det; grind
  rw [e, Int.mul_zero] at i
  have m1 := Int.mul_nonneg (Int.le_of_lt q2) h1
  have m2 := Int.mul_nonneg (Int.le_of_lt q3) h2
  have m3 := Int.mul_nonneg (Int.le_of_lt q1) h3
  have z1 := (Int.mul_eq_zero.1 (show det T.B T.C p * (al * T.A.x + be * T.A.y + ga) = 0 by omega)).resolve_left (by omega)
  have z2 := (Int.mul_eq_zero.1 (show det T.C T.A p * (al * T.B.x + be * T.B.y + ga) = 0 by omega)).resolve_left (by omega)
  have z3 := (Int.mul_eq_zero.1 (show det T.A T.B p * (al * T.C.x + be * T.C.y + ga) = 0 by omega)).resolve_left (by omega)
  exact flat al be ga z1 z2 z3 hn
 unfold inBox at hb
 have k1 := key 1 0 0 (by omega) (by omega) (by omega) (by omega)
 have k2 := key 0 1 0 (by omega) (by omega) (by omega) (by omega)
 have k3 := key (-1) 0 W (by omega) (by omega) (by omega) (by omega)
 have k4 := key 0 (-1) H (by omega) (by omega) (by omega) (by omega)
 unfold atRim
 omega
theorem has_box {W H : Int} {T : Tri3} {p : Pt} (hp : 0 < det T.A T.B T.C) (hb : inBox W H T.A ∧ inBox W H T.B ∧ inBox W H T.C) (hi : hasT T p) : inBox W H p := by
 obtain ⟨q1, q2, q3⟩ := hi
 have key : ∀ al be ga : Int, 0 ≤ al * T.A.x + be * T.A.y + ga → 0 ≤ al * T.B.x + be * T.B.y + ga → 0 ≤ al * T.C.x + be * T.C.y + ga → 0 ≤ al * p.x + be * p.y + ga := by
  intro al be ga h1 h2 h3
  have i : det T.A T.B T.C * (al * p.x + be * p.y + ga) = det T.B T.C p * (al * T.A.x + be * T.A.y + ga) + det T.C T.A p * (al * T.B.x + be * T.B.y + ga) + det T.A T.B p * (al * T.C.x + be * T.C.y + ga) := by unfold det; grind
  have m1 := Int.mul_nonneg q2 h1
  have m2 := Int.mul_nonneg q3 h2
  have m3 := Int.mul_nonneg q1 h3
  exact (zB9 hp).1 (by omega)
 unfold inBox at *
 have k1 := key 1 0 0 (by omega) (by omega) (by omega)
 have k2 := key 0 1 0 (by omega) (by omega) (by omega)
 have k3 := key (-1) 0 W (by omega) (by omega) (by omega)
 have k4 := key 0 (-1) H (by omega) (by omega) (by omega)
 omega
theorem zDg (T : Tri3) (L : List Tri3) (q : Pt) : someC (T :: L) q ↔ isCnr T q ∨ someC L q := by
 unfold someC; simp
theorem zDf {L M : List Tri3} (p : L.Perm M) (q : Pt) : someC L q ↔ someC M q := by
 unfold someC; simp only [p.mem_iff]
theorem zEw (L M : List Tri3) (q : Pt) : someC (L ++ M) q ↔ someC L q ∨ someC M q := by
 unfold someC
 simp only [List.mem_append]
 constructor
 ·rintro ⟨T, h | h, k⟩
  ·exact .inl ⟨T, h, k⟩
  ·exact .inr ⟨T, h, k⟩
 ·rintro (⟨T, h, k⟩ | ⟨T, h, k⟩)
  ·exact ⟨T, .inl h, k⟩
  ·exact ⟨T, .inr h, k⟩
theorem zEo (q : Pt) : ¬ someC [] q := by unfold someC; simp
theorem cut_counts {W H : Int} {L : List Tri3} (h : Tiles W H L) (hW' : W < 16777216) (hH' : H < 16777216) {p : Pt} (hp : inBox W H p) {F : List Tri3} (hF : Spots W H L p F) :
    (∀ q, someC (F.flatMap (cutP p)) q ↔ someC F q ∨ q = p) ∧ ((F.flatMap (cutP p)).length = F.length + 2 ∧ ¬ atRim W H p ∨ (F.flatMap (cutP p)).length = F.length + 1 ∧ atRim W H p) := by
 have vb : ∀ q, inBox W H q → vld q = true := fun q hq => by rw [zAr]; unfold inBox at hq; omega
 have vp := vb p hp
 cases hF with
 | within T hT hi =>
  have hc := Cyc.refl T
  have va := vb _ (h.cyc_box hT hc)
  have vb' := vb _ (h.cyc_box hT hc.turn)
  have vc := vb _ (h.cyc_box hT hc.turn.turn)
  obtain ⟨i1, i2, i3⟩ := hi
  have e : [T].flatMap (cutP p) = [mk T.A T.B p, mk T.B T.C p, mk T.C T.A p] := by
   simp only [List.flatMap_cons, List.flatMap_nil, List.append_nil]
   unfold cutP
   rw [zAx va vb' vp i1, zAx vb' vc vp i2, zAx vc va vp i3]; rfl
  rw [e]
  have m1 := (zB2 va vb' vp i1).1
  have m2 := (zB2 vb' vc vp i2).1
  have m3 := (zB2 vc va vp i3).1
  refine ⟨fun q => ?_, .inl ⟨rfl, ins_norim (h.pos T hT) (h.box T hT) ⟨i1, i2, i3⟩⟩⟩
  simp only [zDg, m1.cnr_iff, m2.cnr_iff, m3.cnr_iff, hc.cnr_iff, iff_false_intro (zEo q), or_false]
  constructor
  ·rintro ((k | k | k) | (k | k | k) | (k | k | k)) <;> simp [k]
  ·rintro ((k | k | k) | k) <;> simp [k]
 | rim T a b c hT hc hi hr =>
  have va := vb _ (h.cyc_box hT hc)
  have vb' := vb _ (h.cyc_box hT hc.turn)
  have vc := vb _ (h.cyc_box hT hc.turn.turn)
  have hrim := (zK4 (h.cyc_pos hT hc) (h.cyc_box hT hc) (h.cyc_box hT hc.turn) hi).2 hr
  obtain ⟨i1, i2, i3⟩ := hi
  have e : ([T].flatMap (cutP p)).Perm [mk b c p, mk c a p] := by
   simp only [List.flatMap_cons, List.flatMap_nil, List.append_nil]
   have := zE6 hc p
   rw [zCw va vb' vp i1, zAx vb' vc vp i2, zAx vc va vp i3] at this
   exact this
  have m2 := (zB2 vb' vc vp i2).1
  have m3 := (zB2 vc va vp i3).1
  refine ⟨fun q => ?_, .inr ⟨by rw [e.length_eq]; rfl, hrim⟩⟩
  rw [zDf e]
  simp only [zDg, m2.cnr_iff, m3.cnr_iff, hc.cnr_iff, iff_false_intro (zEo q), or_false]
  constructor
  ·rintro ((k | k | k) | (k | k | k)) <;> simp [k]
  ·rintro ((k | k | k) | k) <;> simp [k]
 | edge T S a b c d hT hS hc hd hi hr =>
  have va := vb _ (h.cyc_box hT hc)
  have vb' := vb _ (h.cyc_box hT hc.turn)
  have vc := vb _ (h.cyc_box hT hc.turn.turn)
  have vd := vb _ (h.cyc_box hS hd.turn.turn)
  have ho := zDt (h.cyc_pos hT hc) (h.cyc_pos hS hd) hi
  have hrim : ¬ atRim W H p := fun k => hr ((zK4 (h.cyc_pos hT hc) (h.cyc_box hT hc) (h.cyc_box hT hc.turn) hi).1 k)
  obtain ⟨i1, i2, i3⟩ := hi
  obtain ⟨o1, o2, o3⟩ := ho
  have e : ([T, S].flatMap (cutP p)).Perm [mk b c p, mk c a p, mk a d p, mk d b p] := by
   simp only [List.flatMap_cons, List.flatMap_nil, List.append_nil]
   have e1 := zE6 hc p
   rw [zCw va vb' vp i1, zAx vb' vc vp i2, zAx vc va vp i3] at e1
   have e2 := zE6 hd p
   rw [zCw vb' va vp o1, zAx va vd vp o2, zAx vd vb' vp o3] at e2
   exact e1.append e2
  have m1 := (zB2 vb' vc vp i2).1
  have m2 := (zB2 vc va vp i3).1
  have m3 := (zB2 va vd vp o2).1
  have m4 := (zB2 vd vb' vp o3).1
  refine ⟨fun q => ?_, .inl ⟨by rw [e.length_eq]; rfl, hrim⟩⟩
  rw [zDf e]
  simp only [zDg, m1.cnr_iff, m2.cnr_iff, m3.cnr_iff, m4.cnr_iff, hc.cnr_iff, hd.cnr_iff, iff_false_intro (zEo q), or_false]
  constructor
  ·rintro ((k | k | k) | (k | k | k) | (k | k | k) | (k | k | k)) <;> simp [k]
  ·rintro (((k | k | k) | (k | k | k)) | k) <;> simp [k]
theorem Good.takesF : ∀ {F : List Tri3} {E : Es} {M : List Tri3}, Good E (F ++ M) → Good (F.foldl takeT E) M
 | [], _, _, h => h
 | T :: F, E, M, h => by
  obtain ⟨_, h2⟩ := Good.take (E := E) (T := T) (M := F ++ M) h
  exact Good.takesF (F := F) h2
end Go.Proofs.YtmobnmjjmafibaaGreat
