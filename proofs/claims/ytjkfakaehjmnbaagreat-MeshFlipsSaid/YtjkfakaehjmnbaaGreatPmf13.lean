/- Put together: GeoB, GeoC, TrN, TrR, SortQ. -/
import Derived.Test.YtjkfakaehjmnbaaGreatRows
import Derived.Test.YtjkfakaehjmnbaaGreatPmf12
import Derived.Test.YtjkfakaehjmnbaaGreatPmf9
import Derived.Test.YtjkfakaehjmnbaaGreatPmf1
import Derived.WalkKit
import Derived.WalkSpells
import Derived.WalkLawsBesides
import Derived.Laws.Externs
import Derived.Deep.QuietTactic
import Derived.BigQuiet
import Derived.Lib.Hide
import Derived.Handy
import Derived.LoopN
import Derived.OwnWalk
import Derived.Laws.AppendOwn
import Derived.Test.YtjkfakaehjmnbaaGreatPmf6
import Derived.Test.YtjkfakaehjmnbaaGreatPmf11
import Derived.RegionTactic
set_option maxRecDepth 100000
set_option maxHeartbeats 8000000
namespace Go.Proofs.YtjkfakaehjmnbaaGreat
open Go.RowKit
theorem crd_zero_edge {a b d e p : Pt} (hde : d ≠ e) (h2 : det d e p = 0) (hk : crd a b ⟨e.x - d.x, e.y - d.y⟩ = 0) (h1 : det a b p = 0) : det a b d = 0 ∧ det a b e = 0 := by
 have e1 : det a b e = det a b d + crd a b ⟨e.x - d.x, e.y - d.y⟩ := by unfold det crd; grind
 have e2 : det a b d * (e.x - d.x) - crd a b ⟨e.x - d.x, e.y - d.y⟩ * (d.x - p.x) + (b.x - a.x) * det d e p = det a b p * (e.x - d.x) := by unfold det crd; grind
 have e3 : det a b d * (e.y - d.y) - crd a b ⟨e.x - d.x, e.y - d.y⟩ * (d.y - p.y) + (b.y - a.y) * det d e p = det a b p * (e.y - d.y) := by unfold det crd; grind
 rw [h1, h2, hk] at e2 e3;simp only [Int.zero_mul, Int.mul_zero, Int.add_zero, Int.sub_zero] at e2 e3;have z : det a b d = 0 := by
  rcases Int.mul_eq_zero.1 e2 with k | k
  ·exact k
  ·rcases Int.mul_eq_zero.1 e3 with k' | k'
   ·exact k'
   ·exact absurd (Pt.eq_iff.2 ⟨by omega, by omega⟩) hde
 exact ⟨z, by omega⟩
theorem zKh {W H : Int} {a b c d e f p : Pt} (hr : onRim W H a b) (hab : 0 < det a b c) (hc : inBox W H c) (hf : inBox W H f) (hde : 0 < det d e f) (h1 : det a b p = 0) (h2 : det d e p = 0) (hk : crd a b ⟨e.x - d.x, e.y - d.y⟩ = 0) (hd : (b.x - a.x) * (e.x - d.x) + (b.y - a.y) * (e.y - d.y) ≤ 0) : False := by
 obtain ⟨z1, z2⟩ := crd_zero_edge (zFq hde) h2 hk h1;unfold inBox at hc hf;have nde := zFq hde;unfold det at hab hde z1 z2;clear h1 h2 hk;rcases hr with ⟨r1, r2⟩ | ⟨r1, r2⟩ | ⟨r1, r2⟩ | ⟨r1, r2⟩
 all_goals (rw [r1, r2] at hab z1 z2 hd; simp only [Int.sub_self, Int.zero_mul, Int.zero_sub, Int.zero_add] at hab z1 z2 hd)
 ·have ya : b.y - a.y ≠ 0 := fun e => by rw [e] at hab; simp at hab
  have xd : d.x = 0 := by
   rcases Int.mul_eq_zero.1 (Int.neg_eq_zero.1 z1) with k | k <;> omega
  have xe : e.x = 0 := by
   rcases Int.mul_eq_zero.1 (Int.neg_eq_zero.1 z2) with k | k <;> omega
  rw [xd, xe] at hde;simp only [Int.sub_self, Int.zero_mul, Int.zero_sub, Int.sub_zero] at hde hab;have n1 : b.y - a.y < 0 := by
   refine Decidable.byContradiction fun k => ?_;have := Int.mul_nonneg (a := b.y - a.y) (b := c.x) (by omega) (by omega);omega
  have n2 : e.y - d.y < 0 := by
   refine Decidable.byContradiction fun k => ?_;have := Int.mul_nonneg (a := e.y - d.y) (b := f.x) (by omega) (by omega);omega
  have := Int.mul_pos_of_neg_of_neg n1 n2;omega
 ·have ya : b.y - a.y ≠ 0 := fun e => by rw [e] at hab; simp at hab
  have xd : d.x = W := by
   rcases Int.mul_eq_zero.1 (Int.neg_eq_zero.1 z1) with k | k <;> omega
  have xe : e.x = W := by
   rcases Int.mul_eq_zero.1 (Int.neg_eq_zero.1 z2) with k | k <;> omega
  rw [xd, xe] at hde;simp only [Int.sub_self, Int.zero_mul, Int.zero_sub] at hde hab;have n1 : 0 < b.y - a.y := by
   refine Decidable.byContradiction fun k => ?_;have := Int.mul_nonneg_of_nonpos_of_nonpos (a := b.y - a.y) (b := c.x - W) (by omega) (by omega);omega
  have n2 : 0 < e.y - d.y := by
   refine Decidable.byContradiction fun k => ?_;have := Int.mul_nonneg_of_nonpos_of_nonpos (a := e.y - d.y) (b := f.x - W) (by omega) (by omega);omega
  have := Int.mul_pos n1 n2;omega
 ·simp only [Int.sub_zero, Int.add_zero] at hab z1 z2 hd;have ya : b.x - a.x ≠ 0 := fun e => by rw [e] at hab; simp at hab
  have xd : d.y = 0 := by
   rcases Int.mul_eq_zero.1 z1 with k | k <;> omega
  have xe : e.y = 0 := by
   rcases Int.mul_eq_zero.1 z2 with k | k <;> omega
  rw [xd, xe] at hde;simp only [Int.sub_self, Int.zero_mul, Int.sub_zero] at hde;have n1 : 0 < b.x - a.x := by
   refine Decidable.byContradiction fun k => ?_;have := Int.mul_nonneg (a := -(b.x - a.x)) (b := c.y) (by omega) (by omega);rw [Int.neg_mul] at this; omega
  have n2 : 0 < e.x - d.x := by
   refine Decidable.byContradiction fun k => ?_;have := Int.mul_nonneg (a := -(e.x - d.x)) (b := f.y) (by omega) (by omega);rw [Int.neg_mul] at this; omega
  have := Int.mul_pos n1 n2;omega
 ·simp only [Int.sub_zero, Int.add_zero] at hab z1 z2 hd;have ya : b.x - a.x ≠ 0 := fun e => by rw [e] at hab; simp at hab
  have xd : d.y = H := by
   rcases Int.mul_eq_zero.1 z1 with k | k <;> omega
  have xe : e.y = H := by
   rcases Int.mul_eq_zero.1 z2 with k | k <;> omega
  rw [xd, xe] at hde;simp only [Int.sub_self, Int.zero_mul, Int.sub_zero] at hde;have n1 : b.x - a.x < 0 := by
   refine Decidable.byContradiction fun k => ?_;have := Int.mul_nonneg (a := b.x - a.x) (b := H - c.y) (by omega) (by omega);have e : (b.x - a.x) * (H - c.y) = - ((b.x - a.x) * (c.y - H)) := by grind
   omega
  have n2 : e.x - d.x < 0 := by
   refine Decidable.byContradiction fun k => ?_;have := Int.mul_nonneg (a := e.x - d.x) (b := H - f.y) (by omega) (by omega);have e : (e.x - d.x) * (H - f.y) = - ((e.x - d.x) * (f.y - H)) := by grind
   omega
  have := Int.mul_pos_of_neg_of_neg n1 n2;omega
section
variable {W H : Int} {L : List Tri3} (h : Tiles W H L)
include h
omit h in
theorem zGv {T : Tri3} {a b : Pt} (hT : T ∈ L) (hw : (a, b) ∈ ways T) : (a, b) ∈ L.flatMap ways := List.mem_flatMap.2 ⟨T, hT, hw⟩
theorem Tiles.cyc_pos {T : Tri3} {a b c : Pt} (hT : T ∈ L) (hc : Cyc T a b c) : 0 < det a b c := by rw [hc.det]; exact h.pos T hT
theorem Tiles.cyc_box {T : Tri3} {a b c : Pt} (hT : T ∈ L) (hc : Cyc T a b c) : inBox W H a := by
 have := h.box T hT;rcases hc with ⟨rfl, _⟩ | ⟨rfl, _⟩ | ⟨rfl, _⟩
 ·exact this.1
 ·exact this.2.1
 ·exact this.2.2
theorem Tiles.edg_two {S T : Tri3} (hS : S ∈ L) (hT : T ∈ L) {a b c p : Pt} (hc : Cyc S a b c) (hp : edg a b c p) (hh : hasT T p) (hn : ¬ isCnr T p) : T = S ∨ ((b, a) ∈ ways T ∧ ¬ onRim W H a b) := by
 have pS := h.cyc_pos hS hc;rcases zIn (h.pos T hT) hh with k | k | ⟨d, e, f, hd, k⟩
 ·exact absurd k hn
 ·obtain ⟨q1, q2, q3⟩ := hp;have hv : hasT S p := by
   unfold hasT;rcases hc with ⟨rfl, rfl, rfl⟩ | ⟨rfl, rfl, rfl⟩ | ⟨rfl, rfl, rfl⟩ <;> omega
  exact .inl (h.ins_one hT hS k hv)
 ·have pT := h.cyc_pos hT hd;by_cases hg : crd a b ⟨e.x - d.x, e.y - d.y⟩ = 0 ∧ (b.x - a.x) * (e.x - d.x) + (b.y - a.y) * (e.y - d.y) ≤ 0
  ·rcases h.rim (a, b) (zGv hS hc.way) with hr | hr
   ·obtain ⟨U, hU, hw⟩ := List.mem_flatMap.1 hr;obtain ⟨x, hx⟩ := zDb hw;have pU := h.cyc_pos hU hx;have hpU := zE0 pS pU hp;have hg' : ¬ (crd b a ⟨e.x - d.x, e.y - d.y⟩ = 0 ∧ (a.x - b.x) * (e.x - d.x) + (a.y - b.y) * (e.y - d.y) ≤ 0) := by
     intro ⟨g1, g2⟩;have e1 : (a.x - b.x) * (e.x - d.x) + (a.y - b.y) * (e.y - d.y) = - ((b.x - a.x) * (e.x - d.x) + (b.y - a.y) * (e.y - d.y)) := by grind
     have z0 : (b.x - a.x) * (e.x - d.x) + (b.y - a.y) * (e.y - d.y) = 0 := by omega
     have g0 := hg.1;have i1 : ((b.x - a.x) * (b.x - a.x) + (b.y - a.y) * (b.y - a.y)) * (e.x - d.x) = (b.x - a.x) * ((b.x - a.x) * (e.x - d.x) + (b.y - a.y) * (e.y - d.y)) - (b.y - a.y) * crd a b ⟨e.x - d.x, e.y - d.y⟩ := by unfold crd; grind
     have i2 : ((b.x - a.x) * (b.x - a.x) + (b.y - a.y) * (b.y - a.y)) * (e.y - d.y) = (b.y - a.y) * ((b.x - a.x) * (e.x - d.x) + (b.y - a.y) * (e.y - d.y)) + (b.x - a.x) * crd a b ⟨e.x - d.x, e.y - d.y⟩ := by unfold crd; grind
     rw [z0, g0] at i1 i2;simp only [Int.mul_zero, Int.sub_zero, Int.add_zero] at i1 i2;have s1 := sq_nn (b.x - a.x);have s2 := sq_nn (b.y - a.y);have hab := zFq pS;have nz : ¬ (b.x - a.x) * (b.x - a.x) + (b.y - a.y) * (b.y - a.y) = 0 := by
      intro z;apply hab;rw [Pt.eq_iff];have u1 := Int.mul_eq_zero.1 (show (b.x - a.x) * (b.x - a.x) = 0 by omega);have u2 := Int.mul_eq_zero.1 (show (b.y - a.y) * (b.y - a.y) = 0 by omega);omega
     have u1 := (Int.mul_eq_zero.1 i1).resolve_left nz;have u2 := (Int.mul_eq_zero.1 i2).resolve_left nz;exact zFq pT (Pt.eq_iff.2 ⟨by omega, by omega⟩)
    obtain ⟨v, v1, v2⟩ := zFz (zFq pS).symm hg';have hUT := h.same hU hT (M := 1) (by omega) (hx.near (zGu hpU v1)) (hd.near (zGu k v2));by_cases hr' : onRim W H a b
    ·exact (zKh hr' pS (h.cyc_box hS hc.turn.turn) (h.cyc_box hT hd.turn.turn) pT hp.1 k.1 hg.1 hg.2).elim
    ·exact .inr ⟨hUT ▸ hw, hr'⟩
   ·exact (zKh hr pS (h.cyc_box hS hc.turn.turn) (h.cyc_box hT hd.turn.turn) pT hp.1 k.1 hg.1 hg.2).elim
  ·obtain ⟨v, v1, v2⟩ := zFz (zFq pS) hg;exact .inl (h.same hS hT (M := 1) (by omega) (hc.near (zGu hp v1)) (hd.near (zGu k v2))).symm
end
theorem flat_one {L : List Tri3} (h : (L.flatMap ways).Nodup) {S T : Tri3} (hS : S ∈ L) (hT : T ∈ L) {w : Pt × Pt} (h1 : w ∈ ways S) (h2 : w ∈ ways T) : S = T := by
 refine Decidable.byContradiction fun hne => ?_;obtain ⟨M, hM⟩ := zDm hS hT hne;have h' := (zB6 hM).nodup_iff.1 h;rw [List.flatMap_cons, List.flatMap_cons, List.nodup_append] at h';exact h'.2.2 w h1 w (List.mem_append_left _ h2) rfl
theorem near_cnr {p x y : Pt} (hp : 0 < det p x y) {s t : Int} (hs : 0 < s) (ht : 0 < t) : near3 1 p x y p ⟨s * (x.x - p.x) + t * (y.x - p.x), s * (x.y - p.y) + t * (y.y - p.y)⟩ := by
 unfold near3;simp only [zJ3];refine ⟨.inr ⟨by unfold det; grind, ?_⟩, .inl (by rw [zB0]; exact hp), .inr ⟨by unfold det; grind, ?_⟩⟩
 ·have e : crd p x ⟨s * (x.x - p.x) + t * (y.x - p.x), s * (x.y - p.y) + t * (y.y - p.y)⟩ = t * det p x y := by unfold crd det; grind
  rw [e]; exact Int.mul_pos ht hp
 ·have e : crd y p ⟨s * (x.x - p.x) + t * (y.x - p.x), s * (x.y - p.y) + t * (y.y - p.y)⟩ = s * det p x y := by unfold crd det; grind
  rw [e]; exact Int.mul_pos hs hp
theorem zK2 (a b p x y : Pt) (s t : Int) : crd a b ⟨s * (x.x - p.x) + t * (y.x - p.x), s * (x.y - p.y) + t * (y.y - p.y)⟩ = s * crd a b ⟨x.x - p.x, x.y - p.y⟩ + t * crd a b ⟨y.x - p.x, y.y - p.y⟩ := by unfold crd; grind
section
variable {W H : Int} {L : List Tri3} (h : Tiles W H L)
include h
end
def hasM (M : Int) (T : Tri3) (p : Pt) : Prop := 0 ≤ det (sc M T.A) (sc M T.B) p ∧ 0 ≤ det (sc M T.B) (sc M T.C) p ∧ 0 ≤ det (sc M T.C) (sc M T.A) p
theorem hasM_one (T : Tri3) (p : Pt) : hasM 1 T p ↔ hasT T p := by unfold hasM hasT; simp only [zJ3]
def bigs (M : Int) (v : Pt) : List Tri3 → Int
 | [] => 0
 | T :: L => big M T v + bigs M v L
theorem zKs (M : Int) (v : Pt) : ∀ {L : List Tri3} {T : Tri3}, T ∈ L → big M T v ≤ bigs M v L
 | S :: L, T, h => by
  have p : ∀ l : List Tri3, 0 ≤ bigs M v l := fun l => by
   induction l with
   | nil => exact Int.le_refl 0
   | cons U l ih => unfold bigs big; omega
  unfold bigs;rcases List.mem_cons.1 h with rfl | h
  ·have := p L; omega
  ·have := zKs M v h;unfold big at *; omega
theorem zJa {M K d c : Int} (hK : 0 < K) (hb : (M * c).natAbs < K) (h : 0 ≤ K * (K * d + M * c)) : 0 ≤ d := by
 have h1 := (zBh hK).1 h;refine Decidable.byContradiction fun hd => ?_;have := Int.mul_nonneg (a := K) (b := -1 - d) (by omega) (by omega);have e : K * (-1 - d) = -K - K * d := by grind
 omega
theorem Tiles.covM {W H : Int} {L : List Tri3} (h : Tiles W H L) (hW : 0 < W) (hH : 0 < H) {M : Int} (hM : 0 < M) {p : Pt} (hp : inBox (M * W) (M * H) p) : ∃ T ∈ L, hasM M T p := by
 have mW := Int.mul_pos hM hW;have mH := Int.mul_pos hM hH
 let v : Pt := ⟨M * W - 2 * p.x, M * H - 2 * p.y⟩
 let K : Int := 2 + bigs M v L
 have p0 : ∀ l : List Tri3, 0 ≤ bigs M v l := fun l => by
  induction l with
  | nil => exact Int.le_refl 0
  | cons U l ih => unfold bigs big; omega
 have hK2 : 2 ≤ K := by have := p0 L; omega
 have hc := h.cov (K * M) (Int.mul_pos (by omega) hM) ⟨K * p.x + v.x, K * p.y + v.y⟩;have hs : sqr (K * M * W) (K * M * H) ⟨K * p.x + v.x, K * p.y + v.y⟩ = 1 := by
  unfold sqr;obtain ⟨⟨h1, h2⟩, h3, h4⟩ := hp;have i1 : K * p.x + v.x = (K - 2) * p.x + M * W := by show K * p.x + (M * W - 2 * p.x) = _; rw [Int.sub_mul]; omega
  have i2 : K * p.y + v.y = (K - 2) * p.y + M * H := by show K * p.y + (M * H - 2 * p.y) = _; rw [Int.sub_mul]; omega
  have j1 := Int.mul_nonneg (a := K - 2) (b := p.x) (by omega) h1;have j2 := Int.mul_nonneg (a := K - 2) (b := p.y) (by omega) h3;have j3 := Int.mul_le_mul_of_nonneg_left (c := K - 2) h2 (by omega);have j4 := Int.mul_le_mul_of_nonneg_left (c := K - 2) h4 (by omega);have l1 : K * M * W = (K - 2) * (M * W) + 2 * (M * W) := by grind
  have l2 : K * M * H = (K - 2) * (M * H) + 2 * (M * H) := by grind
  rw [if_pos];show (0 ≤ K * p.x + v.x ∧ K * p.x + v.x < K * M * W) ∧ 0 ≤ K * p.y + v.y ∧ K * p.y + v.y < K * M * H;rw [i1, i2, l1, l2];omega
 rw [hs] at hc;obtain ⟨T, hT, h1⟩ := zK0 (K := K * M) (Int.mul_pos (by omega) hM) h.pos _ (by rw [hc]; omega);rw [zJt] at h1;have h2 := (zJs (zKv (Int.mul_pos (show 0 < K by omega) hM) (h.pos T hT)) _).2.1 h1;rw [zE3, zE3, zE3] at h2;have hb := zKs M v hT;refine ⟨T, hT, ?_, ?_, ?_⟩
 ·exact zJa (K := K) (by omega) (by unfold big at hb; omega) h2.1
 ·exact zJa (K := K) (by omega) (by unfold big at hb; omega) h2.2.1
 ·exact zJa (K := K) (by omega) (by unfold big at hb; omega) h2.2.2
theorem Tiles.covers {W H : Int} {L : List Tri3} (h : Tiles W H L) (hW : 0 < W) (hH : 0 < H) {p : Pt} (hp : inBox W H p) : ∃ T ∈ L, hasT T p := by
 obtain ⟨T, hT, k⟩ := h.covM hW hH (M := 1) (by omega) (p := p) (by simpa using hp);exact ⟨T, hT, (hasM_one T p).1 k⟩
theorem onRim_swap {W H : Int} {a b : Pt} (h : onRim W H a b) : onRim W H b a := by unfold onRim at *; omega
theorem Tiles.change {W H : Int} {L Out In M : List Tri3} (h : Tiles W H L) (hL : L.Perm (Out ++ M)) {rem add keep : List (Pt × Pt)}
    (ho : (Out.flatMap ways).Perm (rem ++ keep)) (hi : (In.flatMap ways).Perm (add ++ keep)) (hn : add.Nodup) (hf : ∀ w ∈ add, w ∉ L.flatMap ways)
    (ha : ∀ w ∈ add, (w.2, w.1) ∈ add ∨ onRim W H w.1 w.2) (hr : ∀ w ∈ rem, (w.2, w.1) ∈ rem ∨ onRim W H w.1 w.2)
    (hc : ∀ K, 0 < K → ∀ q, cvr K add q = cvr K rem q) (hA : sumA In = sumA Out) (hp : ∀ T ∈ In, 0 < det T.A T.B T.C) (hb : ∀ T ∈ In, inBox W H T.A ∧ inBox W H T.B ∧ inBox W H T.C) : Tiles W H (In ++ M) := by
 have h0 := h.perm hL;have o1 : ((Out ++ M).flatMap ways).Perm (rem ++ (keep ++ M.flatMap ways)) := by
  rw [List.flatMap_append, ← List.append_assoc]; exact ho.append_right _
 have i1 : ((In ++ M).flatMap ways).Perm (add ++ (keep ++ M.flatMap ways)) := by
  rw [List.flatMap_append, ← List.append_assoc]; exact hi.append_right _
 have n1 := o1.nodup_iff.1 h0.once;rw [List.nodup_append] at n1;have mem0 : ∀ w, w ∈ L.flatMap ways ↔ w ∈ rem ++ (keep ++ M.flatMap ways) := fun w => by rw [(zB6 hL).mem_iff, o1.mem_iff]
 refine ⟨?_, ?_, ?_, ?_, ?_, ?_⟩
 ·intro T hT;rcases List.mem_append.1 hT with hT | hT
  ·exact hp T hT
  ·exact h0.pos T (List.mem_append_right _ hT)
 ·rw [i1.nodup_iff, List.nodup_append];refine ⟨hn, n1.2.1, fun a h1 b h2 e => ?_⟩;subst e;exact hf a h1 ((mem0 a).2 (List.mem_append_right _ h2))
 ·intro T hT;rcases List.mem_append.1 hT with hT | hT
  ·exact hb T hT
  ·exact h0.box T (List.mem_append_right _ hT)
 ·intro w hw;rw [i1.mem_iff] at hw ⊢;rcases List.mem_append.1 hw with hw | hw
  ·rcases ha w hw with k | k
   ·exact .inl (List.mem_append_left _ k)
   ·exact .inr k
  ·rcases h.rim w ((mem0 w).2 (List.mem_append_right _ hw)) with k | k
   ·rcases List.mem_append.1 ((mem0 _).1 k) with k | k
    ·rcases hr _ k with g | g
     ·exact absurd rfl (n1.2.2 w g w hw)
     ·exact .inr (onRim_swap g)
    ·exact .inl (List.mem_append_right _ k)
   ·exact .inr k
 ·intro K hK q;have e0 := h0.cov K hK q;rw [zH2 o1, zCa] at e0;rw [zH2 i1, zCa, hc K hK q];exact e0
 ·have e0 := h0.area;rw [sumA_append] at e0 ⊢;rw [hA]; exact e0
theorem Cyc.area {T : Tri3} {a b c : Pt} (h : Cyc T a b c) (L : List Tri3) : sumA (T :: L) = Go.Proofs.YtjkfakaehjmnbaaGreat.det a b c + sumA L := by rw [h.det]; rfl
theorem Cyc.box {W H : Int} {T : Tri3} {a b c : Pt} (h : Cyc T a b c) (ha : inBox W H a) (hb : inBox W H b) (hc : inBox W H c) : inBox W H T.A ∧ inBox W H T.B ∧ inBox W H T.C := by
 rcases h with ⟨rfl, rfl, rfl⟩ | ⟨rfl, rfl, rfl⟩ | ⟨rfl, rfl, rfl⟩
 ·exact ⟨ha, hb, hc⟩
 ·exact ⟨hc, ha, hb⟩
 ·exact ⟨hb, hc, ha⟩
theorem Tiles.no_diag {W H : Int} {L : List Tri3} (h : Tiles W H L) {S : Tri3} (hS : S ∈ L) {a b c d : Pt} (hc : Cyc S a b c) (h1 : 0 < det c a d) (h2 : 0 < det d b c) : (d, c) ∉ L.flatMap ways := by
 intro hm;obtain ⟨T, hT, hw⟩ := List.mem_flatMap.1 hm;obtain ⟨e, he⟩ := zDb hw;have pS := h.cyc_pos hS hc;have pT := h.cyc_pos hT he.turn;have n1 : d ≠ c := by
  rintro rfl;have : det d a d = 0 := by unfold det; grind
  omega
 have n2 : d ≠ a := by
  rintro rfl;have : det c d d = 0 := by unfold det; grind
  omega
 have n3 : d ≠ b := by
  rintro rfl;have : det d d c = 0 := by unfold det; grind
  omega
 generalize e1 : crd c a ⟨e.x - c.x, e.y - c.y⟩ = u
 generalize e2 : crd b c ⟨e.x - c.x, e.y - c.y⟩ = v
 have f1 : crd c a ⟨d.x - c.x, d.y - c.y⟩ = det c a d := by unfold crd det; grind
 have f2 : crd b c ⟨d.x - c.x, d.y - c.y⟩ = det d b c := by unfold crd det; grind
 let t : Int := 1 + u.natAbs + v.natAbs
 have g1 : t ≤ t * det c a d := by
  have := Int.mul_nonneg (a := t) (b := det c a d - 1) (by omega) (by omega);rw [Int.mul_sub] at this; omega
 have g2 : t ≤ t * det d b c := by
  have := Int.mul_nonneg (a := t) (b := det d b c - 1) (by omega) (by omega);rw [Int.mul_sub] at this; omega
 have nT := he.turn.near (near_cnr pT (s := 1) (t := t) (by omega) (by omega));have nS : near 1 S c ⟨1 * (e.x - c.x) + t * (d.x - c.x), 1 * (e.y - c.y) + t * (d.y - c.y)⟩ := by
  refine hc.turn.turn.near ?_;unfold near3;simp only [zJ3];refine ⟨.inr ⟨by unfold det; grind, ?_⟩, .inl pS, .inr ⟨by unfold det; grind, ?_⟩⟩
  ·rw [zK2, e1, f1]; omega
  ·rw [zK2, e2, f2]; omega
 have hST := h.same hS hT (M := 1) (by omega) nS nT;have := he.cnr;rw [← hST, hc.cnr_iff] at this;rcases this with k | k | k
 ·exact n2 k
 ·exact n3 k
 ·exact n1 k
theorem zH0 {α : Type} {a b c d e f : α} : [a, b, c, d, e, f].Perm ([a, d] ++ [b, c, e, f]) := by
 refine List.Perm.cons _ ?_;exact (List.perm_append_comm (l₁ := [b, c]) (l₂ := [d])).append_right [e, f]
theorem Tiles.flip {W H : Int} {L M : List Tri3} (h : Tiles W H L) {S R U V : Tri3} (hL : L.Perm (S :: R :: M)) {a b c d : Pt} (hS : Cyc S a b c) (hR : Cyc R b a d) (h1 : 0 < det c a d) (h2 : 0 < det d b c) (hU : Cyc U c a d) (hV : Cyc V d b c) : Tiles W H (U :: V :: M) := by
 have mS : S ∈ L := hL.mem_iff.2 (by simp);have mR : R ∈ L := hL.mem_iff.2 (by simp);have x1 := h.no_diag mS hS h1 h2;have x2 := h.no_diag mR hR h2 h1;have n1 : d ≠ c := by
  rintro rfl;have : det d a d = 0 := by unfold det; grind
  omega
 refine h.change (Out := [S, R]) (In := [U, V]) (M := M) hL (rem := [(a, b), (b, a)]) (add := [(d, c), (c, d)]) (keep := [(b, c), (c, a), (a, d), (d, b)]) ?_ ?_ ?_ ?_ ?_ ?_ ?_ ?_ ?_ ?_
 ·simp only [List.flatMap_cons, List.flatMap_nil, List.append_nil];exact (hS.ways.append hR.ways).trans zH0
 ·simp only [List.flatMap_cons, List.flatMap_nil, List.append_nil];refine (hU.turn.turn.ways.append hV.turn.turn.ways).trans ?_;refine zH0.trans ?_;refine List.Perm.append_left _ ?_;exact List.perm_append_comm (l₁ := [(c, a), (a, d)]) (l₂ := [(d, b), (b, c)]) |>.trans
   ((List.Perm.swap (b, c) (d, b) [(c, a), (a, d)]).trans (List.Perm.cons _ (List.perm_append_comm (l₁ := [(d, b)]) (l₂ := [(c, a), (a, d)]))))
 ·simp [n1]
 ·intro w hw;simp only [List.mem_cons, List.not_mem_nil, or_false] at hw;rcases hw with rfl | rfl
  ·exact x1
  ·exact x2
 ·intro w hw;simp only [List.mem_cons, List.not_mem_nil, or_false] at hw;rcases hw with rfl | rfl <;> simp
 ·intro w hw;simp only [List.mem_cons, List.not_mem_nil, or_false] at hw;rcases hw with rfl | rfl <;> simp
 ·intro K hK q;simp only [cvr];have e1 := zBq (sc K c) (sc K d) q;have e2 := zBq (sc K a) (sc K b) q;omega
 ·rw [hU.area, hV.area, hS.area, hR.area];simp only [sumA];unfold det; grind
 ·intro T hT;simp only [List.mem_cons, List.not_mem_nil, or_false] at hT;rcases hT with rfl | rfl
  ·rw [← hU.det]; exact h1
  ·rw [← hV.det]; exact h2
 ·have ba := h.cyc_box mS hS;have bb := h.cyc_box mS hS.turn;have bc := h.cyc_box mS hS.turn.turn;have bd := h.cyc_box mR hR.turn.turn;intro T hT;simp only [List.mem_cons, List.not_mem_nil, or_false] at hT;rcases hT with rfl | rfl
  ·exact hU.box bc ba bd
  ·exact hV.box bd bb bc
theorem way_cnr {T : Tri3} {w : Pt × Pt} (h : w ∈ ways T) : isCnr T w.1 ∧ isCnr T w.2 := by
 obtain ⟨a, b⟩ := w;obtain ⟨c, hc⟩ := zDb h;exact ⟨hc.cnr, hc.turn.cnr⟩
theorem zGz {L : List Tri3} {p : Pt} (hn : ∀ T ∈ L, ¬ isCnr T p) {w : Pt × Pt} (hw : w.1 = p ∨ w.2 = p) : w ∉ L.flatMap ways := by
 intro hm;obtain ⟨T, hT, hk⟩ := List.mem_flatMap.1 hm;have := way_cnr hk;rcases hw with e | e <;> rw [e] at this
 ·exact hn T hT this.1
 ·exact hn T hT this.2
theorem zAj {a b c : Pt} (h : 0 < det a b c) : a ≠ b ∧ b ≠ c ∧ c ≠ a :=
 ⟨zFq h, zFq (c := a) (by rw [zB0]; exact h), zFq (c := b) (by rw [zB0, zB0]; exact h)⟩
theorem ins_cyc {T : Tri3} {a b c p : Pt} (hc : Cyc T a b c) (h : insT T p) : 0 < det a b p ∧ 0 < det b c p ∧ 0 < det c a p := by
 unfold insT at h;rcases hc with ⟨rfl, rfl, rfl⟩ | ⟨rfl, rfl, rfl⟩ | ⟨rfl, rfl, rfl⟩
 ·exact h
 ·exact ⟨h.2.1, h.2.2, h.1⟩
 ·exact ⟨h.2.2, h.1, h.2.1⟩
section
variable {W H : Int} {L M : List Tri3} (h : Tiles W H L) {p : Pt} (hn : ∀ T ∈ L, ¬ isCnr T p) (hb : inBox W H p)
include h hn hb
theorem Tiles.cut3 {T P Q R : Tri3} (hL : L.Perm (T :: M)) {a b c : Pt} (hT : Cyc T a b c) (hi : insT T p) (hP : Cyc P a b p) (hQ : Cyc Q b c p) (hR : Cyc R c a p) : Tiles W H (P :: Q :: R :: M) := by
 have mT : T ∈ L := hL.mem_iff.2 (by simp);have pT := h.cyc_pos mT hT;obtain ⟨i1, i2, i3⟩ := ins_cyc hT hi;obtain ⟨n1, n2, n3⟩ := zAj pT;have np := hn T mT;rw [hT.cnr_iff] at np;simp only [not_or] at np;obtain ⟨q1, q2, q3⟩ := np;refine h.change (Out := [T]) (In := [P, Q, R]) (M := M) hL (rem := []) (add := [(b, p), (p, b), (c, p), (p, c), (a, p), (p, a)]) (keep := [(a, b), (b, c), (c, a)]) ?_ ?_ ?_ ?_ ?_ ?_ ?_ ?_ ?_ ?_
 ·simp only [List.flatMap_cons, List.flatMap_nil, List.append_nil, List.nil_append];exact hT.ways
 ·simp only [List.flatMap_cons, List.flatMap_nil, List.append_nil];refine (hP.ways.append (hQ.ways.append hR.ways)).trans ?_;refine (List.perm_iff_count.2 fun w => ?_);simp only [List.cons_append, List.nil_append, List.count_cons, List.count_nil];omega
 ·simp [q1, q2, q3, n2, n3, Ne.symm q1, Ne.symm q2, Ne.symm q3, Ne.symm n1]
 ·intro w hw;simp only [List.mem_cons, List.not_mem_nil, or_false] at hw;refine zGz hn ?_;rcases hw with rfl | rfl | rfl | rfl | rfl | rfl <;> simp
 ·intro w hw;simp only [List.mem_cons, List.not_mem_nil, or_false] at hw;rcases hw with rfl | rfl | rfl | rfl | rfl | rfl <;> simp
 ·intro w hw; simp at hw
 ·intro K hK q;simp only [cvr];have e1 := zBq (sc K a) (sc K p) q;have e2 := zBq (sc K b) (sc K p) q;have e3 := zBq (sc K c) (sc K p) q;omega
 ·rw [hP.area, hQ.area, hR.area, hT.area];simp only [sumA];have := zEn a b c p;omega
 ·intro X hX;simp only [List.mem_cons, List.not_mem_nil, or_false] at hX;rcases hX with rfl | rfl | rfl
  ·rw [← hP.det]; exact i1
  ·rw [← hQ.det]; exact i2
  ·rw [← hR.det]; exact i3
 ·have ba := h.cyc_box mT hT;have bb := h.cyc_box mT hT.turn;have bc := h.cyc_box mT hT.turn.turn;intro X hX;simp only [List.mem_cons, List.not_mem_nil, or_false] at hX;rcases hX with rfl | rfl | rfl
  ·exact hP.box ba bb hb
  ·exact hQ.box bb bc hb
  ·exact hR.box bc ba hb
omit h hn hb in
theorem zGb {a b c p : Pt} (hp : 0 < det a b c) (he : edg a b c p) : ((a.y ≤ p.y ∧ p.y ≤ b.y) ∨ (b.y ≤ p.y ∧ p.y ≤ a.y)) ∧ ((a.x ≤ p.x ∧ p.x ≤ b.x) ∨ (b.x ≤ p.x ∧ p.x ≤ a.x)) := by
 obtain ⟨h1, h2, h3⟩ := he;have s := zEn a b c p;have e1 : det a b c * (p.y - a.y) = det c a p * (b.y - a.y) + det a b p * (c.y - a.y) := by unfold det; grind
 have e2 : det a b c * (b.y - p.y) = det b c p * (b.y - a.y) - det a b p * (c.y - b.y) := by unfold det; grind
 have e3 : det a b c * (p.x - a.x) = det c a p * (b.x - a.x) + det a b p * (c.x - a.x) := by unfold det; grind
 have e4 : det a b c * (b.x - p.x) = det b c p * (b.x - a.x) - det a b p * (c.x - b.x) := by unfold det; grind
 rw [h1, Int.zero_mul] at e1 e2 e3 e4;have key : ∀ u v x : Int, det a b c * u = det c a p * x + 0 → det a b c * v = det b c p * x - 0 → (0 ≤ u ∧ 0 ≤ v) ∨ (u ≤ 0 ∧ v ≤ 0) := by
  intro u v x k1 k2;rcases Int.le_total 0 x with hx | hx
  ·have := Int.mul_nonneg (a := det c a p) (b := x) (by omega) hx;have := Int.mul_nonneg (a := det b c p) (b := x) (by omega) hx;exact .inl ⟨(zBh hp).1 (by omega), (zBh hp).1 (by omega)⟩
  ·have := Int.mul_nonpos_of_nonneg_of_nonpos (a := det c a p) (b := x) (by omega) hx;have := Int.mul_nonpos_of_nonneg_of_nonpos (a := det b c p) (b := x) (by omega) hx;have a1 := (zBh (b := -u) hp).1 (by rw [Int.mul_neg]; omega);have a2 := (zBh (b := -v) hp).1 (by rw [Int.mul_neg]; omega);exact .inr ⟨by omega, by omega⟩
 have k1 := key _ _ _ e1 e2;have k2 := key _ _ _ e3 e4;omega
omit h hn hb in
theorem sc_add {a b p : Pt} (h : det a b p = 0) (hb : (a.y ≤ p.y ∧ p.y ≤ b.y) ∨ (b.y ≤ p.y ∧ p.y ≤ a.y)) {K : Int} (hK : 0 < K) (q : Pt) : crs (sc K a) (sc K b) q = crs (sc K a) (sc K p) q + crs (sc K p) (sc K b) q := by
 refine crs_add (by rw [sc_det, h]; simp) ?_ q;have m : ∀ x y : Int, x ≤ y → K * x ≤ K * y := fun x y h => Int.mul_le_mul_of_nonneg_left h (by omega);rcases hb with ⟨h1, h2⟩ | ⟨h1, h2⟩
 ·exact .inl ⟨m _ _ h1, m _ _ h2⟩
 ·exact .inr ⟨m _ _ h1, m _ _ h2⟩
theorem Tiles.cut2r {T Q R : Tri3} (hL : L.Perm (T :: M)) {a b c : Pt} (hT : Cyc T a b c) (hi : edg a b c p) (hr : onRim W H a b) (hQ : Cyc Q b c p) (hR : Cyc R c a p) : Tiles W H (Q :: R :: M) := by
 have mT : T ∈ L := hL.mem_iff.2 (by simp);have pT := h.cyc_pos mT hT;have bw := zGb pT hi;obtain ⟨i1, i2, i3⟩ := hi;obtain ⟨n1, n2, n3⟩ := zAj pT;have np := hn T mT;rw [hT.cnr_iff] at np;simp only [not_or] at np;obtain ⟨q1, q2, q3⟩ := np;refine h.change (Out := [T]) (In := [Q, R]) (M := M) hL (rem := [(a, b)]) (add := [(c, p), (p, c), (p, b), (a, p)]) (keep := [(b, c), (c, a)]) ?_ ?_ ?_ ?_ ?_ ?_ ?_ ?_ ?_ ?_
 ·simp only [List.flatMap_cons, List.flatMap_nil, List.append_nil];exact hT.ways
 ·simp only [List.flatMap_cons, List.flatMap_nil, List.append_nil];refine (hQ.ways.append hR.ways).trans ?_;refine (List.perm_iff_count.2 fun w => ?_);simp only [List.cons_append, List.nil_append, List.count_cons, List.count_nil];omega
 ·simp [q1, q2, q3, n3, Ne.symm q2, Ne.symm q3, Ne.symm n2]
 ·intro w hw;simp only [List.mem_cons, List.not_mem_nil, or_false] at hw;refine zGz hn ?_;rcases hw with rfl | rfl | rfl | rfl <;> simp
 ·intro w hw;simp only [List.mem_cons, List.not_mem_nil, or_false] at hw;rcases hw with rfl | rfl | rfl | rfl
  ·simp
  ·simp
  ·right; unfold onRim at *; unfold inBox at hb; simp only; omega
  ·right; unfold onRim at *; unfold inBox at hb; simp only; omega
 ·intro w hw;simp only [List.mem_cons, List.not_mem_nil, or_false] at hw;rw [hw]; exact .inr hr
 ·intro K hK q;simp only [cvr];have e1 := zBq (sc K c) (sc K p) q;have e2 := sc_add i1 bw.1 hK q;omega
 ·rw [hQ.area, hR.area, hT.area];simp only [sumA];have := zEn a b c p;omega
 ·intro X hX;simp only [List.mem_cons, List.not_mem_nil, or_false] at hX;rcases hX with rfl | rfl
  ·rw [← hQ.det]; exact i2
  ·rw [← hR.det]; exact i3
 ·have ba := h.cyc_box mT hT;have bb := h.cyc_box mT hT.turn;have bc := h.cyc_box mT hT.turn.turn;intro X hX;simp only [List.mem_cons, List.not_mem_nil, or_false] at hX;rcases hX with rfl | rfl
  ·exact hQ.box bb bc hb
  ·exact hR.box bc ba hb
theorem Tiles.cut4 {T S Q R X Y : Tri3} (hL : L.Perm (T :: S :: M)) {a b c d : Pt} (hT : Cyc T a b c) (hS : Cyc S b a d) (hi : edg a b c p) (hQ : Cyc Q b c p) (hR : Cyc R c a p) (hX : Cyc X a d p) (hY : Cyc Y d b p) : Tiles W H (Q :: R :: X :: Y :: M) := by
 have mT : T ∈ L := hL.mem_iff.2 (by simp);have mS : S ∈ L := hL.mem_iff.2 (by simp);have pT := h.cyc_pos mT hT;have pS := h.cyc_pos mS hS;have ho := zE0 pT pS hi;have bw := zGb pT hi;obtain ⟨i1, i2, i3⟩ := hi;obtain ⟨o1, o2, o3⟩ := ho;obtain ⟨n1, n2, n3⟩ := zAj pT;obtain ⟨m1, m2, m3⟩ := zAj pS;have np := hn T mT;have np' := hn S mS;rw [hT.cnr_iff] at np;rw [hS.cnr_iff] at np';simp only [not_or] at np np';obtain ⟨q1, q2, q3⟩ := np;obtain ⟨_, _, q4⟩ := np';have cd : c ≠ d := by
  rintro rfl;rw [zCy] at pS; omega
 refine h.change (Out := [T, S]) (In := [Q, R, X, Y]) (M := M) hL (rem := [(a, b), (b, a)]) (add := [(c, p), (p, c), (d, p), (p, d), (p, b), (b, p), (a, p), (p, a)]) (keep := [(b, c), (c, a), (a, d), (d, b)]) ?_ ?_ ?_ ?_ ?_ ?_ ?_ ?_ ?_ ?_
 ·simp only [List.flatMap_cons, List.flatMap_nil, List.append_nil];exact (hT.ways.append hS.ways).trans zH0
 ·simp only [List.flatMap_cons, List.flatMap_nil, List.append_nil];refine (hQ.ways.append (hR.ways.append (hX.ways.append hY.ways))).trans ?_;refine (List.perm_iff_count.2 fun w => ?_);simp only [List.cons_append, List.nil_append, List.count_cons, List.count_nil];omega
 ·simp [q1, q2, q3, q4, n3, m1, m3, cd, Ne.symm q1, Ne.symm q2, Ne.symm q3, Ne.symm q4, Ne.symm n2, Ne.symm m2]
 ·intro w hw;simp only [List.mem_cons, List.not_mem_nil, or_false] at hw;refine zGz hn ?_;rcases hw with rfl | rfl | rfl | rfl | rfl | rfl | rfl | rfl <;> simp
 ·intro w hw;simp only [List.mem_cons, List.not_mem_nil, or_false] at hw;rcases hw with rfl | rfl | rfl | rfl | rfl | rfl | rfl | rfl <;> simp
 ·intro w hw;simp only [List.mem_cons, List.not_mem_nil, or_false] at hw;rcases hw with rfl | rfl <;> simp
 ·intro K hK q;simp only [cvr];have e1 := zBq (sc K c) (sc K p) q;have e2 := zBq (sc K d) (sc K p) q;have e3 := zBq (sc K b) (sc K p) q;have e4 := zBq (sc K a) (sc K p) q;have e5 := zBq (sc K a) (sc K b) q;omega
 ·rw [hQ.area, hR.area, hX.area, hY.area, hT.area, hS.area];simp only [sumA];have := zEn a b c p;have := zEn b a d p;omega
 ·intro Z hZ;simp only [List.mem_cons, List.not_mem_nil, or_false] at hZ;rcases hZ with rfl | rfl | rfl | rfl
  ·rw [← hQ.det]; exact i2
  ·rw [← hR.det]; exact i3
  ·rw [← hX.det]; exact o2
  ·rw [← hY.det]; exact o3
 ·have ba := h.cyc_box mT hT;have bb := h.cyc_box mT hT.turn;have bc := h.cyc_box mT hT.turn.turn;have bd := h.cyc_box mS hS.turn.turn;intro Z hZ;simp only [List.mem_cons, List.not_mem_nil, or_false] at hZ;rcases hZ with rfl | rfl | rfl | rfl
  ·exact hQ.box bb bc hb
  ·exact hR.box bc ba hb
  ·exact hX.box ba bd hb
  ·exact hY.box bd bb hb
end
theorem tiles_square {W H : Int} (hW : 0 < W) (hH : 0 < H) {X Y : Tri3} (hX : Cyc X ⟨0, 0⟩ ⟨W, 0⟩ ⟨W, H⟩) (hY : Cyc Y ⟨0, 0⟩ ⟨W, H⟩ ⟨0, H⟩) : Tiles W H [X, Y] := by
 have wp : ([X, Y].flatMap ways).Perm [(⟨0, 0⟩, ⟨W, 0⟩), (⟨W, 0⟩, ⟨W, H⟩), (⟨W, H⟩, ⟨0, 0⟩), (⟨0, 0⟩, ⟨W, H⟩), (⟨W, H⟩, ⟨0, H⟩), (⟨0, H⟩, ⟨0, 0⟩)] := by
  simp only [List.flatMap_cons, List.flatMap_nil, List.append_nil];exact hX.ways.append hY.ways
 have pWH := Int.mul_pos hW hH;have dX : det ⟨0, 0⟩ ⟨W, 0⟩ ⟨W, H⟩ = W * H := by unfold det; grind
 have dY : det ⟨0, 0⟩ ⟨W, H⟩ ⟨0, H⟩ = W * H := by unfold det; grind
 refine ⟨?_, ?_, ?_, ?_, ?_, ?_⟩
 ·intro T hT;simp only [List.mem_cons, List.not_mem_nil, or_false] at hT;rcases hT with rfl | rfl
  ·rw [← hX.det, dX]; exact pWH
  ·rw [← hY.det, dY]; exact pWH
 ·rw [wp.nodup_iff];have w0 : W ≠ 0 := by omega
  have h0 : H ≠ 0 := by omega
  simp [w0, h0, Ne.symm w0, Ne.symm h0]
 ·have b1 : inBox W H ⟨0, 0⟩ := by unfold inBox; simp only; omega
  have b2 : inBox W H ⟨W, 0⟩ := by unfold inBox; simp only; omega
  have b3 : inBox W H ⟨W, H⟩ := by unfold inBox; simp only; omega
  have b4 : inBox W H ⟨0, H⟩ := by unfold inBox; simp only; omega
  intro T hT;simp only [List.mem_cons, List.not_mem_nil, or_false] at hT;rcases hT with rfl | rfl
  ·exact hX.box b1 b2 b3
  ·exact hY.box b1 b3 b4
 ·intro w hw;rw [wp.mem_iff] at hw ⊢;simp only [List.mem_cons, List.not_mem_nil, or_false] at hw;unfold onRim;rcases hw with rfl | rfl | rfl | rfl | rfl | rfl <;> simp
 ·intro K hK q;rw [zH2 wp];simp only [cvr];have e1 := zBq (sc K ⟨W, H⟩) (sc K ⟨0, 0⟩) q;have kW := Int.mul_pos hK hW;have kH := Int.mul_pos hK hH;have z1 : crs (sc K ⟨0, 0⟩) (sc K ⟨W, 0⟩) q = 0 := by unfold crs sc; simp only; (repeat' split) <;> omega
  have z2 : crs (sc K ⟨W, H⟩) (sc K ⟨0, H⟩) q = 0 := by unfold crs sc; simp only; (repeat' split) <;> omega
  have d1 : det (sc K ⟨W, 0⟩) (sc K ⟨W, H⟩) q = (K * H) * (K * W - q.x) := by unfold det sc; grind
  have d2 : det (sc K ⟨0, H⟩) (sc K ⟨0, 0⟩) q = (K * H) * q.x := by unfold det sc; grind
  have s1 := zB8 (b := K * W - q.x) kH;have s2 := zCe (b := q.x) kH;have v1 : crs (sc K ⟨W, 0⟩) (sc K ⟨W, H⟩) q = if (0 ≤ q.y ∧ q.y < K * H) ∧ q.x < K * W then 1 else 0 := by
   unfold crs; rw [d1];generalize K * H * (K * W - q.x) = D at *
   unfold sc; simp only [Int.mul_zero]
   (repeat' split) <;> omega
  have v2 : crs (sc K ⟨0, H⟩) (sc K ⟨0, 0⟩) q = if (0 ≤ q.y ∧ q.y < K * H) ∧ q.x < 0 then -1 else 0 := by
   unfold crs; rw [d2];generalize K * H * q.x = D at *
   unfold sc; simp only [Int.mul_zero]
   (repeat' split) <;> omega
  rw [z1, z2, v1, v2];unfold sqr
  (repeat' split) <;> omega
 ·rw [hX.area, hY.area, dX, dY]; simp only [sumA]; omega
def PH (h : Pt → Int) (a b c d : Pt) : Int := det d b c * h a + det a d c * h b + det a b d * h c - det a b c * h d
theorem PH_lft (a b c d : Pt) : PH (fun p => p.x * p.x + p.y * p.y) a b c d = lft a b c d := by unfold PH lft ht cr way det; grind
theorem wgt_ex : ∃ (w : Pt → Int) (M : Int), (∀ p, vld p = true → 0 < w p ∧ w p ≤ M) ∧ ∀ p q, vld p = true → vld q = true → key p < key q → 2251799545249801 * w q ≤ w p := by
 have gen : ∀ (B : Nat) (C N : Int), (B : Int) = C → 0 < B → (∀ p, vld p = true → 0 ≤ key p ∧ key p ≤ N) → ∃ (w : Pt → Int) (M : Int), (∀ p, vld p = true → 0 < w p ∧ w p ≤ M) ∧ ∀ p q, vld p = true → vld q = true → key p < key q → C * w q ≤ w p := by
  intro B C N hC hB hN;refine ⟨fun p => ((B ^ (N - key p).toNat : Nat) : Int), ((B ^ N.toNat : Nat) : Int), fun p hp => ?_, fun p q hp hq hk => ?_⟩
  ·have h1 : 0 < B ^ (N - key p).toNat := Nat.pow_pos hB;have h2 : B ^ (N - key p).toNat ≤ B ^ N.toNat := Nat.pow_le_pow_right hB (by have := hN p hp; omega);refine ⟨?_, ?_⟩
   ·show (0 : Int) < ((B ^ (N - key p).toNat : Nat) : Int); omega
   ·show ((B ^ (N - key p).toNat : Nat) : Int) ≤ ((B ^ N.toNat : Nat) : Int); omega
  ·have := hN q hq;have := hN p hp;have e : (N - key p).toNat = ((N - key q).toNat + 1) + ((N - key p).toNat - ((N - key q).toNat + 1)) := by omega
   have h1 : B ^ ((N - key q).toNat + 1) ≤ B ^ (N - key p).toNat := Nat.pow_le_pow_right hB (by omega);rw [Nat.pow_succ, Nat.mul_comm] at h1;show C * ((B ^ (N - key q).toNat : Nat) : Int) ≤ ((B ^ (N - key p).toNat : Nat) : Int);rw [← hC]
   exact_mod_cast h1
 exact gen 2251799545249801 2251799545249801 281474976710656 (by omega) (by omega) (fun p hp => by rw [zAx] at hp; unfold key; omega)
theorem zEj {u w D : Int} (h1 : -D ≤ u) (h2 : u ≤ D) (hw : 0 ≤ w) : -(D * w) ≤ u * w ∧ u * w ≤ D * w := by
 have e1 := Int.mul_le_mul_of_nonneg_right h2 hw;have e2 := Int.mul_le_mul_of_nonneg_right h1 hw;rw [Int.neg_mul] at e2;exact ⟨e2, e1⟩
structure Hts (h : Pt → Int) : Prop where
 nn : ∀ p, vld p = true → 0 ≤ h p
 sign : ∀ a b c d, vld a = true → vld b = true → vld c = true → vld d = true → 0 < det a b c → d ≠ a → d ≠ b → d ≠ c → (circ a b c d = 1 ∧ 0 < PH h a b c d ∧ 0 ≤ lft a b c d) ∨ (circ a b c d = -1 ∧ PH h a b c d < 0)
theorem tie_main {w : Pt → Int} (hp : ∀ p, vld p = true → 0 < w p) (hw : ∀ p q, vld p = true → vld q = true → key p < key q → 2251799545249801 * w q ≤ w p)
    {a b c d : Pt} (ha : vld a = true) (hb : vld b = true) (hc : vld c = true) (hd : vld d = true) (hD : 0 < det a b c) (e1 : d ≠ a) (e2 : d ≠ b) (e3 : d ≠ c) (hl : lft a b c d = 0) :
    (circ a b c d = 1 ∧ PH w a b c d < 0) ∨ (circ a b c d = -1 ∧ 0 < PH w a b c d) := by
 obtain ⟨n1, n2, n3⟩ := zAj hD;have h0 : ¬ ori a b c = 0 := by rw [ori_v ha hb hc, zBp]; omega
 rw [zBm h0 hd e1 e2 e3, if_neg (by rw [hl]; simp [sgn])];have hk := zCv ha hb hc hd;have k1 : ∀ p q : Pt, vld p = true → vld q = true → p ≠ q → key p ≠ key q := fun p q hp hq hn h => hn (zBo hp hq h);have b0 := zHp ha hb hc;have b1 := zHp hd hb hc;have b2 := zHp ha hd hc;have b3 := zHp ha hb hd;have t1 : det d b c ≠ 0 := zE9 hl (by omega) e2 e3;have t2 : det a d c ≠ 0 := by
  have := zE9 (a := b) (b := c) (c := a) (d := d) (by rw [zFg]; exact hl) (by rw [zB0]; omega) e3 e1
  rwa [← zB0 a d c]
 have t3 : det a b d ≠ 0 := by
  have := zE9 (a := c) (b := a) (c := b) (d := d) (by rw [zFg b c a, zFg]; exact hl) (by rw [zB0 b c a, zB0]; omega) e1 e2
  rwa [← zB0 a b d, ← zB0 b d a]
 have pa := hp a ha;have pb := hp b hb;have pc := hp c hc;have pd := hp d hd;have q1 := zEj b1.1 b1.2 (Int.le_of_lt pa);have q2 := zEj b2.1 b2.2 (Int.le_of_lt pb);have q3 := zEj b3.1 b3.2 (Int.le_of_lt pc);have q4 := zEj b0.1 b0.2 (Int.le_of_lt pd);have one : ∀ (u x : Int), u ≠ 0 → 0 < x → (0 < u ∧ x ≤ u * x) ∨ (u < 0 ∧ u * x ≤ -x) := by
  intro u x hu hx;rcases Int.lt_or_gt_of_ne hu with k | k
  ·right
   have := Int.mul_nonneg (a := -1 - u) (b := x) (by omega) (by omega);rw [Int.sub_mul] at this;exact ⟨k, by omega⟩
  ·left
   have := Int.mul_nonneg (a := u - 1) (b := x) (by omega) (by omega);rw [Int.sub_mul] at this;exact ⟨k, by omega⟩
 unfold PH tie;rcases zJn a b c d with m | m | m | m
 ·rw [m] at hk;have x1 := hw a b ha hb (by have := k1 a b ha hb n1; omega);have x2 := hw a c ha hc (by have := k1 a c ha hc n3.symm; omega);have x3 := hw a d ha hd (by have := k1 a d ha hd e1.symm; omega);rw [m, if_neg (np e1.symm), if_pos (pp rfl), ori_v hd hb hc];have s := zAa (det d b c);have o := one _ _ t1 pa;generalize det d b c * w a = z1 at *
  generalize det a d c * w b = z2 at *
  generalize det a b d * w c = z3 at *
  generalize det a b c * w d = z4 at *
  omega
 ·rw [m] at hk;have x1 := hw b a hb ha (by have := k1 b a hb ha n1.symm; omega);have x2 := hw b c hb hc (by have := k1 b c hb hc n2; omega);have x3 := hw b d hb hd (by have := k1 b d hb hd e2.symm; omega);rw [m, if_neg (np e2.symm), if_neg (np n1.symm), if_pos (pp rfl), ori_v ha hd hc];have s := zAa (det a d c);have o := one _ _ t2 pb;generalize det d b c * w a = z1 at *
  generalize det a d c * w b = z2 at *
  generalize det a b d * w c = z3 at *
  generalize det a b c * w d = z4 at *
  omega
 ·rw [m] at hk;have x1 := hw c a hc ha (by have := k1 c a hc ha n3; omega);have x2 := hw c b hc hb (by have := k1 c b hc hb n2.symm; omega);have x3 := hw c d hc hd (by have := k1 c d hc hd e3.symm; omega);rw [m, if_neg (np e3.symm), if_neg (np n3), if_neg (np n2.symm), ori_v ha hb hd];have s := zAa (det a b d);have o := one _ _ t3 pc;generalize det d b c * w a = z1 at *
  generalize det a d c * w b = z2 at *
  generalize det a b d * w c = z3 at *
  generalize det a b c * w d = z4 at *
  omega
 ·rw [m] at hk;have x1 := hw d a hd ha (by have := k1 d a hd ha e1; omega);have x2 := hw d b hd hb (by have := k1 d b hd hb e2; omega);have x3 := hw d c hd hc (by have := k1 d c hd hc e3; omega);rw [m, if_pos (pp rfl), ori_v ha hb hc];have s := zAa (det a b c);have o := one _ _ (show det a b c ≠ 0 by omega) pd;generalize det d b c * w a = z1 at *
  generalize det a d c * w b = z2 at *
  generalize det a b d * w c = z3 at *
  generalize det a b c * w d = z4 at *
  omega
theorem hts_ex : ∃ h, Hts h := by
 obtain ⟨w, M, hM, hw⟩ := wgt_ex;have hM0 : 0 < M := by have := hM ⟨0, 0⟩ (by decide); omega
 refine ⟨fun p => (4 * 562949886312450 * M + 1) * (p.x * p.x + p.y * p.y) - w p + M, fun p hp => ?_, fun a b c d ha hb hc hd hD e1 e2 e3 => ?_⟩
 ·have := hM p hp;have := Int.mul_nonneg (a := 4 * 562949886312450 * M + 1) (b := p.x * p.x + p.y * p.y) (by omega) (by have := sq_nn p.x; have := sq_nn p.y; omega);show 0 ≤ (4 * 562949886312450 * M + 1) * (p.x * p.x + p.y * p.y) - w p + M;omega
 ·have e : PH (fun p => (4 * 562949886312450 * M + 1) * (p.x * p.x + p.y * p.y) - w p + M) a b c d = (4 * 562949886312450 * M + 1) * lft a b c d - PH w a b c d := by
    have z : det d b c + det a d c + det a b d = det a b c := by unfold det; grind
    rw [← PH_lft]; unfold PH; grind
  rw [e];have h0 : ¬ ori a b c = 0 := by rw [ori_v ha hb hc, zBp]; omega
  have pa := hM a ha;have pb := hM b hb;have pc := hM c hc;have pd := hM d hd;by_cases hl : lft a b c d = 0
  ·have t := tie_main (fun p hp => (hM p hp).1) hw ha hb hc hd hD e1 e2 e3 hl;rw [hl, Int.mul_zero];omega
  ·have b0 := zHp ha hb hc;have b1 := zHp hd hb hc;have b2 := zHp ha hd hc;have b3 := zHp ha hb hd;have q1 := zEj b1.1 b1.2 (Int.le_of_lt pa.1);have q2 := zEj b2.1 b2.2 (Int.le_of_lt pb.1);have q3 := zEj b3.1 b3.2 (Int.le_of_lt pc.1);have q4 := zEj b0.1 b0.2 (Int.le_of_lt pd.1);rw [zBm h0 hd e1 e2 e3];have s := zAa (lft a b c d);rw [if_pos (by rw [zBp]; exact hl)];have key : (4 * 562949886312450 * M + 1) * lft a b c d ≤ -(4 * 562949886312450 * M + 1) ∨ (4 * 562949886312450 * M + 1) ≤ (4 * 562949886312450 * M + 1) * lft a b c d := by
    rcases Int.lt_or_gt_of_ne hl with k | k
    ·left
     have := Int.mul_nonneg (a := 4 * 562949886312450 * M + 1) (b := -1 - lft a b c d) (by omega) (by omega);rw [Int.mul_sub] at this; omega
    ·right
     have := Int.mul_nonneg (a := 4 * 562949886312450 * M + 1) (b := lft a b c d - 1) (by omega) (by omega);rw [Int.mul_sub] at this; omega
   have sg : 0 < lft a b c d → (4 * 562949886312450 * M + 1) * lft a b c d > 0 := fun k => Int.mul_pos (by omega) k;have sg' : lft a b c d < 0 → (4 * 562949886312450 * M + 1) * lft a b c d < 0 := fun k => Int.mul_neg_of_pos_of_neg (by omega) k;unfold PH;generalize (4 * 562949886312450 * M + 1) * lft a b c d = Q at *
   generalize det d b c * w a = z1 at *
   generalize det a d c * w b = z2 at *
   generalize det a b d * w c = z3 at *
   generalize det a b c * w d = z4 at *
   omega
theorem lft_edge (a b c d : Pt) : lft a b c d = det c a d * ((b.x - a.x) * (b.x - a.x) + (b.y - a.y) * (b.y - a.y)) - det b a d * ((c.x - a.x) * (c.x - a.x) + (c.y - a.y) * (c.y - a.y)) - det a b c * ((d.x - a.x) * (d.x - a.x) + (d.y - a.y) * (d.y - a.y)) := by unfold lft ht cr way det; grind
theorem lft_edge2 (a b c d : Pt) : lft a b c d = det d b c * ((b.x - a.x) * (b.x - a.x) + (b.y - a.y) * (b.y - a.y)) - det b a d * ((c.x - b.x) * (c.x - b.x) + (c.y - b.y) * (c.y - b.y)) - det a b c * ((d.x - b.x) * (d.x - b.x) + (d.y - b.y) * (d.y - b.y)) := by unfold lft ht cr way det; grind
theorem sq_ne {p q : Pt} (h : p ≠ q) : 0 < (q.x - p.x) * (q.x - p.x) + (q.y - p.y) * (q.y - p.y) := by
 have s1 := sq_nn (q.x - p.x);have s2 := sq_nn (q.y - p.y);refine Decidable.byContradiction fun k => h ?_;have u1 := Int.mul_eq_zero.1 (show (q.x - p.x) * (q.x - p.x) = 0 by omega);have u2 := Int.mul_eq_zero.1 (show (q.y - p.y) * (q.y - p.y) = 0 by omega);rw [Pt.eq_iff]; omega
theorem convex {a b c d : Pt} (h1 : 0 < det a b c) (h2 : 0 < det b a d) (hl : 0 ≤ lft a b c d) : 0 < det c a d ∧ 0 < det d b c := by
 obtain ⟨n1, n2, n3⟩ := zAj h1;obtain ⟨m1, m2, m3⟩ := zAj h2;have key : ∀ g x y z : Int, 0 < x → 0 < y → 0 < z → 0 ≤ g * x - det b a d * y - det a b c * z → 0 < g := by
  intro g x y z hx hy hz k;refine Decidable.byContradiction fun hg => ?_;have i1 := Int.mul_nonneg (a := -g) (b := x) (by omega) (by omega);have i2 := Int.mul_pos h2 hy;have i3 := Int.mul_pos h1 hz;rw [Int.neg_mul] at i1;omega
 refine ⟨key _ _ _ _ (sq_ne n1) (sq_ne n3.symm) (sq_ne m2) (by rw [← lft_edge]; exact hl), key _ _ _ _ (sq_ne n1) (sq_ne n2) (sq_ne m3.symm) (by rw [← lft_edge2]; exact hl)⟩
def vol (h : Pt → Int) (T : Tri3) : Int := det T.A T.B T.C * (h T.A + h T.B + h T.C)
def volS (h : Pt → Int) : List Tri3 → Int
 | [] => 0
 | T :: L => vol h T + volS h L
theorem volS_perm {h : Pt → Int} {l m : List Tri3} (p : l.Perm m) : volS h l = volS h m := by
 induction p with
 | nil => rfl
 | cons x _ ih => simp only [volS, ih]
 | swap x y l => simp only [volS]; omega
 | trans _ _ h1 h2 => exact h1.trans h2
theorem Cyc.vol {T : Tri3} {a b c : Pt} (h : Cyc T a b c) (f : Pt → Int) : Go.Proofs.YtjkfakaehjmnbaaGreat.vol f T = Go.Proofs.YtjkfakaehjmnbaaGreat.det a b c * (f a + f b + f c) := by
 rw [h.det]; unfold Go.Proofs.YtjkfakaehjmnbaaGreat.vol;rcases h with ⟨rfl, rfl, rfl⟩ | ⟨rfl, rfl, rfl⟩ | ⟨rfl, rfl, rfl⟩
 ·rfl
 ·congr 1; omega
 ·congr 1; omega
theorem vol_flip (h : Pt → Int) {S R U V : Tri3} (M : List Tri3) {a b c d : Pt} (hS : Cyc S a b c) (hR : Cyc R b a d) (hU : Cyc U c a d) (hV : Cyc V d b c) : volS h (S :: R :: M) = volS h (U :: V :: M) + PH h a b c d := by
 simp only [volS];rw [hS.vol, hR.vol, hU.vol, hV.vol];unfold PH det; grind
theorem zKe {h : Pt → Int} (hh : Hts h) : ∀ {L : List Tri3}, (∀ T ∈ L, 0 < det T.A T.B T.C ∧ vld T.A = true ∧ vld T.B = true ∧ vld T.C = true) → 0 ≤ volS h L
 | [], _ => Int.le_refl 0
 | T :: L, k => by
  have k1 := k T (by simp);have k2 := zKe hh (L := L) (fun S hS => k S (by simp [hS]));have a1 := hh.nn _ k1.2.1;have a2 := hh.nn _ k1.2.2.1;have a3 := hh.nn _ k1.2.2.2;have := Int.mul_nonneg (a := det T.A T.B T.C) (b := h T.A + h T.B + h T.C) (by omega) (by omega);unfold volS vol;omega
theorem zIi {α : Type} (n m : α → Int) : ∀ (L : List α), L ≠ [] → (∀ x ∈ L, 0 < m x) → ∃ x ∈ L, ∀ y ∈ L, n y * m x ≤ n x * m y
 | [], h, _ => absurd rfl h
 | [x], _, _ => ⟨x, by simp, fun y hy => by simp at hy; subst hy; exact Int.le_refl _⟩
 | x :: y :: L, _, hm => by
  obtain ⟨z, hz, k⟩ := zIi n m (y :: L) (by simp) (fun u hu => hm u (by simp [hu]));have pz := hm z (by simp [hz]);have px := hm x (by simp);by_cases g : n x * m z ≤ n z * m x
  ·refine ⟨z, by simp [hz], fun u hu => ?_⟩;rcases List.mem_cons.1 hu with rfl | hu
   ·exact g
   ·exact k u hu
  ·refine ⟨x, by simp, fun u hu => ?_⟩;rcases List.mem_cons.1 hu with rfl | hu
   ·exact Int.le_refl _
   ·have pu := hm u (by simp [hu]);have k1 := k u hu
    -- n u / m u ≤ n z / m z < n x / m x
    have a1 : n u * m z * m x ≤ n z * m u * m x := Int.mul_le_mul_of_nonneg_right k1 (by omega);have a2 : n z * m x * m u ≤ n x * m z * m u := Int.mul_le_mul_of_nonneg_right (by omega) (by omega);have a3 : m z * (n u * m x) ≤ m z * (n x * m u) := by
     have e1 : m z * (n u * m x) = n u * m z * m x := by grind
     have e2 : m z * (n x * m u) = n x * m z * m u := by grind
     have e3 : n z * m u * m x = n z * m x * m u := by grind
     omega
    exact Int.le_of_mul_le_mul_left a3 pz
structure Fixed (W H : Int) (wl : Pt → Pt → Prop) (L : List Tri3) : Prop where
 tiles : Tiles W H L
 good : ∀ S ∈ L, ∀ R ∈ L, ∀ a b c d, Cyc S a b c → Cyc R b a d → ¬ wl a b → circ a b c d ≠ 1
theorem zJu {M : Tri3} {p : Pt} (hM : valT M = true) (vp : vld p = true) : hasP M p = true ↔ 0 ≤ det M.A M.B p ∧ 0 ≤ det M.B M.C p ∧ 0 ≤ det M.C M.A p := by
 obtain ⟨va, vb, vc, hD⟩ := zGg hM;unfold hasP;rw [hM, vp, Bool.true_and, Bool.true_and];simp only [Bool.and_eq_true, decide_eq_true_eq, (zL0 va vb vp).2.1, (zL0 vb vc vp).2.1, (zL0 vc va vp).2.1]
end Go.Proofs.YtjkfakaehjmnbaaGreat
namespace Go.Proofs.YtjkfakaehjmnbaaGreat
open Go.RowKit Go.Sort
attribute [local go_sem] rOper rAt rUpon cell_set sg_i64 sg_u64 alloc_cell alloc_frozen
attribute [local go_sem 10000] pt_eql pt_neq
attribute [local irreducible] rWalk
theorem zDw : (Tryz.prog.info? 30).map (fun i => (i.zero, i.size, i.bytes)) = some (some (.agg #[.int .i64 0, .int .i64 0]), 2, 16) := by kernel_rfl
theorem zG4 {w : World} {B g n cap : Nat} {xs tl : List Value} {T : TypeId} (h : Box w g (xs ++ tl) T) (hB : B ≤ g) (hl : xs.length = n * 2) (hn : n ≤ cap) (hc : cap ≤ maxLen) (ht : tl.length = (cap - n) * 2) :
    w.ownsRow B T 2 (.slice (some ⟨g, 0, none⟩) n cap) n xs := by
 refine ⟨hl, Or.inr ⟨g, cap, (xs ++ tl).toArray, rfl, hB, h, hn, hc, ?_, ?_⟩⟩
 ·simp [hl, ht]; omega
 ·simp [← hl]
theorem zJ1 {w : World} {ops : Array Oper} {rest : List Oper} {o : Oper} {a : Act} {Q : Exit → Act → World → Prop} (hgd : o.guard = none) (s x : Operand)
    (ho : o.op = .call { callee := .builtin .append, args := #[s, x], argTypes := #[79, 79] })
    (B n : Nat) (v : Value) (xs : List Value) (hs : a.eval s = v) (hown : w.ownsRow B 30 2 v n xs)
    (bx : Nat) (p : Pt) (hx : a.eval x = .slice (some ⟨bx, 0, none⟩) 1 1) (hbx : Box w bx [.int .i64 p.x, .int .i64 p.y] 30) (hn : n ≤ 1000000) (hbase : B ≤ w.heap.size)
    (h : ∀ w' g cap tl, B ≤ g → Box w' g (xs ++ .int .i64 p.x :: .int .i64 p.y :: tl) 30 → n + 1 ≤ cap → cap ≤ maxLen → tl.length = (cap - (n + 1)) * 2 → w.grownBy w' v.ownBlock →
     wpList Tryz.prog ops Q rest (a.put o.dst (.slice (some ⟨g, 0, none⟩) (n + 1) cap)) w') : wpList Tryz.prog ops Q (o :: rest) a w := by
 obtain ⟨i0, hi, hz0, hz1, hz2⟩ := info_parts zDw;refine wpList_append_own w hgd s x 79 ho B 30 i0 _ 2 16 Tryz.underlying79 hi hz0 hz1 hz2 rfl (by decide) v n xs hs hown ⟨bx, 0, none⟩ 1 1 [.int .i64 p.x, .int .i64 p.y] hx rfl ?_ ?_ ?_ ?_ hbase ?_
 ·intro j u hj;have := hbx.f.1
  match j, hj with
  | 0, hj => simp at hj; subst hj; simp [Addr.add, this]
  | 1, hj => simp at hj; subst hj; simp [Addr.add, this]
 ·intro u hu; simp at hu; rcases hu with rfl | rfl <;> rfl
 ·unfold maxLen; omega
 ·omega
 ·intro v' w' hown' hg _;obtain ⟨hl, ⟨_, h0⟩ | ⟨g, cap, cur, rfl, hB, hb, h1, h2, h3, h4⟩⟩ := hown'
  ·omega
  ·refine h w' g cap (cur.toList.drop ((n + 1) * 2)) hB ?_ h1 h2 ?_ hg
   ·unfold Box;rw [hb];have e : xs ++ .int .i64 p.x :: .int .i64 p.y :: cur.toList.drop ((n + 1) * 2) = cur.toList := by
     rw [show xs ++ .int .i64 p.x :: .int .i64 p.y :: cur.toList.drop ((n + 1) * 2) = (xs ++ [.int .i64 p.x, .int .i64 p.y]) ++ cur.toList.drop ((n + 1) * 2) by simp, ← h4, List.take_append_drop]
    rw [e]
   ·rw [List.length_drop, Array.length_toList, h3, Nat.sub_mul]
end Go.Proofs.YtjkfakaehjmnbaaGreat
namespace Go.Proofs.YtjkfakaehjmnbaaGreat
open Go.RowKit Go.Sort
attribute [local go_sem] rOper rAt rUpon cell_set sg_i64 sg_u64 alloc_cell alloc_frozen
attribute [local go_sem 10000] pt_eql pt_neq tri_eql
attribute [local irreducible] rWalk
def Two (w : World) (A : Addr) (p : Pt) : Prop := A.block < w.heap.size ∧ w.cell? A = some (.int .i64 p.x) ∧ w.cell? ⟨A.block, A.off + 1, none⟩ = some (.int .i64 p.y)
theorem RowAt.two {w : World} {a : Option Addr} {L : List Pt} (h : RowAt cP 2 w a L) {j : Nat} (hj : j < L.length) : ∃ ad A, a = some ad ∧ ad.add (j * 2) = A ∧ Two w A L[j] := by
 obtain ⟨ad, A, h1, h2, _, h4, h5⟩ := h.pt hj;exact ⟨ad, A, h1, h2, h4, h5⟩
theorem Two.ext {w w' : World} {A : Addr} {p : Pt} {n : Nat} (h : Two w A p) (hb : Below n w w') (hn : n = w.heap.size) : Two w' A p := by
 obtain ⟨h0, h1, h2⟩ := h;have e : ∀ q : Addr, q.block = A.block → w'.cell? q = w.cell? q := fun q hq => hb.cell (by rw [hq, hn]; exact h0);exact ⟨Nat.lt_of_lt_of_le h0 hb.size, (e A rfl).trans h1, (e ⟨A.block, A.off + 1, none⟩ rfl).trans h2⟩
theorem Two.ee {w w' : World} {A : Addr} {p : Pt} (h : Two w A p) (hb : Below w.heap.size w w') : Two w' A p := h.ext hb rfl
theorem Two.f {w : World} {A : Addr} {p : Pt} (h : Two w A p) : (A.block = w.heap.size) = False ∧ w.cell? A = some (.int .i64 p.x) ∧ w.cell? ⟨A.block, A.off + 1, none⟩ = some (.int .i64 p.y) := ⟨by simp; have := h.1; omega, h.2⟩
theorem Two.cells {w : World} {A : Addr} {p : Pt} (h : Two w A p) : (∀ d os, (grow (redrawn w d) os).cell? A = some (.int .i64 p.x)) ∧ (∀ d os, (grow (redrawn w d) os).cell? ⟨A.block, A.off + 1, none⟩ = some (.int .i64 p.y)) :=
 ⟨fun d os => (h.ext (below_regrown w d os) rfl).2.1, fun d os => (h.ext (below_regrown w d os) rfl).2.2⟩
theorem Two.set {w : World} {A : Addr} {p : Pt} (h : Two w A p) (q : Addr) (v : Value) (hq : q.block ≠ A.block) : Two (w.setCell q v) A p := by
 obtain ⟨h0, h1, h2⟩ := h;refine ⟨by simpa using h0, ?_, ?_⟩
 ·rw [World.cell?_setCell_other (h := fun e => hq (by rw [e]))]; exact h1
 ·rw [World.cell?_setCell_other (h := fun e => hq (by rw [e]))]; exact h2
theorem zJx (tl : List Value) : ∀ (S : List Pt) (j : Nat) (p : Pt), j < S.length → ((S.flatMap cP ++ tl).set (j * 2) (.int .i64 p.x)).set (j * 2 + 1) (.int .i64 p.y) = (S.set j p).flatMap cP ++ tl
 | q :: S, 0, p, _ => by simp [cP]
 | q :: S, j + 1, p, h => by
  have ih := zJx tl S j p (by simpa using h);simp only [List.flatMap_cons, cP, List.cons_append, List.nil_append, List.set_cons_succ] at ih ⊢;rw [show (j + 1) * 2 = j * 2 + 1 + 1 by omega];simp only [List.set_cons_succ];rw [ih]
theorem zD0 {w : World} {g : Nat} {S : List Pt} {tl : List Value} (h : Box w g (S.flatMap cP ++ tl) 30) {j : Nat} (hj : j < S.length) :
    w.cell? ⟨g, j * 2, none⟩ = some (.int .i64 S[j].x) ∧ w.cell? ⟨g, j * 2 + 1, none⟩ = some (.int .i64 S[j].y) ∧ w.frozen? ⟨g, j * 2, none⟩ = false ∧ w.frozen? ⟨g, j * 2 + 1, none⟩ = false := by
 have hf := h.f;have e : ∀ i, i < 2 → (S.flatMap cP ++ tl)[j * 2 + i]? = (cP S[j])[i]? := fun i hi => by
  rw [List.getElem?_append_left (by rw [zB4 zCz]; omega)];exact zBb zCz S j i S[j] (List.getElem?_eq_getElem hj) hi
 have e0 := e 0 (by omega);have e1 := e 1 (by omega);refine ⟨by rw [hf.1, show j * 2 = j * 2 + 0 from rfl, e0]; rfl, by rw [hf.1, e1]; rfl, hf.2.1 _, hf.2.1 _⟩
theorem zHr {w : World} {g : Nat} {S : List Pt} {tl : List Value} (h : Box w g (S.flatMap cP ++ tl) 30) {j : Nat} (hj : j < S.length) (p : Pt) :
    Box ((w.setCell ⟨g, j * 2, none⟩ (.int .i64 p.x)).setCell ⟨g, j * 2 + 1, none⟩ (.int .i64 p.y)) g ((S.set j p).flatMap cP ++ tl) 30 := by
 rw [← zJx tl S j p hj];exact (h.set (j * 2) _).set (j * 2 + 1) _
theorem rsortP_any (a0 : Option Addr) (c0 n : Nat) (L : List Pt) (hL : Hid (L.length = n)) (hn : n ≤ 500000) (w : World) (h0 : RowAt cP 2 w a0 L) :
    Calls Tryz.prog 90 #[.slice a0 n c0] w fun e w' => ∃ (M : List Pt) (a : Option Addr) (cap : Nat), e = .returned (.slice a M.length cap) ∧ RowAt cP 2 w' a M ∧ Rising cmpP M ∧ (∀ p, p ∈ M ↔ p ∈ L) ∧ Below w.heap.size w w' := by
 go_enter Tryz.func90, Tryz.ntmps90
 go_wp2
 go_loopw [3, 4] (fun vo vi wr => ∃ (k : Nat) (M : List Pt), vi = .int .i64 k ∧ k ≤ n ∧ Hid (Rising cmpP M) ∧ Hid (∀ p, p ∈ M ↔ p ∈ L.take k) ∧ M.length ≤ k ∧ wr.ownsRow w.heap.size 30 2 vo M.length (M.flatMap cP) ∧ Below w.heap.size w wr) (fun _ vi _ => n - (intOf vi).toNat)
 case atStart => exact ⟨0, [], rfl, Nat.zero_le _, Lib.hid (by simp [Rising]), Lib.hid (by simp), Nat.le_refl _, World.ownsRow_nil _ _ _ _, Below.refl _ _⟩
 case round =>
  obtain ⟨k, M, rfl, hk, hR, hM, hMk, hown, hw⟩ := hrel;by_cases hlt : k < n
  case neg =>
   obtain ⟨a, cap, rfl, _, hr⟩ := zAr zCz hown;have HM := Lib.hid (show ∀ p, p ∈ M ↔ p ∈ L by intro p; rw [hM.out p, List.take_of_length_le (by rw [hL.out]; omega)]);go_wp2
   go_ret
   exact ⟨M, a, cap, rfl, hr, hR.out, HM.out, hw⟩
  case pos =>
   have hlk : k < L.length := hL.out ▸ hlt;obtain ⟨ad, A, ea, eA, hA0⟩ := h0.two hlk;have hA := hA0.ee hw;obtain ⟨a1, c1, rfl, hc1, hr1⟩ := zAr zCz hown;have hT := Lib.hid (show L.take (k + 1) = L.take k ++ [L[k]] from List.take_succ_eq_append_getElem hlk);generalize L[k] = x at *
   go_wp2;obtain ⟨W0, rfl⟩ : ∃ W0, W0 = wr := ⟨_, rfl⟩
   go_loopw [5] (fun va wr => ∃ a : Nat, va = .int .i64 a ∧ a ≤ M.length ∧ Hid (∀ (i : Nat) (_ : a ≤ i) (h2 : i < M.length), 0 < cmpP (M[i]'h2) x) ∧ Below W0.heap.size W0 wr) (fun va _ => (intOf va).toNat)
   case atStart => exact ⟨M.length, rfl, Nat.le_refl _, Lib.hid (fun i h1 h2 => by omega), Below.refl _ _⟩
   case round =>
    obtain ⟨a, rfl, haM, hhi, hw1⟩ := hrel;rcases a with _ | j
    ·have hAT : 0 ≤ M.length := Nat.zero_le _;have hlo : ∀ (i : Nat) (hi : i < 0), cmpP (M[i]'(by omega)) x < 0 := fun i hi => by omega
     have hhi2 : ∀ (i : Nat) (_ : 0 ≤ i) (h2 : i < M.length), 0 < cmpP (M[i]'h2) x := fun i h1 h2 => hhi.out i h1 h2;have HHI := Lib.hid hhi2;clear hhi hhi2;go_wp2;refine wrt 14 (by kernel_rfl) (by kernel_rfl) ?_;simp only [tK1, tK0, dP1, dP0];repeat (first | (refine zA0 (Eq.refl false) ?_; simp only [Act.put, sT2, sT1, sT0]) | (refine rWalk_step (fun K hK => ?_); go_simp; refine hK _ ?_; clear hK K))
     refine rWalk_nil ?_;intro w2 hb;have hw2 := (upB hw1 hb);go_wp2;refine wrt 13 (by kernel_rfl) (by kernel_rfl) ?_;simp only [tK1, tK0, dP1, dP0];repeat (first | (refine zA0 (Eq.refl false) ?_; simp only [Act.put, sT2, sT1, sT0]) | (refine rWalk_step (fun K hK => ?_); go_simp; refine hK _ ?_; clear hK K))
     refine rWalk_nil ?_;intro w3 hb3;have hw3 := (upB hw2 hb3);have hhi2 := HHI.out;have HI := Lib.hid (zEi wholeP hR.out (x := x) (k := 0) hAT hlo hhi2);obtain ⟨z1, t0, t1⟩ := (hA.ee hw3).f;have own3 := hown.kept (zA7 hw3 none) (by cases a1 <;> simp [Value.ownBlock]);have HB := Lib.hid (Nat.le_trans hw.size hw3.size);have hMn : M.length ≤ 1000000 := by omega
     have hw3w := (upB hw hw3);have hlt0 := fun q hq => (own3.lt q hq).1;clear hlo hhi2;go_wp2_with (at_builtin; refine zJ1 rfl _ _ rfl w.heap.size M.length _ (M.flatMap cP) rfl (own3.alloc _) w3.heap.size x rfl (Box.new rfl) hMn (by have := HB.out; simp; omega) ?_; intro w4 g cap tl hg0 hbx hcp1 hcp2 htl hg4)
     have hw4 := (hw3w.alloc HB.out (.cells #[.int .i64 x.x, .int .i64 x.y] 30)).grown hg4 (by have := HB.out; simp; omega) hlt0;have hbx2 : Box w4 g ((M ++ [x]).flatMap cP ++ tl) 30 := by simpa [cP] using hbx
     clear z1 t0 t1 own3 hg4 hlt0 hbx
     go_loopw [6] (fun vk wr => ∃ (q : Nat) (S : List Pt), vk = .int .i64 q ∧ 0 ≤ q ∧ q ≤ M.length ∧ Hid (Moved M S q) ∧ Box wr g (S.flatMap cP ++ tl) 30 ∧ Below w.heap.size w wr) (fun vk _ => (intOf vk).toNat)
     case atStart => exact ⟨M.length, M ++ [x], by first | rfl | go_num, hAT, Nat.le_refl _, Lib.hid (zG7 M x), hbx2, hw4⟩
     case round =>
      clear hbx2 hw4;obtain ⟨q, S, rfl, hq1, hq2, hS, hbS, hwS⟩ := hrel;have hSl := hS.out.len;by_cases hq : 0 < q
      ·rcases q with _ | q
       ·omega
       ·have hqM : q < M.length := hq2;obtain ⟨u0, u1, _, _⟩ := zD0 hbS (j := q) (by omega);obtain ⟨y0, y1, v0, v1, f0, f1⟩ : ∃ y0 y1, wr.cell? ⟨g, (q + 1) * 2, none⟩ = some y0 ∧ wr.cell? ⟨g, (q + 1) * 2 + 1, none⟩ = some y1 ∧ wr.frozen? ⟨g, (q + 1) * 2, none⟩ = false ∧ wr.frozen? ⟨g, (q + 1) * 2 + 1, none⟩ = false := ⟨_, _, zD0 hbS (j := q + 1) (by omega)⟩;have eg : S[q] = M[q] := hS.out.get hqM;have hHS := Lib.hid (hS.out.step hqM);have hbS2 := zHr hbS (j := q + 1) (by omega) (M[q]'hqM);rw [eg] at u0 u1;have n5 : q < M.length + 1 := by omega
        have n6 : q + 1 < M.length + 1 := by omega
        have HBS := Lib.hid hbS2;have HW := Lib.hid hwS;clear eg hbS2 hwS hS;clear hbS hSl;go_wp2;exact ⟨⟨q, S.set (q + 1) (M[q]'hqM), rfl, by omega, by omega, hHS, HBS.out, (HW.out.setCell hg0 _).setCell hg0 _⟩, by simp [intOf]⟩
      ·obtain rfl : q = 0 := by omega
       obtain ⟨y0, y1, v0, v1, f0, f1⟩ : ∃ y0 y1, wr.cell? ⟨g, 0, none⟩ = some y0 ∧ wr.cell? ⟨g, 1, none⟩ = some y1 ∧ wr.frozen? ⟨g, 0, none⟩ = false ∧ wr.frozen? ⟨g, 1, none⟩ = false := ⟨_, _, zD0 hbS (j := 0) (by omega)⟩;have hbS2 := zHr hbS (j := 0) (by omega) x;rw [hS.out.done hAT x] at hbS2;have HBS := Lib.hid hbS2;have HW := Lib.hid ((hwS.setCell (p := ⟨g, 0, none⟩) hg0 (.int .i64 x.x)).setCell (p := ⟨g, 1, none⟩) hg0 (.int .i64 x.y));obtain ⟨z1, t0, t1⟩ := (hA0.ee hwS).f;have n8 : 0 < M.length + 1 := by omega
       have HLn := Lib.hid (show (M.take 0 ++ x :: M.drop 0).length = M.length + 1 by rw [List.length_append, List.length_cons, List.length_take, List.length_drop]; omega);have HMB := Lib.hid (show ∀ p, p ∈ M.take 0 ++ x :: M.drop 0 ↔ p ∈ L.take (k + 1) by intro p; rw [HI.out.2 p, hM.out p, hT.out]; simp);clear hbS2 hwS hbS hS hSl hq;go_wp2;try rw [← ea]
       go_roundw
       case rel => exact ⟨k + 1, M.take 0 ++ x :: M.drop 0, by go_num, by omega, Lib.hid HI.out.1, HMB, by rw [HLn.out]; omega, by rw [HLn.out]; exact zG4 HBS.out hg0 (by rw [zB4 zCz, HLn.out]) hcp1 hcp2 htl, HW.out⟩
       case measure => simp [intOf]; omega
    ·obtain ⟨ad1, A1, ea1, eA1, hB0⟩ := hr1.two (j := j) (by omega);have hB := hB0.ee hw1;have hA1 := hA.ee hw1;have hjM : j < M.length := haM;have cc := zAd (M[j]'(by omega)) x;have e1 : IntKind.i64.wrap (j : Int) = j := by rw [IntKind.wrap_i64]; omega
     by_cases hc : 0 < cmpP (M[j]'(by omega)) x
     ·have hd : decide (0 < cmpP (M[j]'(by omega)) x) = true := by simpa using hc
      have HH := Lib.hid (show ∀ (i : Nat) (_ : j ≤ i) (h2 : i < M.length), 0 < cmpP (M[i]'h2) x from fun i h1 h2 => by
       by_cases e : i = j
       ·subst e; exact hc
       ·exact hhi.out i (by omega) h2)
      clear hc hhi;generalize cmpP (M[j]'(by omega)) x = q at *
      obtain ⟨t0, t1⟩ := hA1.cells;obtain ⟨s0, s1⟩ := hB.cells;go_wp2;refine wrt 14 (by kernel_rfl) (by kernel_rfl) ?_;simp only [tK1, tK0, dP1, dP0];repeat (first | (refine zA0 (Eq.refl false) ?_; simp only [Act.put, sT2, sT1, sT0]) | (refine rWalk_step (fun K hK => ?_); go_simp; first | (refine hK _ ?_; clear hK K) | (apply Exists.intro; refine ⟨fun _ => ?_, hK _ ?_⟩; (first | with_reducible exact toExt cc _); clear hK K)))
      refine rWalk_nil ?_;intro w2 hb;have hw2 := (upB hw1 hb);have e2 : wrap64 (((j + 1 : Nat) : Int) - 1) = j := by rw [w64]; omega
      go_wp2;try rw [← ea1]
      try rw [← ea]
      go_roundw
      case rel => exact ⟨j, by go_num, by omega, HH, hw2⟩
      case measure => simp [intOf]
     ·have hd : decide (0 < cmpP (M[j]'(by omega)) x) = false := by simpa using hc
      by_cases hx : M[j]'hjM = x
      ·skip
       have hp : peqI (M[j]'hjM).x (M[j]'hjM).y x.x x.y = true := zBk.2 hx;have HMB := Lib.hid (show ∀ p, p ∈ M ↔ p ∈ L.take (k + 1) by
        intro p;rw [hT.out, List.mem_append, ← hM.out p];constructor
        ·exact .inl
        ·rintro (h | h)
         ·exact h
         ·simp at h; subst h; rw [← hx]; exact List.getElem_mem hjM)
       clear hc hx hhi;generalize cmpP (M[j]'hjM) x = q at *
       obtain ⟨t0, t1⟩ := hA1.cells;obtain ⟨s0, s1⟩ := hB.cells;go_wp2;refine wrt 14 (by kernel_rfl) (by kernel_rfl) ?_;simp only [tK1, tK0, dP1, dP0];repeat (first | (refine zA0 (Eq.refl false) ?_; simp only [Act.put, sT2, sT1, sT0]) | (refine rWalk_step (fun K hK => ?_); go_simp; first | (refine hK _ ?_; clear hK K) | (apply Exists.intro; refine ⟨fun _ => ?_, hK _ ?_⟩; (first | with_reducible exact toExt cc _); clear hK K)))
       refine rWalk_nil ?_;intro w2 hb;have hw2 := (upB hw1 hb);clear t0 t1 s0 s1 hd;obtain ⟨t0, t1⟩ := (hA1.ee hb).cells;obtain ⟨s0, s1⟩ := (hB.ee hb).cells;go_wp2;refine wrt 13 (by kernel_rfl) (by kernel_rfl) ?_;simp only [tK1, tK0, dP1, dP0];repeat (first | (refine zA0 (Eq.refl false) ?_; simp only [Act.put, sT2, sT1, sT0]) | (refine rWalk_step (fun K hK => ?_); go_simp; refine hK _ ?_; clear hK K))
       refine rWalk_nil ?_;intro w3 hb3;have hw3 := (upB hw2 hb3);have own3 := hown.kept (zA7 hw3 none) (by cases a1 <;> simp [Value.ownBlock]);have hw3w := (upB hw hw3);clear t0 t1 s0 s1 hp cc hb3 hw1 hw2;go_wp2;try rw [← ea1]
       try rw [← ea]
       go_roundw
       case rel => exact ⟨k + 1, M, by go_num, by omega, hR, HMB, by omega, own3, hw3w⟩
       case measure => simp [intOf]; omega
      ·have hlt1 : cmpP (M[j]'hjM) x < 0 := by have := zCj (p := M[j]'hjM) (q := x); have : cmpP (M[j]'hjM) x ≠ 0 := fun e => hx (this.1 e); omega
       have hAT : j + 1 ≤ M.length := hjM;have hlo : ∀ (i : Nat) (hi : i < j + 1), cmpP (M[i]'(by omega)) x < 0 := rising_below wholeP hR.out hjM hlt1;have hhi2 := fun i h1 h2 => hhi.out i h1 h2;have hp : peqI (M[j]'hjM).x (M[j]'hjM).y x.x x.y = false := by rw [← Bool.not_eq_true, zBk]; exact hx
       clear hc hx hlt1 hhi;generalize cmpP (M[j]'hjM) x = q at *
       obtain ⟨t0, t1⟩ := hA1.cells;obtain ⟨s0, s1⟩ := hB.cells;go_wp2;refine wrt 14 (by kernel_rfl) (by kernel_rfl) ?_;simp only [tK1, tK0, dP1, dP0];repeat (first | (refine zA0 (Eq.refl false) ?_; simp only [Act.put, sT2, sT1, sT0]) | (refine rWalk_step (fun K hK => ?_); go_simp; first | (refine hK _ ?_; clear hK K) | (apply Exists.intro; refine ⟨fun _ => ?_, hK _ ?_⟩; (first | with_reducible exact toExt cc _); clear hK K)))
       refine rWalk_nil ?_;intro w2 hb;have hw2 := (upB hw1 hb);clear t0 t1 s0 s1 hd;obtain ⟨t0, t1⟩ := (hA1.ee hb).cells;obtain ⟨s0, s1⟩ := (hB.ee hb).cells;go_wp2;refine wrt 13 (by kernel_rfl) (by kernel_rfl) ?_;simp only [tK1, tK0, dP1, dP0];repeat (first | (refine zA0 (Eq.refl false) ?_; simp only [Act.put, sT2, sT1, sT0]) | (refine rWalk_step (fun K hK => ?_); go_simp; refine hK _ ?_; clear hK K))
       refine rWalk_nil ?_;intro w3 hb3;have hw3 := (upB hw2 hb3);clear t0 t1 s0 s1 hp cc;have HI := Lib.hid (zEi wholeP hR.out (x := x) (k := (j + 1)) hAT hlo hhi2);obtain ⟨z1, t0, t1⟩ := (hA.ee hw3).f;have own3 := hown.kept (zA7 hw3 none) (by cases a1 <;> simp [Value.ownBlock]);rw [ea1] at own3;have HB := Lib.hid (Nat.le_trans hw.size hw3.size);have hMn : M.length ≤ 1000000 := by omega
       have hw3w := (upB hw hw3);have hlt0 := fun q hq => (own3.lt q hq).1;clear hlo hhi2;go_wp2_with (at_builtin; refine zJ1 rfl _ _ rfl w.heap.size M.length _ (M.flatMap cP) rfl (own3.alloc _) w3.heap.size x rfl (Box.new rfl) hMn (by have := HB.out; simp; omega) ?_; intro w4 g cap tl hg0 hbx hcp1 hcp2 htl hg4)
       have hw4 := (hw3w.alloc HB.out (.cells #[.int .i64 x.x, .int .i64 x.y] 30)).grown hg4 (by have := HB.out; simp; omega) hlt0;have hbx2 : Box w4 g ((M ++ [x]).flatMap cP ++ tl) 30 := by simpa [cP] using hbx
       clear z1 t0 t1 own3 hg4 hlt0 hbx
       go_loopw [6] (fun vk wr => ∃ (q : Nat) (S : List Pt), vk = .int .i64 q ∧ (j + 1) ≤ q ∧ q ≤ M.length ∧ Hid (Moved M S q) ∧ Box wr g (S.flatMap cP ++ tl) 30 ∧ Below w.heap.size w wr) (fun vk _ => (intOf vk).toNat)
       case atStart => exact ⟨M.length, M ++ [x], by first | rfl | go_num, hAT, Nat.le_refl _, Lib.hid (zG7 M x), hbx2, hw4⟩
       case round =>
        clear hbx2 hw4;obtain ⟨q, S, rfl, hq1, hq2, hS, hbS, hwS⟩ := hrel;have hSl := hS.out.len;by_cases hq : (j + 1) < q
        ·rcases q with _ | q
         ·omega
         ·have hqM : q < M.length := hq2;obtain ⟨u0, u1, _, _⟩ := zD0 hbS (j := q) (by omega);obtain ⟨y0, y1, v0, v1, f0, f1⟩ : ∃ y0 y1, wr.cell? ⟨g, (q + 1) * 2, none⟩ = some y0 ∧ wr.cell? ⟨g, (q + 1) * 2 + 1, none⟩ = some y1 ∧ wr.frozen? ⟨g, (q + 1) * 2, none⟩ = false ∧ wr.frozen? ⟨g, (q + 1) * 2 + 1, none⟩ = false := ⟨_, _, zD0 hbS (j := q + 1) (by omega)⟩;have eg : S[q] = M[q] := hS.out.get hqM;have hHS := Lib.hid (hS.out.step hqM);have hbS2 := zHr hbS (j := q + 1) (by omega) (M[q]'hqM);rw [eg] at u0 u1;have n5 : q < M.length + 1 := by omega
          have n6 : q + 1 < M.length + 1 := by omega
          have HBS := Lib.hid hbS2;have HW := Lib.hid hwS;clear eg hbS2 hwS hS;clear hbS hSl;go_wp2;exact ⟨⟨q, S.set (q + 1) (M[q]'hqM), rfl, by omega, by omega, hHS, HBS.out, (HW.out.setCell hg0 _).setCell hg0 _⟩, by simp [intOf]⟩
        ·obtain rfl : q = (j + 1) := by omega
         obtain ⟨y0, y1, v0, v1, f0, f1⟩ : ∃ y0 y1, wr.cell? ⟨g, (j + 1) * 2, none⟩ = some y0 ∧ wr.cell? ⟨g, (j + 1) * 2 + 1, none⟩ = some y1 ∧ wr.frozen? ⟨g, (j + 1) * 2, none⟩ = false ∧ wr.frozen? ⟨g, (j + 1) * 2 + 1, none⟩ = false := ⟨_, _, zD0 hbS (j := (j + 1)) (by omega)⟩;have hbS2 := zHr hbS (j := (j + 1)) (by omega) x;rw [hS.out.done hAT x] at hbS2;have HBS := Lib.hid hbS2;have HW := Lib.hid ((hwS.setCell (p := ⟨g, (j + 1) * 2, none⟩) hg0 (.int .i64 x.x)).setCell (p := ⟨g, (j + 1) * 2 + 1, none⟩) hg0 (.int .i64 x.y));obtain ⟨z1, t0, t1⟩ := (hA0.ee hwS).f;have n8 : (j + 1) < M.length + 1 := by omega
         have HLn := Lib.hid (show (M.take (j + 1) ++ x :: M.drop (j + 1)).length = M.length + 1 by rw [List.length_append, List.length_cons, List.length_take, List.length_drop]; omega);have HMB := Lib.hid (show ∀ p, p ∈ M.take (j + 1) ++ x :: M.drop (j + 1) ↔ p ∈ L.take (k + 1) by intro p; rw [HI.out.2 p, hM.out p, hT.out]; simp);clear hbS2 hwS hbS hS hSl hq;go_wp2;try rw [← ea]
         go_roundw
         case rel => exact ⟨k + 1, M.take (j + 1) ++ x :: M.drop (j + 1), by go_num, by omega, Lib.hid HI.out.1, HMB, by rw [HLn.out]; omega, by rw [HLn.out]; exact zG4 HBS.out hg0 (by rw [zB4 zCz, HLn.out]) hcp1 hcp2 htl, HW.out⟩
         case measure => simp [intOf]; omega
end Go.Proofs.YtjkfakaehjmnbaaGreat
