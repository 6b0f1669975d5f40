/- Put together: GeoB, GeoC, TrN, TrR, SortQ, MesM, MesN, Cpt, MesO, MesP, MesQ. -/
import Derived.Test.YtmobnmjjmafibaaGreatRows
import Derived.Test.YtmobnmjjmafibaaGreatPum11
import Derived.Test.YtmobnmjjmafibaaGreatPum8
import Derived.Test.YtmobnmjjmafibaaGreatPum0
import Derived.WalkKit
import Derived.WalkSpells
import Derived.WalkLawsBesides
import Derived.Laws.Externs
import Derived.Deep.QuietTactic
import Derived.BigQuiet
import Derived.Lib.Hide
import Derived.Handy
import Derived.LoopN
import Derived.OwnWalk
import Derived.Laws.AppendOwn
import Derived.Test.YtmobnmjjmafibaaGreatPum5
import Derived.Test.YtmobnmjjmafibaaGreatPum9
import Derived.Test.YtmobnmjjmafibaaGreatPum10
import Derived.RegionTactic
import Derived.Deep.RegionHeld3
import Derived.Deep.AppendLies
import Derived.Lib.SliceRun
import Derived.Maps.RangeWalk
import Derived.Maps.OwnSet
set_option maxRecDepth 100000
set_option maxHeartbeats 8000000
namespace Go.Proofs.YtmobnmjjmafibaaGreat
open Go.RowKit
theorem crd_zero_edge {a b d e p : Pt} (hde : d ≠ e) (h2 : det d e p = 0) (hk : crd a b ⟨e.x - d.x, e.y - d.y⟩ = 0) (h1 : det a b p = 0) : det a b d = 0 ∧ det a b e = 0 := by
 have e1 : det a b e = det a b d + crd a b ⟨e.x - d.x, e.y - d.y⟩ := by unfold det crd; grind
 have e2 : det a b d * (e.x - d.x) - crd a b ⟨e.x - d.x, e.y - d.y⟩ * (d.x - p.x) + (b.x - a.x) * det d e p = det a b p * (e.x - d.x) := by unfold det crd; grind
 have e3 : det a b d * (e.y - d.y) - crd a b ⟨e.x - d.x, e.y - d.y⟩ * (d.y - p.y) + (b.y - a.y) * det d e p = det a b p * (e.y - d.y) := by unfold det crd; grind
 rw [h1, h2, hk] at e2 e3
 simp only [Int.zero_mul, Int.mul_zero, Int.add_zero, Int.sub_zero] at e2 e3
 have z : det a b d = 0 := by
  rcases Int.mul_eq_zero.1 e2 with k | k
  ·exact k
  ·rcases Int.mul_eq_zero.1 e3 with k' | k'
   ·exact k'
   ·exact absurd (Pt.eq_iff.2 ⟨by omega, by omega⟩) hde
 exact ⟨z, by omega⟩
theorem zJc {W H : Int} {a b c d e f p : Pt} (hr : onRim W H a b) (hab : 0 < det a b c) (hc : inBox W H c) (hf : inBox W H f) (hde : 0 < det d e f) (h1 : det a b p = 0) (h2 : det d e p = 0) (hk : crd a b ⟨e.x - d.x, e.y - d.y⟩ = 0) (hd : (b.x - a.x) * (e.x - d.x) + (b.y - a.y) * (e.y - d.y) ≤ 0) : False := by
 obtain ⟨z1, z2⟩ := crd_zero_edge (zEa hde) h2 hk h1
 unfold inBox at hc hf
 have nde := zEa hde
 unfold det at hab hde z1 z2
 clear h1 h2 hk
 rcases hr with ⟨r1, r2⟩ | ⟨r1, r2⟩ | ⟨r1, r2⟩ | ⟨r1, r2⟩
 all_goals (rw [r1, r2] at hab z1 z2 hd; simp only [Int.sub_self, Int.zero_mul, Int.zero_sub, Int.zero_add] at hab z1 z2 hd)
 ·have ya : b.y - a.y ≠ 0 := fun e => by rw [e] at hab; simp at hab
  have xd : d.x = 0 := by
   rcases Int.mul_eq_zero.1 (Int.neg_eq_zero.1 z1) with k | k <;> omega
  have xe : e.x = 0 := by
   rcases Int.mul_eq_zero.1 (Int.neg_eq_zero.1 z2) with k | k <;> omega
  rw [xd, xe] at hde
  simp only [Int.sub_self, Int.zero_mul, Int.zero_sub, Int.sub_zero] at hde hab
  have n1 : b.y - a.y < 0 := by
   refine Decidable.byContradiction fun k => ?_
   have := Int.mul_nonneg (a := b.y - a.y) (b := c.x) (by omega) (by omega)
   omega
  have n2 : e.y - d.y < 0 := by
   refine Decidable.byContradiction fun k => ?_
   have := Int.mul_nonneg (a := e.y - d.y) (b := f.x) (by omega) (by omega)
   omega
  have := Int.mul_pos_of_neg_of_neg n1 n2
  omega
 ·have ya : b.y - a.y ≠ 0 := fun e => by rw [e] at hab; simp at hab
  have xd : d.x = W := by
   rcases Int.mul_eq_zero.1 (Int.neg_eq_zero.1 z1) with k | k <;> omega
  have xe : e.x = W := by
   rcases Int.mul_eq_zero.1 (Int.neg_eq_zero.1 z2) with k | k <;> omega
  rw [xd, xe] at hde
  simp only [Int.sub_self, Int.zero_mul, Int.zero_sub] at hde hab
  have n1 : 0 < b.y - a.y := by
   refine Decidable.byContradiction fun k => ?_
   have := Int.mul_nonneg_of_nonpos_of_nonpos (a := b.y - a.y) (b := c.x - W) (by omega) (by omega)
   omega
  have n2 : 0 < e.y - d.y := by
   refine Decidable.byContradiction fun k => ?_
   have := Int.mul_nonneg_of_nonpos_of_nonpos (a := e.y - d.y) (b := f.x - W) (by omega) (by omega)
   omega
  have := Int.mul_pos n1 n2
  omega
 ·simp only [Int.sub_zero, Int.add_zero] at hab z1 z2 hd
  have ya : b.x - a.x ≠ 0 := fun e => by rw [e] at hab; simp at hab
  have xd : d.y = 0 := by
   rcases Int.mul_eq_zero.1 z1 with k | k <;> omega
  have xe : e.y = 0 := by
   rcases Int.mul_eq_zero.1 z2 with k | k <;> omega
  rw [xd, xe] at hde
  simp only [Int.sub_self, Int.zero_mul, Int.sub_zero] at hde
  have n1 : 0 < b.x - a.x := by
   refine Decidable.byContradiction fun k => ?_
   have := Int.mul_nonneg (a := -(b.x - a.x)) (b := c.y) (by omega) (by omega)
   rw [Int.neg_mul] at this; omega
  have n2 : 0 < e.x - d.x := by
   refine Decidable.byContradiction fun k => ?_
   have := Int.mul_nonneg (a := -(e.x - d.x)) (b := f.y) (by omega) (by omega)
   rw [Int.neg_mul] at this; omega
  have := Int.mul_pos n1 n2
  omega
 ·simp only [Int.sub_zero, Int.add_zero] at hab z1 z2 hd
  have ya : b.x - a.x ≠ 0 := fun e => by rw [e] at hab; simp at hab
  have xd : d.y = H := by
   rcases Int.mul_eq_zero.1 z1 with k | k <;> omega
  have xe : e.y = H := by
   rcases Int.mul_eq_zero.1 z2 with k | k <;> omega
  rw [xd, xe] at hde
  simp only [Int.sub_self, Int.zero_mul, Int.sub_zero] at hde
  have n1 : b.x - a.x < 0 := by
   refine Decidable.byContradiction fun k => ?_
   have := Int.mul_nonneg (a := b.x - a.x) (b := H - c.y) (by omega) (by omega)
   have e : (b.x - a.x) * (H - c.y) = - ((b.x - a.x) * (c.y - H)) := by grind
   omega
  have n2 : e.x - d.x < 0 := by
   refine Decidable.byContradiction fun k => ?_
   have := Int.mul_nonneg (a := e.x - d.x) (b := H - f.y) (by omega) (by omega)
   have e : (e.x - d.x) * (H - f.y) = - ((e.x - d.x) * (f.y - H)) := by grind
   omega
  have := Int.mul_pos_of_neg_of_neg n1 n2
  omega
section
variable {W H : Int} {L : List Tri3} (h : Tiles W H L)
include h
omit h in
theorem zEm {T : Tri3} {a b : Pt} (hT : T ∈ L) (hw : (a, b) ∈ ways T) : (a, b) ∈ L.flatMap ways := List.mem_flatMap.2 ⟨T, hT, hw⟩
theorem Tiles.cyc_pos {T : Tri3} {a b c : Pt} (hT : T ∈ L) (hc : Cyc T a b c) : 0 < det a b c := by rw [hc.det]; exact h.pos T hT
theorem Tiles.cyc_box {T : Tri3} {a b c : Pt} (hT : T ∈ L) (hc : Cyc T a b c) : inBox W H a := by
 have := h.box T hT
 rcases hc with ⟨rfl, _⟩ | ⟨rfl, _⟩ | ⟨rfl, _⟩
 ·exact this.1
 ·exact this.2.1
 ·exact this.2.2
theorem Tiles.edg_two {S T : Tri3} (hS : S ∈ L) (hT : T ∈ L) {a b c p : Pt} (hc : Cyc S a b c) (hp : edg a b c p) (hh : hasT T p) (hn : ¬ isCnr T p) : T = S ∨ ((b, a) ∈ ways T ∧ ¬ onRim W H a b) := by
 have pS := h.cyc_pos hS hc
 rcases zFu (h.pos T hT) hh with k | k | ⟨d, e, f, hd, k⟩
 ·exact absurd k hn
 ·obtain ⟨q1, q2, q3⟩ := hp
  have hv : hasT S p := by
   unfold hasT
   rcases hc with ⟨rfl, rfl, rfl⟩ | ⟨rfl, rfl, rfl⟩ | ⟨rfl, rfl, rfl⟩ <;> omega
  exact .inl (h.ins_one hT hS k hv)
 ·have pT := h.cyc_pos hT hd
  by_cases hg : crd a b ⟨e.x - d.x, e.y - d.y⟩ = 0 ∧ (b.x - a.x) * (e.x - d.x) + (b.y - a.y) * (e.y - d.y) ≤ 0
  ·rcases h.rim (a, b) (zEm hS hc.way) with hr | hr
   ·obtain ⟨U, hU, hw⟩ := List.mem_flatMap.1 hr
    obtain ⟨x, hx⟩ := zD7 hw
    have pU := h.cyc_pos hU hx
    have hpU := zCp pS pU hp
    have hg' : ¬ (crd b a ⟨e.x - d.x, e.y - d.y⟩ = 0 ∧ (a.x - b.x) * (e.x - d.x) + (a.y - b.y) * (e.y - d.y) ≤ 0) := by
     intro ⟨g1, g2⟩
     have e1 : (a.x - b.x) * (e.x - d.x) + (a.y - b.y) * (e.y - d.y) = - ((b.x - a.x) * (e.x - d.x) + (b.y - a.y) * (e.y - d.y)) := by grind
     have z0 : (b.x - a.x) * (e.x - d.x) + (b.y - a.y) * (e.y - d.y) = 0 := by omega
     have g0 := hg.1
     have i1 : ((b.x - a.x) * (b.x - a.x) + (b.y - a.y) * (b.y - a.y)) * (e.x - d.x) = (b.x - a.x) * ((b.x - a.x) * (e.x - d.x) + (b.y - a.y) * (e.y - d.y)) - (b.y - a.y) * crd a b ⟨e.x - d.x, e.y - d.y⟩ := by unfold crd; grind
     have i2 : ((b.x - a.x) * (b.x - a.x) + (b.y - a.y) * (b.y - a.y)) * (e.y - d.y) = (b.y - a.y) * ((b.x - a.x) * (e.x - d.x) + (b.y - a.y) * (e.y - d.y)) + (b.x - a.x) * crd a b ⟨e.x - d.x, e.y - d.y⟩ := by unfold crd; grind
     rw [z0, g0] at i1 i2
     simp only [Int.mul_zero, Int.sub_zero, Int.add_zero] at i1 i2
     have s1 := sq_nn (b.x - a.x)
     have s2 := sq_nn (b.y - a.y)
     have hab := zEa pS
     have nz : ¬ (b.x - a.x) * (b.x - a.x) + (b.y - a.y) * (b.y - a.y) = 0 := by
      intro z
      apply hab
      rw [Pt.eq_iff]
      have u1 := Int.mul_eq_zero.1 (show (b.x - a.x) * (b.x - a.x) = 0 by omega)
      have u2 := Int.mul_eq_zero.1 (show (b.y - a.y) * (b.y - a.y) = 0 by omega)
      omega
     have u1 := (Int.mul_eq_zero.1 i1).resolve_left nz
     have u2 := (Int.mul_eq_zero.1 i2).resolve_left nz
     exact zEa pT (Pt.eq_iff.2 ⟨by omega, by omega⟩)
    obtain ⟨v, v1, v2⟩ := zF1 (zEa pS).symm hg'
    have hUT := h.same hU hT (M := 1) (by omega) (hx.near (zDw hpU v1)) (hd.near (zDw k v2))
    by_cases hr' : onRim W H a b
    ·exact (zJc hr' pS (h.cyc_box hS hc.turn.turn) (h.cyc_box hT hd.turn.turn) pT hp.1 k.1 hg.1 hg.2).elim
    ·exact .inr ⟨hUT ▸ hw, hr'⟩
   ·exact (zJc hr pS (h.cyc_box hS hc.turn.turn) (h.cyc_box hT hd.turn.turn) pT hp.1 k.1 hg.1 hg.2).elim
  ·obtain ⟨v, v1, v2⟩ := zF1 (zEa pS) hg
   exact .inl (h.same hS hT (M := 1) (by omega) (hc.near (zDw hp v1)) (hd.near (zDw k v2))).symm
end
theorem flat_one {L : List Tri3} (h : (L.flatMap ways).Nodup) {S T : Tri3} (hS : S ∈ L) (hT : T ∈ L) {w : Pt × Pt} (h1 : w ∈ ways S) (h2 : w ∈ ways T) : S = T := by
 refine Decidable.byContradiction fun hne => ?_
 obtain ⟨M, hM⟩ := zFg hS hT hne
 have h' := (zAq hM).nodup_iff.1 h
 rw [List.flatMap_cons, List.flatMap_cons, List.nodup_append] at h'
 exact h'.2.2 w h1 w (List.mem_append_left _ h2) rfl
theorem zGy {p x y : Pt} (hp : 0 < det p x y) {s t : Int} (hs : 0 < s) (ht : 0 < t) : near3 1 p x y p ⟨s * (x.x - p.x) + t * (y.x - p.x), s * (x.y - p.y) + t * (y.y - p.y)⟩ := by
 unfold near3
 simp only [zI0]
 refine ⟨.inr ⟨by unfold det; grind, ?_⟩, .inl (by rw [zAj]; exact hp), .inr ⟨by unfold det; grind, ?_⟩⟩
 ·have e : crd p x ⟨s * (x.x - p.x) + t * (y.x - p.x), s * (x.y - p.y) + t * (y.y - p.y)⟩ = t * det p x y := by unfold crd det; grind
  rw [e]; exact Int.mul_pos ht hp
 ·have e : crd y p ⟨s * (x.x - p.x) + t * (y.x - p.x), s * (x.y - p.y) + t * (y.y - p.y)⟩ = s * det p x y := by unfold crd det; grind
  rw [e]; exact Int.mul_pos hs hp
theorem zG3 (a b p x y : Pt) (s t : Int) : crd a b ⟨s * (x.x - p.x) + t * (y.x - p.x), s * (x.y - p.y) + t * (y.y - p.y)⟩ = s * crd a b ⟨x.x - p.x, x.y - p.y⟩ + t * crd a b ⟨y.x - p.x, y.y - p.y⟩ := by unfold crd; grind
theorem zIa {W H : Int} {a b c p x : Pt} (hr : onRim W H a b) (hab : 0 < det a b c) (hc : inBox W H c) (hx : inBox W H x) (h1 : det a b p = 0) (hl : crd a b ⟨x.x - p.x, x.y - p.y⟩ ≤ 0) : crd a b ⟨x.x - p.x, x.y - p.y⟩ = 0 := by
 have e : det a b x = det a b p + crd a b ⟨x.x - p.x, x.y - p.y⟩ := by unfold det crd; grind
 have k : 0 ≤ det a b x := by
  unfold inBox at hc hx
  clear e h1 hl
  unfold det at hab ⊢
  rcases hr with ⟨r1, r2⟩ | ⟨r1, r2⟩ | ⟨r1, r2⟩ | ⟨r1, r2⟩
  all_goals (rw [r1, r2] at hab ⊢; simp only [Int.sub_self, Int.zero_mul, Int.zero_sub, Int.sub_zero] at hab ⊢)
  ·have n1 : b.y - a.y < 0 := by
      refine Decidable.byContradiction fun k => ?_
      have := Int.mul_nonneg (a := b.y - a.y) (b := c.x) (by omega) (by omega)
      omega
   have := Int.mul_nonneg (a := -(b.y - a.y)) (b := x.x) (by omega) (by omega)
   rw [Int.neg_mul] at this; exact this
  ·have n1 : 0 < b.y - a.y := by
      refine Decidable.byContradiction fun k => ?_
      have := Int.mul_nonneg_of_nonpos_of_nonpos (a := b.y - a.y) (b := c.x - W) (by omega) (by omega)
      omega
   have := Int.mul_nonneg (a := b.y - a.y) (b := W - x.x) (by omega) (by omega)
   have e : (b.y - a.y) * (W - x.x) = - ((b.y - a.y) * (x.x - W)) := by grind
   omega
  ·have n1 : 0 < b.x - a.x := by
      refine Decidable.byContradiction fun k => ?_
      have := Int.mul_nonneg (a := -(b.x - a.x)) (b := c.y) (by omega) (by omega)
      rw [Int.neg_mul] at this; omega
   exact Int.mul_nonneg (by omega) (by omega)
  ·have n1 : b.x - a.x < 0 := by
      refine Decidable.byContradiction fun k => ?_
      have := Int.mul_nonneg (a := b.x - a.x) (b := H - c.y) (by omega) (by omega)
      have e : (b.x - a.x) * (H - c.y) = - ((b.x - a.x) * (c.y - H)) := by grind
      omega
   have := Int.mul_nonneg_of_nonpos_of_nonpos (a := b.x - a.x) (b := x.y - H) (by omega) (by omega)
   exact this
 omega
theorem zIg {a b p x y : Pt} (hab : a ≠ b) (hp : 0 < det p x y) (h1 : crd a b ⟨x.x - p.x, x.y - p.y⟩ = 0) (h2 : crd a b ⟨y.x - p.x, y.y - p.y⟩ = 0) : False := by
 have i1 : (b.x - a.x) * det p x y = (x.x - p.x) * crd a b ⟨y.x - p.x, y.y - p.y⟩ - (y.x - p.x) * crd a b ⟨x.x - p.x, x.y - p.y⟩ := by unfold crd det; grind
 have i2 : (b.y - a.y) * det p x y = (x.y - p.y) * crd a b ⟨y.x - p.x, y.y - p.y⟩ - (y.y - p.y) * crd a b ⟨x.x - p.x, x.y - p.y⟩ := by unfold crd det; grind
 rw [h1, h2] at i1 i2
 simp only [Int.mul_zero, Int.sub_zero] at i1 i2
 have u1 := Int.mul_eq_zero.1 i1
 have u2 := Int.mul_eq_zero.1 i2
 exact hab (Pt.eq_iff.2 ⟨by omega, by omega⟩)
section
variable {W H : Int} {L : List Tri3} (h : Tiles W H L)
include h
theorem Tiles.cnr_all {S T : Tri3} (hS : S ∈ L) (hT : T ∈ L) {p : Pt} (hp : isCnr S p) (hh : hasT T p) : isCnr T p := by
 obtain ⟨x, y, hc⟩ := zJm hp
 have pS := h.cyc_pos hS hc
 rcases zFu (h.pos T hT) hh with k | k | ⟨a, b, c, hd, k⟩
 ·exact k
 ·have e := h.ins_one hT hS k (zJl (h.pos S hS) hp).1
  rw [e] at k
  exact absurd k (zJl (h.pos S hS) hp).2
 ·exfalso
  have pT := h.cyc_pos hT hd
  have nT : ¬ isCnr T p := fun g => by
   obtain ⟨n1, n2, n3⟩ := zHs pT k
   rcases (hd.cnr_iff p).1 g with g | g | g
   ·exact n1 g
   ·exact n2 g
   ·exact n3 g
  have go : ∀ s t : Int, 0 < s → 0 < t → 0 < s * crd a b ⟨x.x - p.x, x.y - p.y⟩ + t * crd a b ⟨y.x - p.x, y.y - p.y⟩ → False := by
   intro s t hs ht hv
   have e := h.same hS hT (M := 1) (by omega) (hc.near (zGy pS hs ht)) (hd.near (zDw k (by rw [zG3]; exact hv)))
   exact nT (e ▸ hp)
  generalize e1 : crd a b ⟨x.x - p.x, x.y - p.y⟩ = u at go
  generalize e2 : crd a b ⟨y.x - p.x, y.y - p.y⟩ = v at go
  by_cases hu : 0 < u
  ·refine go (1 + v.natAbs) 1 (by omega) (by omega) ?_
   have := Int.mul_nonneg (a := (v.natAbs : Int)) (b := u - 1) (by omega) (by omega)
   rw [Int.mul_sub] at this
   rw [Int.add_mul]; omega
  by_cases hv : 0 < v
  ·refine go 1 (1 + u.natAbs) (by omega) (by omega) ?_
   have := Int.mul_nonneg (a := (u.natAbs : Int)) (b := v - 1) (by omega) (by omega)
   rw [Int.mul_sub] at this
   rw [Int.add_mul]; omega
  rcases h.rim (a, b) (zEm hT hd.way) with hr | hr
  ·obtain ⟨U, hU, hw⟩ := List.mem_flatMap.1 hr
   obtain ⟨z, hz⟩ := zD7 hw
   have pU := h.cyc_pos hU hz
   have kU := zCp pT pU k
   have f1 : crd b a ⟨x.x - p.x, x.y - p.y⟩ = -u := by rw [← e1]; unfold crd; grind
   have f2 : crd b a ⟨y.x - p.x, y.y - p.y⟩ = -v := by rw [← e2]; unfold crd; grind
   have nz : ¬ (u = 0 ∧ v = 0) := fun ⟨z1, z2⟩ => zIg (zEa pT) pS (e1.trans z1) (e2.trans z2)
   have e := h.same hS hU (M := 1) (by omega) (hc.near (zGy pS (s := 1) (t := 1) (by omega) (by omega))) (hz.near (zDw kU (by rw [zG3, f1, f2]; omega)))
   have nU : ¬ isCnr U p := fun g => by
    obtain ⟨n1, n2, n3⟩ := zHs pU kU
    rcases (hz.cnr_iff p).1 g with g | g | g
    ·exact n1 g
    ·exact n2 g
    ·exact n3 g
   exact nU (e ▸ hp)
  ·have hr : onRim W H a b := hr
   have z1 := zIa hr pT (h.cyc_box hT hd.turn.turn) (h.cyc_box hS hc.turn) k.1 (by omega)
   have z2 := zIa hr pT (h.cyc_box hT hd.turn.turn) (h.cyc_box hS hc.turn.turn) k.1 (by omega)
   exact zIg (zEa pT) pS z1 z2
end
def hasM (M : Int) (T : Tri3) (p : Pt) : Prop := 0 ≤ det (sc M T.A) (sc M T.B) p ∧ 0 ≤ det (sc M T.B) (sc M T.C) p ∧ 0 ≤ det (sc M T.C) (sc M T.A) p
theorem hasM_one (T : Tri3) (p : Pt) : hasM 1 T p ↔ hasT T p := by unfold hasM hasT; simp only [zI0]
def bigs (M : Int) (v : Pt) : List Tri3 → Int
 | [] => 0
 | T :: L => big M T v + bigs M v L
theorem zJn (M : Int) (v : Pt) : ∀ {L : List Tri3} {T : Tri3}, T ∈ L → big M T v ≤ bigs M v L
 | S :: L, T, h => by
  have p : ∀ l : List Tri3, 0 ≤ bigs M v l := fun l => by
   induction l with
   | nil => exact Int.le_refl 0
   | cons U l ih => unfold bigs big; omega
  unfold bigs
  rcases List.mem_cons.1 h with rfl | h
  ·have := p L; omega
  ·have := zJn M v h
   unfold big at *; omega
theorem zI7 {M K d c : Int} (hK : 0 < K) (hb : (M * c).natAbs < K) (h : 0 ≤ K * (K * d + M * c)) : 0 ≤ d := by
 have h1 := (zB7 hK).1 h
 refine Decidable.byContradiction fun hd => ?_
 have := Int.mul_nonneg (a := K) (b := -1 - d) (by omega) (by omega)
 have e : K * (-1 - d) = -K - K * d := by grind
 omega
theorem Tiles.covM {W H : Int} {L : List Tri3} (h : Tiles W H L) (hW : 0 < W) (hH : 0 < H) {M : Int} (hM : 0 < M) {p : Pt} (hp : inBox (M * W) (M * H) p) : ∃ T ∈ L, hasM M T p := by
 have mW := Int.mul_pos hM hW
 have mH := Int.mul_pos hM hH
 let v : Pt := ⟨M * W - 2 * p.x, M * H - 2 * p.y⟩
 let K : Int := 2 + bigs M v L
 have p0 : ∀ l : List Tri3, 0 ≤ bigs M v l := fun l => by
  induction l with
  | nil => exact Int.le_refl 0
  | cons U l ih => unfold bigs big; omega
 have hK2 : 2 ≤ K := by have := p0 L; omega
 have hc := h.cov (K * M) (Int.mul_pos (by omega) hM) ⟨K * p.x + v.x, K * p.y + v.y⟩
 have hs : sqr (K * M * W) (K * M * H) ⟨K * p.x + v.x, K * p.y + v.y⟩ = 1 := by
  unfold sqr
  obtain ⟨⟨h1, h2⟩, h3, h4⟩ := hp
  have i1 : K * p.x + v.x = (K - 2) * p.x + M * W := by show K * p.x + (M * W - 2 * p.x) = _; rw [Int.sub_mul]; omega
  have i2 : K * p.y + v.y = (K - 2) * p.y + M * H := by show K * p.y + (M * H - 2 * p.y) = _; rw [Int.sub_mul]; omega
  have j1 := Int.mul_nonneg (a := K - 2) (b := p.x) (by omega) h1
  have j2 := Int.mul_nonneg (a := K - 2) (b := p.y) (by omega) h3
  have j3 := Int.mul_le_mul_of_nonneg_left (c := K - 2) h2 (by omega)
  have j4 := Int.mul_le_mul_of_nonneg_left (c := K - 2) h4 (by omega)
  have l1 : K * M * W = (K - 2) * (M * W) + 2 * (M * W) := by grind
  have l2 : K * M * H = (K - 2) * (M * H) + 2 * (M * H) := by grind
  rw [if_pos]
  show (0 ≤ K * p.x + v.x ∧ K * p.x + v.x < K * M * W) ∧ 0 ≤ K * p.y + v.y ∧ K * p.y + v.y < K * M * H
  rw [i1, i2, l1, l2]
  omega
 rw [hs] at hc
 obtain ⟨T, hT, h1⟩ := zIv (K := K * M) (Int.mul_pos (by omega) hM) h.pos _ (by rw [hc]; omega)
 rw [zIp] at h1
 have h2 := (zIo (zJr (Int.mul_pos (show 0 < K by omega) hM) (h.pos T hT)) _).2.1 h1
 rw [zDq, zDq, zDq] at h2
 have hb := zJn M v hT
 refine ⟨T, hT, ?_, ?_, ?_⟩
 ·exact zI7 (K := K) (by omega) (by unfold big at hb; omega) h2.1
 ·exact zI7 (K := K) (by omega) (by unfold big at hb; omega) h2.2.1
 ·exact zI7 (K := K) (by omega) (by unfold big at hb; omega) h2.2.2
theorem Tiles.covers {W H : Int} {L : List Tri3} (h : Tiles W H L) (hW : 0 < W) (hH : 0 < H) {p : Pt} (hp : inBox W H p) : ∃ T ∈ L, hasT T p := by
 obtain ⟨T, hT, k⟩ := h.covM hW hH (M := 1) (by omega) (p := p) (by simpa using hp)
 exact ⟨T, hT, (hasM_one T p).1 k⟩
theorem onRim_swap {W H : Int} {a b : Pt} (h : onRim W H a b) : onRim W H b a := by unfold onRim at *; omega
theorem Tiles.change {W H : Int} {L Out In M : List Tri3} (h : Tiles W H L) (hL : L.Perm (Out ++ M)) {rem add keep : List (Pt × Pt)}
    (ho : (Out.flatMap ways).Perm (rem ++ keep)) (hi : (In.flatMap ways).Perm (add ++ keep)) (hn : add.Nodup) (hf : ∀ w ∈ add, w ∉ L.flatMap ways)
    (ha : ∀ w ∈ add, (w.2, w.1) ∈ add ∨ onRim W H w.1 w.2) (hr : ∀ w ∈ rem, (w.2, w.1) ∈ rem ∨ onRim W H w.1 w.2)
    (hc : ∀ K, 0 < K → ∀ q, cvr K add q = cvr K rem q) (hA : sumA In = sumA Out) (hp : ∀ T ∈ In, 0 < det T.A T.B T.C) (hb : ∀ T ∈ In, inBox W H T.A ∧ inBox W H T.B ∧ inBox W H T.C) : Tiles W H (In ++ M) := by
 have h0 := h.perm hL
 have o1 : ((Out ++ M).flatMap ways).Perm (rem ++ (keep ++ M.flatMap ways)) := by
  rw [List.flatMap_append, ← List.append_assoc]; exact ho.append_right _
 have i1 : ((In ++ M).flatMap ways).Perm (add ++ (keep ++ M.flatMap ways)) := by
  rw [List.flatMap_append, ← List.append_assoc]; exact hi.append_right _
 have n1 := o1.nodup_iff.1 h0.once
 rw [List.nodup_append] at n1
 have mem0 : ∀ w, w ∈ L.flatMap ways ↔ w ∈ rem ++ (keep ++ M.flatMap ways) := fun w => by rw [(zAq hL).mem_iff, o1.mem_iff]
 refine ⟨?_, ?_, ?_, ?_, ?_, ?_⟩
 ·intro T hT
  rcases List.mem_append.1 hT with hT | hT
  ·exact hp T hT
  ·exact h0.pos T (List.mem_append_right _ hT)
 ·rw [i1.nodup_iff, List.nodup_append]
  refine ⟨hn, n1.2.1, fun a h1 b h2 e => ?_⟩
  subst e
  exact hf a h1 ((mem0 a).2 (List.mem_append_right _ h2))
 ·intro T hT
  rcases List.mem_append.1 hT with hT | hT
  ·exact hb T hT
  ·exact h0.box T (List.mem_append_right _ hT)
 ·intro w hw
  rw [i1.mem_iff] at hw ⊢
  rcases List.mem_append.1 hw with hw | hw
  ·rcases ha w hw with k | k
   ·exact .inl (List.mem_append_left _ k)
   ·exact .inr k
  ·rcases h.rim w ((mem0 w).2 (List.mem_append_right _ hw)) with k | k
   ·rcases List.mem_append.1 ((mem0 _).1 k) with k | k
    ·rcases hr _ k with g | g
     ·exact absurd rfl (n1.2.2 w g w hw)
     ·exact .inr (onRim_swap g)
    ·exact .inl (List.mem_append_right _ k)
   ·exact .inr k
 ·intro K hK q
  have e0 := h0.cov K hK q
  rw [zG1 o1, zBz] at e0
  rw [zG1 i1, zBz, hc K hK q]
  exact e0
 ·have e0 := h0.area
  rw [sumA_append] at e0 ⊢
  rw [hA]; exact e0
theorem Cyc.area {T : Tri3} {a b c : Pt} (h : Cyc T a b c) (L : List Tri3) : sumA (T :: L) = Go.Proofs.YtmobnmjjmafibaaGreat.det a b c + sumA L := by rw [h.det]; rfl
theorem Cyc.box {W H : Int} {T : Tri3} {a b c : Pt} (h : Cyc T a b c) (ha : inBox W H a) (hb : inBox W H b) (hc : inBox W H c) : inBox W H T.A ∧ inBox W H T.B ∧ inBox W H T.C := by
 rcases h with ⟨rfl, rfl, rfl⟩ | ⟨rfl, rfl, rfl⟩ | ⟨rfl, rfl, rfl⟩
 ·exact ⟨ha, hb, hc⟩
 ·exact ⟨hc, ha, hb⟩
 ·exact ⟨hb, hc, ha⟩
theorem Tiles.no_diag {W H : Int} {L : List Tri3} (h : Tiles W H L) {S : Tri3} (hS : S ∈ L) {a b c d : Pt} (hc : Cyc S a b c) (h1 : 0 < det c a d) (h2 : 0 < det d b c) : (d, c) ∉ L.flatMap ways := by
 intro hm
 obtain ⟨T, hT, hw⟩ := List.mem_flatMap.1 hm
 obtain ⟨e, he⟩ := zD7 hw
 have pS := h.cyc_pos hS hc
 have pT := h.cyc_pos hT he.turn
 have n1 : d ≠ c := by
  rintro rfl
  have : det d a d = 0 := by unfold det; grind
  omega
 have n2 : d ≠ a := by
  rintro rfl
  have : det c d d = 0 := by unfold det; grind
  omega
 have n3 : d ≠ b := by
  rintro rfl
  have : det d d c = 0 := by unfold det; grind
  omega
 generalize e1 : crd c a ⟨e.x - c.x, e.y - c.y⟩ = u
 generalize e2 : crd b c ⟨e.x - c.x, e.y - c.y⟩ = v
 have f1 : crd c a ⟨d.x - c.x, d.y - c.y⟩ = det c a d := by unfold crd det; grind
 have f2 : crd b c ⟨d.x - c.x, d.y - c.y⟩ = det d b c := by unfold crd det; grind
 let t : Int := 1 + u.natAbs + v.natAbs
 have g1 : t ≤ t * det c a d := by
  have := Int.mul_nonneg (a := t) (b := det c a d - 1) (by omega) (by omega)
  rw [Int.mul_sub] at this; omega
 have g2 : t ≤ t * det d b c := by
  have := Int.mul_nonneg (a := t) (b := det d b c - 1) (by omega) (by omega)
  rw [Int.mul_sub] at this; omega
 have nT := he.turn.near (zGy pT (s := 1) (t := t) (by omega) (by omega))
 have nS : near 1 S c ⟨1 * (e.x - c.x) + t * (d.x - c.x), 1 * (e.y - c.y) + t * (d.y - c.y)⟩ := by
  refine hc.turn.turn.near ?_
  unfold near3
  simp only [zI0]
  refine ⟨.inr ⟨by unfold det; grind, ?_⟩, .inl pS, .inr ⟨by unfold det; grind, ?_⟩⟩
  ·rw [zG3, e1, f1]; omega
  ·rw [zG3, e2, f2]; omega
 have hST := h.same hS hT (M := 1) (by omega) nS nT
 have := he.cnr
 rw [← hST, hc.cnr_iff] at this
 rcases this with k | k | k
 ·exact n2 k
 ·exact n3 k
 ·exact n1 k
theorem zFy {α : Type} {a b c d e f : α} : [a, b, c, d, e, f].Perm ([a, d] ++ [b, c, e, f]) := by
 refine List.Perm.cons _ ?_
 exact (List.perm_append_comm (l₁ := [b, c]) (l₂ := [d])).append_right [e, f]
theorem Tiles.flip {W H : Int} {L M : List Tri3} (h : Tiles W H L) {S R U V : Tri3} (hL : L.Perm (S :: R :: M)) {a b c d : Pt} (hS : Cyc S a b c) (hR : Cyc R b a d) (h1 : 0 < det c a d) (h2 : 0 < det d b c) (hU : Cyc U c a d) (hV : Cyc V d b c) : Tiles W H (U :: V :: M) := by
 have mS : S ∈ L := hL.mem_iff.2 (by simp)
 have mR : R ∈ L := hL.mem_iff.2 (by simp)
 have x1 := h.no_diag mS hS h1 h2
 have x2 := h.no_diag mR hR h2 h1
 have n1 : d ≠ c := by
  rintro rfl
  have : det d a d = 0 := by unfold det; grind
  omega
 refine h.change (Out := [S, R]) (In := [U, V]) (M := M) hL (rem := [(a, b), (b, a)]) (add := [(d, c), (c, d)]) (keep := [(b, c), (c, a), (a, d), (d, b)]) ?_ ?_ ?_ ?_ ?_ ?_ ?_ ?_ ?_ ?_
 ·simp only [List.flatMap_cons, List.flatMap_nil, List.append_nil]
  exact (hS.ways.append hR.ways).trans zFy
 ·simp only [List.flatMap_cons, List.flatMap_nil, List.append_nil]
  refine (hU.turn.turn.ways.append hV.turn.turn.ways).trans ?_
  refine zFy.trans ?_
  refine List.Perm.append_left _ ?_
  exact List.perm_append_comm (l₁ := [(c, a), (a, d)]) (l₂ := [(d, b), (b, c)]) |>.trans
   ((List.Perm.swap (b, c) (d, b) [(c, a), (a, d)]).trans (List.Perm.cons _ (List.perm_append_comm (l₁ := [(d, b)]) (l₂ := [(c, a), (a, d)]))))
 ·simp [n1]
 ·intro w hw
  simp only [List.mem_cons, List.not_mem_nil, or_false] at hw
  rcases hw with rfl | rfl
  ·exact x1
  ·exact x2
 ·intro w hw
  simp only [List.mem_cons, List.not_mem_nil, or_false] at hw
  rcases hw with rfl | rfl <;> simp
 ·intro w hw
  simp only [List.mem_cons, List.not_mem_nil, or_false] at hw
  rcases hw with rfl | rfl <;> simp
 ·intro K hK q
  simp only [cvr]
  have e1 := zBi (sc K c) (sc K d) q
  have e2 := zBi (sc K a) (sc K b) q
  omega
 ·rw [hU.area, hV.area, hS.area, hR.area]
  simp only [sumA]
  unfold det; grind
 ·intro T hT
  simp only [List.mem_cons, List.not_mem_nil, or_false] at hT
  rcases hT with rfl | rfl
  ·rw [← hU.det]; exact h1
  ·rw [← hV.det]; exact h2
 ·have ba := h.cyc_box mS hS
  have bb := h.cyc_box mS hS.turn
  have bc := h.cyc_box mS hS.turn.turn
  have bd := h.cyc_box mR hR.turn.turn
  intro T hT
  simp only [List.mem_cons, List.not_mem_nil, or_false] at hT
  rcases hT with rfl | rfl
  ·exact hU.box bc ba bd
  ·exact hV.box bd bb bc
theorem zI4 {T : Tri3} {w : Pt × Pt} (h : w ∈ ways T) : isCnr T w.1 ∧ isCnr T w.2 := by
 obtain ⟨a, b⟩ := w
 obtain ⟨c, hc⟩ := zD7 h
 exact ⟨hc.cnr, hc.turn.cnr⟩
theorem zFx {L : List Tri3} {p : Pt} (hn : ∀ T ∈ L, ¬ isCnr T p) {w : Pt × Pt} (hw : w.1 = p ∨ w.2 = p) : w ∉ L.flatMap ways := by
 intro hm
 obtain ⟨T, hT, hk⟩ := List.mem_flatMap.1 hm
 have := zI4 hk
 rcases hw with e | e <;> rw [e] at this
 ·exact hn T hT this.1
 ·exact hn T hT this.2
theorem zAv {a b c : Pt} (h : 0 < det a b c) : a ≠ b ∧ b ≠ c ∧ c ≠ a :=
 ⟨zEa h, zEa (c := a) (by rw [zAj]; exact h), zEa (c := b) (by rw [zAj, zAj]; exact h)⟩
theorem ins_cyc {T : Tri3} {a b c p : Pt} (hc : Cyc T a b c) (h : insT T p) : 0 < det a b p ∧ 0 < det b c p ∧ 0 < det c a p := by
 unfold insT at h
 rcases hc with ⟨rfl, rfl, rfl⟩ | ⟨rfl, rfl, rfl⟩ | ⟨rfl, rfl, rfl⟩
 ·exact h
 ·exact ⟨h.2.1, h.2.2, h.1⟩
 ·exact ⟨h.2.2, h.1, h.2.1⟩
section
variable {W H : Int} {L M : List Tri3} (h : Tiles W H L) {p : Pt} (hn : ∀ T ∈ L, ¬ isCnr T p) (hb : inBox W H p)
include h hn hb
theorem Tiles.cut3 {T P Q R : Tri3} (hL : L.Perm (T :: M)) {a b c : Pt} (hT : Cyc T a b c) (hi : insT T p) (hP : Cyc P a b p) (hQ : Cyc Q b c p) (hR : Cyc R c a p) : Tiles W H (P :: Q :: R :: M) := by
 have mT : T ∈ L := hL.mem_iff.2 (by simp)
 have pT := h.cyc_pos mT hT
 obtain ⟨i1, i2, i3⟩ := ins_cyc hT hi
 obtain ⟨n1, n2, n3⟩ := zAv pT
 have np := hn T mT
 rw [hT.cnr_iff] at np
 simp only [not_or] at np
 obtain ⟨q1, q2, q3⟩ := np
 refine h.change (Out := [T]) (In := [P, Q, R]) (M := M) hL (rem := []) (add := [(b, p), (p, b), (c, p), (p, c), (a, p), (p, a)]) (keep := [(a, b), (b, c), (c, a)]) ?_ ?_ ?_ ?_ ?_ ?_ ?_ ?_ ?_ ?_
 ·simp only [List.flatMap_cons, List.flatMap_nil, List.append_nil, List.nil_append]
  exact hT.ways
 ·simp only [List.flatMap_cons, List.flatMap_nil, List.append_nil]
  refine (hP.ways.append (hQ.ways.append hR.ways)).trans ?_
  refine (List.perm_iff_count.2 fun w => ?_)
  simp only [List.cons_append, List.nil_append, List.count_cons, List.count_nil]
  omega
 ·simp [q1, q2, q3, n2, n3, Ne.symm q1, Ne.symm q2, Ne.symm q3, Ne.symm n1]
 ·intro w hw
  simp only [List.mem_cons, List.not_mem_nil, or_false] at hw
  refine zFx hn ?_
  rcases hw with rfl | rfl | rfl | rfl | rfl | rfl <;> simp
 ·intro w hw
  simp only [List.mem_cons, List.not_mem_nil, or_false] at hw
  rcases hw with rfl | rfl | rfl | rfl | rfl | rfl <;> simp
 ·intro w hw; simp at hw
 ·intro K hK q
  simp only [cvr]
  have e1 := zBi (sc K a) (sc K p) q
  have e2 := zBi (sc K b) (sc K p) q
  have e3 := zBi (sc K c) (sc K p) q
  omega
 ·rw [hP.area, hQ.area, hR.area, hT.area]
  simp only [sumA]
  have := zDm a b c p
  omega
 ·intro X hX
  simp only [List.mem_cons, List.not_mem_nil, or_false] at hX
  rcases hX with rfl | rfl | rfl
  ·rw [← hP.det]; exact i1
  ·rw [← hQ.det]; exact i2
  ·rw [← hR.det]; exact i3
 ·have ba := h.cyc_box mT hT
  have bb := h.cyc_box mT hT.turn
  have bc := h.cyc_box mT hT.turn.turn
  intro X hX
  simp only [List.mem_cons, List.not_mem_nil, or_false] at hX
  rcases hX with rfl | rfl | rfl
  ·exact hP.box ba bb hb
  ·exact hQ.box bb bc hb
  ·exact hR.box bc ba hb
omit h hn hb in
theorem zFc {a b c p : Pt} (hp : 0 < det a b c) (he : edg a b c p) : ((a.y ≤ p.y ∧ p.y ≤ b.y) ∨ (b.y ≤ p.y ∧ p.y ≤ a.y)) ∧ ((a.x ≤ p.x ∧ p.x ≤ b.x) ∨ (b.x ≤ p.x ∧ p.x ≤ a.x)) := by
 obtain ⟨h1, h2, h3⟩ := he
 have s := zDm a b c p
 have e1 : det a b c * (p.y - a.y) = det c a p * (b.y - a.y) + det a b p * (c.y - a.y) := by unfold det; grind
 have e2 : det a b c * (b.y - p.y) = det b c p * (b.y - a.y) - det a b p * (c.y - b.y) := by unfold det; grind
 have e3 : det a b c * (p.x - a.x) = det c a p * (b.x - a.x) + det a b p * (c.x - a.x) := by unfold det; grind
 have e4 : det a b c * (b.x - p.x) = det b c p * (b.x - a.x) - det a b p * (c.x - b.x) := by unfold det; grind
 rw [h1, Int.zero_mul] at e1 e2 e3 e4
 have key : ∀ u v x : Int, det a b c * u = det c a p * x + 0 → det a b c * v = det b c p * x - 0 → (0 ≤ u ∧ 0 ≤ v) ∨ (u ≤ 0 ∧ v ≤ 0) := by
  intro u v x k1 k2
  rcases Int.le_total 0 x with hx | hx
  ·have := Int.mul_nonneg (a := det c a p) (b := x) (by omega) hx
   have := Int.mul_nonneg (a := det b c p) (b := x) (by omega) hx
   exact .inl ⟨(zB7 hp).1 (by omega), (zB7 hp).1 (by omega)⟩
  ·have := Int.mul_nonpos_of_nonneg_of_nonpos (a := det c a p) (b := x) (by omega) hx
   have := Int.mul_nonpos_of_nonneg_of_nonpos (a := det b c p) (b := x) (by omega) hx
   have a1 := (zB7 (b := -u) hp).1 (by rw [Int.mul_neg]; omega)
   have a2 := (zB7 (b := -v) hp).1 (by rw [Int.mul_neg]; omega)
   exact .inr ⟨by omega, by omega⟩
 have k1 := key _ _ _ e1 e2
 have k2 := key _ _ _ e3 e4
 omega
omit h hn hb in
theorem sc_add {a b p : Pt} (h : det a b p = 0) (hb : (a.y ≤ p.y ∧ p.y ≤ b.y) ∨ (b.y ≤ p.y ∧ p.y ≤ a.y)) {K : Int} (hK : 0 < K) (q : Pt) : crs (sc K a) (sc K b) q = crs (sc K a) (sc K p) q + crs (sc K p) (sc K b) q := by
 refine crs_add (by rw [sc_det, h]; simp) ?_ q
 have m : ∀ x y : Int, x ≤ y → K * x ≤ K * y := fun x y h => Int.mul_le_mul_of_nonneg_left h (by omega)
 rcases hb with ⟨h1, h2⟩ | ⟨h1, h2⟩
 ·exact .inl ⟨m _ _ h1, m _ _ h2⟩
 ·exact .inr ⟨m _ _ h1, m _ _ h2⟩
theorem Tiles.cut2r {T Q R : Tri3} (hL : L.Perm (T :: M)) {a b c : Pt} (hT : Cyc T a b c) (hi : edg a b c p) (hr : onRim W H a b) (hQ : Cyc Q b c p) (hR : Cyc R c a p) : Tiles W H (Q :: R :: M) := by
 have mT : T ∈ L := hL.mem_iff.2 (by simp)
 have pT := h.cyc_pos mT hT
 have bw := zFc pT hi
 obtain ⟨i1, i2, i3⟩ := hi
 obtain ⟨n1, n2, n3⟩ := zAv pT
 have np := hn T mT
 rw [hT.cnr_iff] at np
 simp only [not_or] at np
 obtain ⟨q1, q2, q3⟩ := np
 refine h.change (Out := [T]) (In := [Q, R]) (M := M) hL (rem := [(a, b)]) (add := [(c, p), (p, c), (p, b), (a, p)]) (keep := [(b, c), (c, a)]) ?_ ?_ ?_ ?_ ?_ ?_ ?_ ?_ ?_ ?_
 ·simp only [List.flatMap_cons, List.flatMap_nil, List.append_nil]
  exact hT.ways
 ·simp only [List.flatMap_cons, List.flatMap_nil, List.append_nil]
  refine (hQ.ways.append hR.ways).trans ?_
  refine (List.perm_iff_count.2 fun w => ?_)
  simp only [List.cons_append, List.nil_append, List.count_cons, List.count_nil]
  omega
 ·simp [q1, q2, q3, n3, Ne.symm q2, Ne.symm q3, Ne.symm n2]
 ·intro w hw
  simp only [List.mem_cons, List.not_mem_nil, or_false] at hw
  refine zFx hn ?_
  rcases hw with rfl | rfl | rfl | rfl <;> simp
 ·intro w hw
  simp only [List.mem_cons, List.not_mem_nil, or_false] at hw
  rcases hw with rfl | rfl | rfl | rfl
  ·simp
  ·simp
  ·right; unfold onRim at *; unfold inBox at hb; simp only; omega
  ·right; unfold onRim at *; unfold inBox at hb; simp only; omega
 ·intro w hw
  simp only [List.mem_cons, List.not_mem_nil, or_false] at hw
  rw [hw]; exact .inr hr
 ·intro K hK q
  simp only [cvr]
  have e1 := zBi (sc K c) (sc K p) q
  have e2 := sc_add i1 bw.1 hK q
  omega
 ·rw [hQ.area, hR.area, hT.area]
  simp only [sumA]
  have := zDm a b c p
  omega
 ·intro X hX
  simp only [List.mem_cons, List.not_mem_nil, or_false] at hX
  rcases hX with rfl | rfl
  ·rw [← hQ.det]; exact i2
  ·rw [← hR.det]; exact i3
 ·have ba := h.cyc_box mT hT
  have bb := h.cyc_box mT hT.turn
  have bc := h.cyc_box mT hT.turn.turn
  intro X hX
  simp only [List.mem_cons, List.not_mem_nil, or_false] at hX
  rcases hX with rfl | rfl
  ·exact hQ.box bb bc hb
  ·exact hR.box bc ba hb
theorem Tiles.cut4 {T S Q R X Y : Tri3} (hL : L.Perm (T :: S :: M)) {a b c d : Pt} (hT : Cyc T a b c) (hS : Cyc S b a d) (hi : edg a b c p) (hQ : Cyc Q b c p) (hR : Cyc R c a p) (hX : Cyc X a d p) (hY : Cyc Y d b p) : Tiles W H (Q :: R :: X :: Y :: M) := by
 have mT : T ∈ L := hL.mem_iff.2 (by simp)
 have mS : S ∈ L := hL.mem_iff.2 (by simp)
 have pT := h.cyc_pos mT hT
 have pS := h.cyc_pos mS hS
 have ho := zCp pT pS hi
 have bw := zFc pT hi
 obtain ⟨i1, i2, i3⟩ := hi
 obtain ⟨o1, o2, o3⟩ := ho
 obtain ⟨n1, n2, n3⟩ := zAv pT
 obtain ⟨m1, m2, m3⟩ := zAv pS
 have np := hn T mT
 have np' := hn S mS
 rw [hT.cnr_iff] at np
 rw [hS.cnr_iff] at np'
 simp only [not_or] at np np'
 obtain ⟨q1, q2, q3⟩ := np
 obtain ⟨_, _, q4⟩ := np'
 have cd : c ≠ d := by
  rintro rfl
  rw [zCh] at pS; omega
 refine h.change (Out := [T, S]) (In := [Q, R, X, Y]) (M := M) hL (rem := [(a, b), (b, a)]) (add := [(c, p), (p, c), (d, p), (p, d), (p, b), (b, p), (a, p), (p, a)]) (keep := [(b, c), (c, a), (a, d), (d, b)]) ?_ ?_ ?_ ?_ ?_ ?_ ?_ ?_ ?_ ?_
 ·simp only [List.flatMap_cons, List.flatMap_nil, List.append_nil]
  exact (hT.ways.append hS.ways).trans zFy
 ·simp only [List.flatMap_cons, List.flatMap_nil, List.append_nil]
  refine (hQ.ways.append (hR.ways.append (hX.ways.append hY.ways))).trans ?_
  refine (List.perm_iff_count.2 fun w => ?_)
  simp only [List.cons_append, List.nil_append, List.count_cons, List.count_nil]
  omega
 ·simp [q1, q2, q3, q4, n3, m1, m3, cd, Ne.symm q1, Ne.symm q2, Ne.symm q3, Ne.symm q4, Ne.symm n2, Ne.symm m2]
 ·intro w hw
  simp only [List.mem_cons, List.not_mem_nil, or_false] at hw
  refine zFx hn ?_
  rcases hw with rfl | rfl | rfl | rfl | rfl | rfl | rfl | rfl <;> simp
 ·intro w hw
  simp only [List.mem_cons, List.not_mem_nil, or_false] at hw
  rcases hw with rfl | rfl | rfl | rfl | rfl | rfl | rfl | rfl <;> simp
 ·intro w hw
  simp only [List.mem_cons, List.not_mem_nil, or_false] at hw
  rcases hw with rfl | rfl <;> simp
 ·intro K hK q
  simp only [cvr]
  have e1 := zBi (sc K c) (sc K p) q
  have e2 := zBi (sc K d) (sc K p) q
  have e3 := zBi (sc K b) (sc K p) q
  have e4 := zBi (sc K a) (sc K p) q
  have e5 := zBi (sc K a) (sc K b) q
  omega
 ·rw [hQ.area, hR.area, hX.area, hY.area, hT.area, hS.area]
  simp only [sumA]
  have := zDm a b c p
  have := zDm b a d p
  omega
 ·intro Z hZ
  simp only [List.mem_cons, List.not_mem_nil, or_false] at hZ
  rcases hZ with rfl | rfl | rfl | rfl
  ·rw [← hQ.det]; exact i2
  ·rw [← hR.det]; exact i3
  ·rw [← hX.det]; exact o2
  ·rw [← hY.det]; exact o3
 ·have ba := h.cyc_box mT hT
  have bb := h.cyc_box mT hT.turn
  have bc := h.cyc_box mT hT.turn.turn
  have bd := h.cyc_box mS hS.turn.turn
  intro Z hZ
  simp only [List.mem_cons, List.not_mem_nil, or_false] at hZ
  rcases hZ with rfl | rfl | rfl | rfl
  ·exact hQ.box bb bc hb
  ·exact hR.box bc ba hb
  ·exact hX.box ba bd hb
  ·exact hY.box bd bb hb
end
theorem tiles_square {W H : Int} (hW : 0 < W) (hH : 0 < H) {X Y : Tri3} (hX : Cyc X ⟨0, 0⟩ ⟨W, 0⟩ ⟨W, H⟩) (hY : Cyc Y ⟨0, 0⟩ ⟨W, H⟩ ⟨0, H⟩) : Tiles W H [X, Y] := by
 have wp : ([X, Y].flatMap ways).Perm [(⟨0, 0⟩, ⟨W, 0⟩), (⟨W, 0⟩, ⟨W, H⟩), (⟨W, H⟩, ⟨0, 0⟩), (⟨0, 0⟩, ⟨W, H⟩), (⟨W, H⟩, ⟨0, H⟩), (⟨0, H⟩, ⟨0, 0⟩)] := by
  simp only [List.flatMap_cons, List.flatMap_nil, List.append_nil]
  exact hX.ways.append hY.ways
 have pWH := Int.mul_pos hW hH
 have dX : det ⟨0, 0⟩ ⟨W, 0⟩ ⟨W, H⟩ = W * H := by unfold det; grind
 have dY : det ⟨0, 0⟩ ⟨W, H⟩ ⟨0, H⟩ = W * H := by unfold det; grind
 refine ⟨?_, ?_, ?_, ?_, ?_, ?_⟩
 ·intro T hT
  simp only [List.mem_cons, List.not_mem_nil, or_false] at hT
  rcases hT with rfl | rfl
  ·rw [← hX.det, dX]; exact pWH
  ·rw [← hY.det, dY]; exact pWH
 ·rw [wp.nodup_iff]
  have w0 : W ≠ 0 := by omega
  have h0 : H ≠ 0 := by omega
  simp [w0, h0, Ne.symm w0, Ne.symm h0]
 ·have b1 : inBox W H ⟨0, 0⟩ := by unfold inBox; simp only; omega
  have b2 : inBox W H ⟨W, 0⟩ := by unfold inBox; simp only; omega
  have b3 : inBox W H ⟨W, H⟩ := by unfold inBox; simp only; omega
  have b4 : inBox W H ⟨0, H⟩ := by unfold inBox; simp only; omega
  intro T hT
  simp only [List.mem_cons, List.not_mem_nil, or_false] at hT
  rcases hT with rfl | rfl
  ·exact hX.box b1 b2 b3
  ·exact hY.box b1 b3 b4
 ·intro w hw
  rw [wp.mem_iff] at hw ⊢
  simp only [List.mem_cons, List.not_mem_nil, or_false] at hw
  unfold onRim
  rcases hw with rfl | rfl | rfl | rfl | rfl | rfl <;> simp
 ·intro K hK q
  rw [zG1 wp]
  simp only [cvr]
  have e1 := zBi (sc K ⟨W, H⟩) (sc K ⟨0, 0⟩) q
  have kW := Int.mul_pos hK hW
  have kH := Int.mul_pos hK hH
  have z1 : crs (sc K ⟨0, 0⟩) (sc K ⟨W, 0⟩) q = 0 := by unfold crs sc; simp only; (repeat' split) <;> omega
  have z2 : crs (sc K ⟨W, H⟩) (sc K ⟨0, H⟩) q = 0 := by unfold crs sc; simp only; (repeat' split) <;> omega
  have d1 : det (sc K ⟨W, 0⟩) (sc K ⟨W, H⟩) q = (K * H) * (K * W - q.x) := by unfold det sc; grind
  have d2 : det (sc K ⟨0, H⟩) (sc K ⟨0, 0⟩) q = (K * H) * q.x := by unfold det sc; grind
  have s1 := zAw (b := K * W - q.x) kH
  have s2 := zC1 (b := q.x) kH
  have v1 : crs (sc K ⟨W, 0⟩) (sc K ⟨W, H⟩) q = if (0 ≤ q.y ∧ q.y < K * H) ∧ q.x < K * W then 1 else 0 := by
   unfold crs; rw [d1]
   generalize K * H * (K * W - q.x) = D at *
   unfold sc; simp only [Int.mul_zero]
   (repeat' split) <;> omega
  have v2 : crs (sc K ⟨0, H⟩) (sc K ⟨0, 0⟩) q = if (0 ≤ q.y ∧ q.y < K * H) ∧ q.x < 0 then -1 else 0 := by
   unfold crs; rw [d2]
   generalize K * H * q.x = D at *
   unfold sc; simp only [Int.mul_zero]
   (repeat' split) <;> omega
  rw [z1, z2, v1, v2]
  unfold sqr
  (repeat' split) <;> omega
 ·rw [hX.area, hY.area, dX, dY]; simp only [sumA]; omega
def PH (h : Pt → Int) (a b c d : Pt) : Int := det d b c * h a + det a d c * h b + det a b d * h c - det a b c * h d
theorem PH_lft (a b c d : Pt) : PH (fun p => p.x * p.x + p.y * p.y) a b c d = lft a b c d := by unfold PH lft ht cr way det; grind
theorem wgt_ex : ∃ (w : Pt → Int) (M : Int), (∀ p, vld p = true → 0 < w p ∧ w p ≤ M) ∧ ∀ p q, vld p = true → vld q = true → key p < key q → 2251799545249801 * w q ≤ w p := by
 have gen : ∀ (B : Nat) (C N : Int), (B : Int) = C → 0 < B → (∀ p, vld p = true → 0 ≤ key p ∧ key p ≤ N) → ∃ (w : Pt → Int) (M : Int), (∀ p, vld p = true → 0 < w p ∧ w p ≤ M) ∧ ∀ p q, vld p = true → vld q = true → key p < key q → C * w q ≤ w p := by
  intro B C N hC hB hN
  refine ⟨fun p => ((B ^ (N - key p).toNat : Nat) : Int), ((B ^ N.toNat : Nat) : Int), fun p hp => ?_, fun p q hp hq hk => ?_⟩
  ·have h1 : 0 < B ^ (N - key p).toNat := Nat.pow_pos hB
   have h2 : B ^ (N - key p).toNat ≤ B ^ N.toNat := Nat.pow_le_pow_right hB (by have := hN p hp; omega)
   refine ⟨?_, ?_⟩
   ·show (0 : Int) < ((B ^ (N - key p).toNat : Nat) : Int); omega
   ·show ((B ^ (N - key p).toNat : Nat) : Int) ≤ ((B ^ N.toNat : Nat) : Int); omega
  ·have := hN q hq
   have := hN p hp
   have e : (N - key p).toNat = ((N - key q).toNat + 1) + ((N - key p).toNat - ((N - key q).toNat + 1)) := by omega
   have h1 : B ^ ((N - key q).toNat + 1) ≤ B ^ (N - key p).toNat := Nat.pow_le_pow_right hB (by omega)
   rw [Nat.pow_succ, Nat.mul_comm] at h1
   show C * ((B ^ (N - key q).toNat : Nat) : Int) ≤ ((B ^ (N - key p).toNat : Nat) : Int)
   rw [← hC]
   exact_mod_cast h1
 exact gen 2251799545249801 2251799545249801 281474976710656 (by omega) (by omega) (fun p hp => by rw [zAp] at hp; unfold key; omega)
theorem zE5 {u w D : Int} (h1 : -D ≤ u) (h2 : u ≤ D) (hw : 0 ≤ w) : -(D * w) ≤ u * w ∧ u * w ≤ D * w := by
 have e1 := Int.mul_le_mul_of_nonneg_right h2 hw
 have e2 := Int.mul_le_mul_of_nonneg_right h1 hw
 rw [Int.neg_mul] at e2
 exact ⟨e2, e1⟩
structure Hts (h : Pt → Int) : Prop where
 nn : ∀ p, vld p = true → 0 ≤ h p
 sign : ∀ a b c d, vld a = true → vld b = true → vld c = true → vld d = true → 0 < det a b c → d ≠ a → d ≠ b → d ≠ c → (circ a b c d = 1 ∧ 0 < PH h a b c d ∧ 0 ≤ lft a b c d) ∨ (circ a b c d = -1 ∧ PH h a b c d < 0)
theorem tie_main {w : Pt → Int} (hp : ∀ p, vld p = true → 0 < w p) (hw : ∀ p q, vld p = true → vld q = true → key p < key q → 2251799545249801 * w q ≤ w p)
    {a b c d : Pt} (ha : vld a = true) (hb : vld b = true) (hc : vld c = true) (hd : vld d = true) (hD : 0 < det a b c) (e1 : d ≠ a) (e2 : d ≠ b) (e3 : d ≠ c) (hl : lft a b c d = 0) :
    (circ a b c d = 1 ∧ PH w a b c d < 0) ∨ (circ a b c d = -1 ∧ 0 < PH w a b c d) := by
 obtain ⟨n1, n2, n3⟩ := zAv hD
 have h0 : ¬ ori a b c = 0 := by rw [ori_v ha hb hc, zBu]; omega
 rw [zBh h0 hd e1 e2 e3, if_neg (by rw [hl]; simp [sgn])]
 have hk := zCf ha hb hc hd
 have k1 : ∀ p q : Pt, vld p = true → vld q = true → p ≠ q → key p ≠ key q := fun p q hp hq hn h => hn (zBr hp hq h)
 have b0 := zGq ha hb hc
 have b1 := zGq hd hb hc
 have b2 := zGq ha hd hc
 have b3 := zGq ha hb hd
 have t1 : det d b c ≠ 0 := zDv hl (by omega) e2 e3
 have t2 : det a d c ≠ 0 := by
  have := zDv (a := b) (b := c) (c := a) (d := d) (by rw [zEo]; exact hl) (by rw [zAj]; omega) e3 e1
  rwa [← zAj a d c]
 have t3 : det a b d ≠ 0 := by
  have := zDv (a := c) (b := a) (c := b) (d := d) (by rw [zEo b c a, zEo]; exact hl) (by rw [zAj b c a, zAj]; omega) e1 e2
  rwa [← zAj a b d, ← zAj b d a]
 have pa := hp a ha
 have pb := hp b hb
 have pc := hp c hc
 have pd := hp d hd
 have q1 := zE5 b1.1 b1.2 (Int.le_of_lt pa)
 have q2 := zE5 b2.1 b2.2 (Int.le_of_lt pb)
 have q3 := zE5 b3.1 b3.2 (Int.le_of_lt pc)
 have q4 := zE5 b0.1 b0.2 (Int.le_of_lt pd)
 have one : ∀ (u x : Int), u ≠ 0 → 0 < x → (0 < u ∧ x ≤ u * x) ∨ (u < 0 ∧ u * x ≤ -x) := by
  intro u x hu hx
  rcases Int.lt_or_gt_of_ne hu with k | k
  ·right
   have := Int.mul_nonneg (a := -1 - u) (b := x) (by omega) (by omega)
   rw [Int.sub_mul] at this
   exact ⟨k, by omega⟩
  ·left
   have := Int.mul_nonneg (a := u - 1) (b := x) (by omega) (by omega)
   rw [Int.sub_mul] at this
   exact ⟨k, by omega⟩
 unfold PH tie
 rcases zIk a b c d with m | m | m | m
 ·rw [m] at hk
  have x1 := hw a b ha hb (by have := k1 a b ha hb n1; omega)
  have x2 := hw a c ha hc (by have := k1 a c ha hc n3.symm; omega)
  have x3 := hw a d ha hd (by have := k1 a d ha hd e1.symm; omega)
  rw [m, if_neg (np e1.symm), if_pos (pp rfl), ori_v hd hb hc]
  have s := zAs (det d b c)
  have o := one _ _ t1 pa
  generalize det d b c * w a = z1 at *
  generalize det a d c * w b = z2 at *
  generalize det a b d * w c = z3 at *
  generalize det a b c * w d = z4 at *
  omega
 ·rw [m] at hk
  have x1 := hw b a hb ha (by have := k1 b a hb ha n1.symm; omega)
  have x2 := hw b c hb hc (by have := k1 b c hb hc n2; omega)
  have x3 := hw b d hb hd (by have := k1 b d hb hd e2.symm; omega)
  rw [m, if_neg (np e2.symm), if_neg (np n1.symm), if_pos (pp rfl), ori_v ha hd hc]
  have s := zAs (det a d c)
  have o := one _ _ t2 pb
  generalize det d b c * w a = z1 at *
  generalize det a d c * w b = z2 at *
  generalize det a b d * w c = z3 at *
  generalize det a b c * w d = z4 at *
  omega
 ·rw [m] at hk
  have x1 := hw c a hc ha (by have := k1 c a hc ha n3; omega)
  have x2 := hw c b hc hb (by have := k1 c b hc hb n2.symm; omega)
  have x3 := hw c d hc hd (by have := k1 c d hc hd e3.symm; omega)
  rw [m, if_neg (np e3.symm), if_neg (np n3), if_neg (np n2.symm), ori_v ha hb hd]
  have s := zAs (det a b d)
  have o := one _ _ t3 pc
  generalize det d b c * w a = z1 at *
  generalize det a d c * w b = z2 at *
  generalize det a b d * w c = z3 at *
  generalize det a b c * w d = z4 at *
  omega
 ·rw [m] at hk
  have x1 := hw d a hd ha (by have := k1 d a hd ha e1; omega)
  have x2 := hw d b hd hb (by have := k1 d b hd hb e2; omega)
  have x3 := hw d c hd hc (by have := k1 d c hd hc e3; omega)
  rw [m, if_pos (pp rfl), ori_v ha hb hc]
  have s := zAs (det a b c)
  have o := one _ _ (show det a b c ≠ 0 by omega) pd
  generalize det d b c * w a = z1 at *
  generalize det a d c * w b = z2 at *
  generalize det a b d * w c = z3 at *
  generalize det a b c * w d = z4 at *
  omega
theorem hts_ex : ∃ h, Hts h := by
 obtain ⟨w, M, hM, hw⟩ := wgt_ex
 have hM0 : 0 < M := by have := hM ⟨0, 0⟩ (by decide); omega
 refine ⟨fun p => (4 * 562949886312450 * M + 1) * (p.x * p.x + p.y * p.y) - w p + M, fun p hp => ?_, fun a b c d ha hb hc hd hD e1 e2 e3 => ?_⟩
 ·have := hM p hp
  have := Int.mul_nonneg (a := 4 * 562949886312450 * M + 1) (b := p.x * p.x + p.y * p.y) (by omega) (by have := sq_nn p.x; have := sq_nn p.y; omega)
  show 0 ≤ (4 * 562949886312450 * M + 1) * (p.x * p.x + p.y * p.y) - w p + M
  omega
 ·have e : PH (fun p => (4 * 562949886312450 * M + 1) * (p.x * p.x + p.y * p.y) - w p + M) a b c d = (4 * 562949886312450 * M + 1) * lft a b c d - PH w a b c d := by
     have z : det d b c + det a d c + det a b d = det a b c := by unfold det; grind
     rw [← PH_lft]; unfold PH; grind
  rw [e]
  have h0 : ¬ ori a b c = 0 := by rw [ori_v ha hb hc, zBu]; omega
  have pa := hM a ha
  have pb := hM b hb
  have pc := hM c hc
  have pd := hM d hd
  by_cases hl : lft a b c d = 0
  ·have t := tie_main (fun p hp => (hM p hp).1) hw ha hb hc hd hD e1 e2 e3 hl
   rw [hl, Int.mul_zero]
   omega
  ·have b0 := zGq ha hb hc
   have b1 := zGq hd hb hc
   have b2 := zGq ha hd hc
   have b3 := zGq ha hb hd
   have q1 := zE5 b1.1 b1.2 (Int.le_of_lt pa.1)
   have q2 := zE5 b2.1 b2.2 (Int.le_of_lt pb.1)
   have q3 := zE5 b3.1 b3.2 (Int.le_of_lt pc.1)
   have q4 := zE5 b0.1 b0.2 (Int.le_of_lt pd.1)
   rw [zBh h0 hd e1 e2 e3]
   have s := zAs (lft a b c d)
   rw [if_pos (by rw [zBu]; exact hl)]
   have key : (4 * 562949886312450 * M + 1) * lft a b c d ≤ -(4 * 562949886312450 * M + 1) ∨ (4 * 562949886312450 * M + 1) ≤ (4 * 562949886312450 * M + 1) * lft a b c d := by
    rcases Int.lt_or_gt_of_ne hl with k | k
    ·left
     have := Int.mul_nonneg (a := 4 * 562949886312450 * M + 1) (b := -1 - lft a b c d) (by omega) (by omega)
     rw [Int.mul_sub] at this; omega
    ·right
     have := Int.mul_nonneg (a := 4 * 562949886312450 * M + 1) (b := lft a b c d - 1) (by omega) (by omega)
     rw [Int.mul_sub] at this; omega
   have sg : 0 < lft a b c d → (4 * 562949886312450 * M + 1) * lft a b c d > 0 := fun k => Int.mul_pos (by omega) k
   have sg' : lft a b c d < 0 → (4 * 562949886312450 * M + 1) * lft a b c d < 0 := fun k => Int.mul_neg_of_pos_of_neg (by omega) k
   unfold PH
   generalize (4 * 562949886312450 * M + 1) * lft a b c d = Q at *
   generalize det d b c * w a = z1 at *
   generalize det a d c * w b = z2 at *
   generalize det a b d * w c = z3 at *
   generalize det a b c * w d = z4 at *
   omega
theorem lft_edge (a b c d : Pt) : lft a b c d = det c a d * ((b.x - a.x) * (b.x - a.x) + (b.y - a.y) * (b.y - a.y)) - det b a d * ((c.x - a.x) * (c.x - a.x) + (c.y - a.y) * (c.y - a.y)) - det a b c * ((d.x - a.x) * (d.x - a.x) + (d.y - a.y) * (d.y - a.y)) := by unfold lft ht cr way det; grind
theorem lft_edge2 (a b c d : Pt) : lft a b c d = det d b c * ((b.x - a.x) * (b.x - a.x) + (b.y - a.y) * (b.y - a.y)) - det b a d * ((c.x - b.x) * (c.x - b.x) + (c.y - b.y) * (c.y - b.y)) - det a b c * ((d.x - b.x) * (d.x - b.x) + (d.y - b.y) * (d.y - b.y)) := by unfold lft ht cr way det; grind
theorem sq_ne {p q : Pt} (h : p ≠ q) : 0 < (q.x - p.x) * (q.x - p.x) + (q.y - p.y) * (q.y - p.y) := by
 have s1 := sq_nn (q.x - p.x)
 have s2 := sq_nn (q.y - p.y)
 refine Decidable.byContradiction fun k => h ?_
 have u1 := Int.mul_eq_zero.1 (show (q.x - p.x) * (q.x - p.x) = 0 by omega)
 have u2 := Int.mul_eq_zero.1 (show (q.y - p.y) * (q.y - p.y) = 0 by omega)
 rw [Pt.eq_iff]; omega
theorem convex {a b c d : Pt} (h1 : 0 < det a b c) (h2 : 0 < det b a d) (hl : 0 ≤ lft a b c d) : 0 < det c a d ∧ 0 < det d b c := by
 obtain ⟨n1, n2, n3⟩ := zAv h1
 obtain ⟨m1, m2, m3⟩ := zAv h2
 have key : ∀ g x y z : Int, 0 < x → 0 < y → 0 < z → 0 ≤ g * x - det b a d * y - det a b c * z → 0 < g := by
  intro g x y z hx hy hz k
  refine Decidable.byContradiction fun hg => ?_
  have i1 := Int.mul_nonneg (a := -g) (b := x) (by omega) (by omega)
  have i2 := Int.mul_pos h2 hy
  have i3 := Int.mul_pos h1 hz
  rw [Int.neg_mul] at i1
  omega
 refine ⟨key _ _ _ _ (sq_ne n1) (sq_ne n3.symm) (sq_ne m2) (by rw [← lft_edge]; exact hl), key _ _ _ _ (sq_ne n1) (sq_ne n2) (sq_ne m3.symm) (by rw [← lft_edge2]; exact hl)⟩
def vol (h : Pt → Int) (T : Tri3) : Int := det T.A T.B T.C * (h T.A + h T.B + h T.C)
def volS (h : Pt → Int) : List Tri3 → Int
 | [] => 0
 | T :: L => vol h T + volS h L
theorem volS_perm {h : Pt → Int} {l m : List Tri3} (p : l.Perm m) : volS h l = volS h m := by
 induction p with
 | nil => rfl
 | cons x _ ih => simp only [volS, ih]
 | swap x y l => simp only [volS]; omega
 | trans _ _ h1 h2 => exact h1.trans h2
theorem Cyc.vol {T : Tri3} {a b c : Pt} (h : Cyc T a b c) (f : Pt → Int) : Go.Proofs.YtmobnmjjmafibaaGreat.vol f T = Go.Proofs.YtmobnmjjmafibaaGreat.det a b c * (f a + f b + f c) := by
 rw [h.det]; unfold Go.Proofs.YtmobnmjjmafibaaGreat.vol
 rcases h with ⟨rfl, rfl, rfl⟩ | ⟨rfl, rfl, rfl⟩ | ⟨rfl, rfl, rfl⟩
 ·rfl
 ·congr 1; omega
 ·congr 1; omega
theorem vol_flip (h : Pt → Int) {S R U V : Tri3} (M : List Tri3) {a b c d : Pt} (hS : Cyc S a b c) (hR : Cyc R b a d) (hU : Cyc U c a d) (hV : Cyc V d b c) : volS h (S :: R :: M) = volS h (U :: V :: M) + PH h a b c d := by
 simp only [volS]
 rw [hS.vol, hR.vol, hU.vol, hV.vol]
 unfold PH det; grind
theorem zJ9 {h : Pt → Int} (hh : Hts h) : ∀ {L : List Tri3}, (∀ T ∈ L, 0 < det T.A T.B T.C ∧ vld T.A = true ∧ vld T.B = true ∧ vld T.C = true) → 0 ≤ volS h L
 | [], _ => Int.le_refl 0
 | T :: L, k => by
  have k1 := k T (by simp)
  have k2 := zJ9 hh (L := L) (fun S hS => k S (by simp [hS]))
  have a1 := hh.nn _ k1.2.1
  have a2 := hh.nn _ k1.2.2.1
  have a3 := hh.nn _ k1.2.2.2
  have := Int.mul_nonneg (a := det T.A T.B T.C) (b := h T.A + h T.B + h T.C) (by omega) (by omega)
  unfold volS vol
  omega
theorem zHf {α : Type} (n m : α → Int) : ∀ (L : List α), L ≠ [] → (∀ x ∈ L, 0 < m x) → ∃ x ∈ L, ∀ y ∈ L, n y * m x ≤ n x * m y
 | [], h, _ => absurd rfl h
 | [x], _, _ => ⟨x, by simp, fun y hy => by simp at hy; subst hy; exact Int.le_refl _⟩
 | x :: y :: L, _, hm => by
  obtain ⟨z, hz, k⟩ := zHf n m (y :: L) (by simp) (fun u hu => hm u (by simp [hu]))
  have pz := hm z (by simp [hz])
  have px := hm x (by simp)
  by_cases g : n x * m z ≤ n z * m x
  ·refine ⟨z, by simp [hz], fun u hu => ?_⟩
   rcases List.mem_cons.1 hu with rfl | hu
   ·exact g
   ·exact k u hu
  ·refine ⟨x, by simp, fun u hu => ?_⟩
   rcases List.mem_cons.1 hu with rfl | hu
   ·exact Int.le_refl _
   ·have pu := hm u (by simp [hu])
    have k1 := k u hu
    -- n u / m u ≤ n z / m z < n x / m x
    have a1 : n u * m z * m x ≤ n z * m u * m x := Int.mul_le_mul_of_nonneg_right k1 (by omega)
    have a2 : n z * m x * m u ≤ n x * m z * m u := Int.mul_le_mul_of_nonneg_right (by omega) (by omega)
    have a3 : m z * (n u * m x) ≤ m z * (n x * m u) := by
     have e1 : m z * (n u * m x) = n u * m z * m x := by grind
     have e2 : m z * (n x * m u) = n x * m z * m u := by grind
     have e3 : n z * m u * m x = n z * m x * m u := by grind
     omega
    exact Int.le_of_mul_le_mul_left a3 pz
structure Fixed (W H : Int) (wl : Pt → Pt → Prop) (L : List Tri3) : Prop where
 tiles : Tiles W H L
 good : ∀ S ∈ L, ∀ R ∈ L, ∀ a b c d, Cyc S a b c → Cyc R b a d → ¬ wl a b → circ a b c d ≠ 1
theorem zFv {M : Tri3} {p : Pt} (hM : valT M = true) (vp : vld p = true) : hasP M p = true ↔ 0 ≤ det M.A M.B p ∧ 0 ≤ det M.B M.C p ∧ 0 ≤ det M.C M.A p := by
 obtain ⟨va, vb, vc, hD⟩ := zH1 hM
 unfold hasP
 rw [hM, vp, Bool.true_and, Bool.true_and]
 simp only [Bool.and_eq_true, decide_eq_true_eq, (zJ4 va vb vp).2.1, (zJ4 vb vc vp).2.1, (zJ4 vc va vp).2.1]
end Go.Proofs.YtmobnmjjmafibaaGreat
namespace Go.Proofs.YtmobnmjjmafibaaGreat
open Go.RowKit Go.Sort
attribute [local go_sem] rOper rAt rUpon cell_set sg_i64 sg_u64 alloc_cell alloc_frozen
attribute [local go_sem 10000] pt_eql pt_neq
attribute [local irreducible] rWalk
theorem zGj : (Tryz.prog.info? 30).map (fun i => (i.zero, i.size, i.bytes)) = some (some (.agg #[.int .i64 0, .int .i64 0]), 2, 16) := by kernel_rfl
end Go.Proofs.YtmobnmjjmafibaaGreat
namespace Go.Proofs.YtmobnmjjmafibaaGreat
open Go.RowKit Go.Sort
attribute [local go_sem] rOper rAt rUpon cell_set sg_i64 sg_u64 alloc_cell alloc_frozen
attribute [local go_sem 10000] pt_eql pt_neq tri_eql
attribute [local irreducible] rWalk
def Two (w : World) (A : Addr) (p : Pt) : Prop := A.block < w.heap.size ∧ w.cell? A = some (.int .i64 p.x) ∧ w.cell? ⟨A.block, A.off + 1, none⟩ = some (.int .i64 p.y)
theorem RowAt.two {w : World} {a : Option Addr} {L : List Pt} (h : RowAt cP 2 w a L) {j : Nat} (hj : j < L.length) : ∃ ad A, a = some ad ∧ ad.add (j * 2) = A ∧ Two w A L[j] := by
 obtain ⟨ad, A, h1, h2, _, h4, h5⟩ := h.pt hj
 exact ⟨ad, A, h1, h2, h4, h5⟩
theorem Two.ext {w w' : World} {A : Addr} {p : Pt} {n : Nat} (h : Two w A p) (hb : Below n w w') (hn : n = w.heap.size) : Two w' A p := by
 obtain ⟨h0, h1, h2⟩ := h
 have e : ∀ q : Addr, q.block = A.block → w'.cell? q = w.cell? q := fun q hq => hb.cell (by rw [hq, hn]; exact h0)
 exact ⟨Nat.lt_of_lt_of_le h0 hb.size, (e A rfl).trans h1, (e ⟨A.block, A.off + 1, none⟩ rfl).trans h2⟩
theorem Two.ee {w w' : World} {A : Addr} {p : Pt} (h : Two w A p) (hb : Below w.heap.size w w') : Two w' A p := h.ext hb rfl
theorem Two.facts {w : World} {A : Addr} {p : Pt} (h : Two w A p) : (A.block = w.heap.size) = False ∧ w.cell? A = some (.int .i64 p.x) ∧ w.cell? ⟨A.block, A.off + 1, none⟩ = some (.int .i64 p.y) := ⟨by simp; have := h.1; omega, h.2⟩
theorem Two.cells {w : World} {A : Addr} {p : Pt} (h : Two w A p) : (∀ d os, (grow (redrawn w d) os).cell? A = some (.int .i64 p.x)) ∧ (∀ d os, (grow (redrawn w d) os).cell? ⟨A.block, A.off + 1, none⟩ = some (.int .i64 p.y)) :=
 ⟨fun d os => (h.ext (below_regrown w d os) rfl).2.1, fun d os => (h.ext (below_regrown w d os) rfl).2.2⟩
theorem Two.set {w : World} {A : Addr} {p : Pt} (h : Two w A p) (q : Addr) (v : Value) (hq : q.block ≠ A.block) : Two (w.setCell q v) A p := by
 obtain ⟨h0, h1, h2⟩ := h
 refine ⟨by simpa using h0, ?_, ?_⟩
 ·rw [World.cell?_setCell_other (h := fun e => hq (by rw [e]))]; exact h1
 ·rw [World.cell?_setCell_other (h := fun e => hq (by rw [e]))]; exact h2
theorem zIs (tl : List Value) : ∀ (S : List Pt) (j : Nat) (p : Pt), j < S.length → ((S.flatMap cP ++ tl).set (j * 2) (.int .i64 p.x)).set (j * 2 + 1) (.int .i64 p.y) = (S.set j p).flatMap cP ++ tl
 | q :: S, 0, p, _ => by simp [cP]
 | q :: S, j + 1, p, h => by
  have ih := zIs tl S j p (by simpa using h)
  simp only [List.flatMap_cons, cP, List.cons_append, List.nil_append, List.set_cons_succ] at ih ⊢
  rw [show (j + 1) * 2 = j * 2 + 1 + 1 by omega]
  simp only [List.set_cons_succ]
  rw [ih]
theorem zGs {w : World} {g : Nat} {S : List Pt} {tl : List Value} (h : Box w g (S.flatMap cP ++ tl) 30) {j : Nat} (hj : j < S.length) :
    w.cell? ⟨g, j * 2, none⟩ = some (.int .i64 S[j].x) ∧ w.cell? ⟨g, j * 2 + 1, none⟩ = some (.int .i64 S[j].y) ∧ w.frozen? ⟨g, j * 2, none⟩ = false ∧ w.frozen? ⟨g, j * 2 + 1, none⟩ = false := by
 have hf := h.facts
 have e : ∀ i, i < 2 → (S.flatMap cP ++ tl)[j * 2 + i]? = (cP S[j])[i]? := fun i hi => by
  rw [List.getElem?_append_left (by rw [zB8 zEb]; omega)]
  exact zB0 zEb S j i S[j] (List.getElem?_eq_getElem hj) hi
 have e0 := e 0 (by omega)
 have e1 := e 1 (by omega)
 refine ⟨by rw [hf.1, show j * 2 = j * 2 + 0 from rfl, e0]; rfl, by rw [hf.1, e1]; rfl, hf.2.1 _, hf.2.1 _⟩
theorem box_put {w : World} {g : Nat} {S : List Pt} {tl : List Value} (h : Box w g (S.flatMap cP ++ tl) 30) {j : Nat} (hj : j < S.length) (p : Pt) :
    Box ((w.setCell ⟨g, j * 2, none⟩ (.int .i64 p.x)).setCell ⟨g, j * 2 + 1, none⟩ (.int .i64 p.y)) g ((S.set j p).flatMap cP ++ tl) 30 := by
 rw [← zIs tl S j p hj]
 exact (h.set (j * 2) _).set (j * 2 + 1) _
def cnrs (L : List Tri3) : List Pt := L.flatMap fun T => [T.A, T.B, T.C]
theorem zeros_pt (n : Nat) : (Builtin.zeroCells #[.int .i64 0, .int .i64 0] n).toList = List.replicate (n * 2) (.int .i64 0) := by
 simp only [Builtin.zeroCells]
 apply List.ext_getElem
 ·simp
 ·intro i h1 h2
  simp at h1
  have : i % 2 = 0 ∨ i % 2 = 1 := by omega
  rcases this with h | h <;> simp [h]
theorem run_clear_pts (w : World) (ty : TypeId) (b o n c : Nat) (hn : 0 < n)
    (hc : ∀ j, j < n * 2 → (w.cell? ⟨b, o + j, none⟩).isSome = true) (hf : ∀ j, j < n * 2 → w.frozen? ⟨b, o + j, none⟩ = false) :
    (Builtin.clear_ #[52] ty #[.slice (some ⟨b, o, none⟩) n c]).run Tryz.prog w = .ok (.tuple #[]) (w.setCells b o (List.replicate (n * 2) (.int .i64 0))) := by
 have hst := run_storeCells_cells (P := Tryz.prog) b o (List.replicate (n * 2) (.int .i64 0)) 0 w (by simpa using hc) (by simpa using hf) (by intro v hv'; rw [List.eq_of_mem_replicate hv']; rfl)
 simp only [Nat.add_zero] at hst
 obtain ⟨m, rfl⟩ : ∃ m, n = m + 1 := ⟨n - 1, by omega⟩
 have hz := zeros_pt (m + 1)
 simp [Builtin.clear_, run_underlying Tryz.underlying52, Value.cells, hz, hst]
theorem zCy {w : World} {g : Nat} {S : List Pt} {tl : List Value} (h : Box w g (S.flatMap cP ++ tl) 30) (k : Nat) : RowAt cP 2 w (some ⟨g, 0, none⟩) (S.take k) := fun j x hj => by
 have hj2 : j < k ∧ S[j]? = some x := by
  rw [List.getElem?_take] at hj
  split at hj
  ·exact ⟨by assumption, hj⟩
  ·cases hj
 have hl := (List.getElem?_eq_some_iff.1 hj2.2)
 refine ⟨_, rfl, h.lt, fun i u hu => ?_⟩
 have hi : i < 2 := (List.getElem?_eq_some_iff.1 hu).1
 rw [Addr.add_lit, Addr.add_lit, h.facts.1, Nat.zero_add, List.getElem?_append_left (by rw [zB8 zEb]; have := hl.1; omega), zB0 zEb S j i x hj2.2 hi]
 exact hu
end Go.Proofs.YtmobnmjjmafibaaGreat
namespace Go.Proofs.YtmobnmjjmafibaaGreat
section
variable {α : Type} [DecidableEq α] {c : α → α → Int}
structure Cpt (c : α → α → Int) (L : List α) (r : Nat) (M : List α) : Prop where
 rise : Rising c M
 mem : ∀ p, p ∈ M ↔ p ∈ L.take r
 last : ∀ (h : 0 < r) (h2 : r ≤ L.length), M.getLast? = some (L[r - 1]'(by omega))
 len : M.length ≤ r
omit [DecidableEq α] in
theorem rising_snoc (W : Whole c) {M : List α} {x y : α} (h : Rising c M) (hl : M.getLast? = some y) (hxy : c y x < 0) : Rising c (M ++ [x]) := by
 unfold Rising at *
 rw [List.pairwise_append]
 refine ⟨h, by simp, fun a ha b hb => ?_⟩
 simp at hb; subst hb
 rw [List.getLast?_eq_some_iff] at hl
 obtain ⟨N, rfl⟩ := hl
 rw [List.pairwise_append] at h
 rcases List.mem_append.1 ha with ha | ha
 ·exact W.trans (h.2.2 a ha y (by simp)) hxy
 ·simp at ha; subst ha; exact hxy
omit [DecidableEq α] in
theorem Cpt.start {L : List α} (h : 0 < L.length) : Cpt c L 1 (L.take 1) := by
 cases L with
 | nil => simp at h
 | cons x L => exact ⟨by simp [Rising], by simp, by simp, by simp⟩
omit [DecidableEq α] in
theorem Cpt.next (W : Whole c) {L M : List α} {r : Nat} (h : Cpt c L r M) (ho : InOrder c L) (h0 : 0 < r) (hr : r < L.length) (hne : L[r] ≠ L[r - 1]'(by omega)) : Cpt c L (r + 1) (M ++ [L[r]]) := by
 have hl := h.last h0 (by omega)
 have hle : c (L[r - 1]'(by omega)) L[r] ≤ 0 := by
  unfold InOrder at ho
  rw [List.pairwise_iff_getElem] at ho
  exact ho _ _ _ _ (by omega)
 have hlt : c (L[r - 1]'(by omega)) L[r] < 0 := by
  have : c (L[r - 1]'(by omega)) L[r] ≠ 0 := fun e => hne (W.eq0.1 e).symm
  omega
 refine ⟨rising_snoc W h.rise hl hlt, fun p => ?_, fun _ _ => by simp, by have := h.len; simp; omega⟩
 rw [List.take_succ_eq_append_getElem hr, List.mem_append, List.mem_append, h.mem p]
omit [DecidableEq α] in
theorem Cpt.same {L M : List α} {r : Nat} (h : Cpt c L r M) (h0 : 0 < r) (hr : r < L.length) (he : L[r] = L[r - 1]'(by omega)) : Cpt c L (r + 1) M := by
 refine ⟨h.rise, fun p => ?_, fun _ _ => ?_, by have := h.len; omega⟩
 ·rw [List.take_succ_eq_append_getElem hr, List.mem_append, h.mem p]
  constructor
  ·exact .inl
  ·rintro (hp | hp)
   ·exact hp
   ·simp at hp
    rw [hp, he]
    exact List.mem_take_iff_getElem.2 ⟨r - 1, by omega, rfl⟩
 ·rw [h.last h0 (by omega)]; simp [he]
omit [DecidableEq α] in
theorem Cpt.all (W : Whole c) {L : List α} (ho : InOrder c L) : ∀ r, r ≤ L.length → 0 < r → (∀ (i : Nat) (h0 : 0 < i) (_ : i < r) (h2 : i < L.length), L[i] ≠ L[i - 1]'(by omega)) → Cpt c L r (L.take r)
 | 0, _, h, _ => absurd h (by omega)
 | 1, h, _, _ => Cpt.start (by omega)
 | r + 2, h, _, hd => by
  have ih := Cpt.all W ho (r + 1) (by omega) (by omega) (fun i h0 h1 h2 => hd i h0 (by omega) h2)
  have := ih.next W ho (by omega) (by omega) (hd (r + 1) (by omega) (by omega) (by omega))
  rwa [← List.take_succ_eq_append_getElem (by omega)] at this
end
open Go.RowKit Go.Sort
attribute [local go_sem] rOper rAt rUpon cell_set sg_i64 sg_u64 alloc_cell alloc_frozen
attribute [local go_sem 10000] pt_eql pt_neq tri_eql
attribute [local irreducible] rWalk
theorem zC3 (b : Nat) : ∀ (l : List Value) (o : Nat) (w : World), w.grownBy (w.setCells b o l) (some b)
 | [], _, w => zBx _ _
 | v :: l, o, w => by
  rw [World.setCells]
  have h1 : w.grownBy (w.setCell ⟨b, o, none⟩ v) (some b) := ⟨rfl, rfl, rfl, by simp, fun i _ hne => Below.heap_setCell w ⟨b, o, none⟩ v i (fun e => hne (by rw [e]))⟩
  exact zA8 h1 (zC3 b l (o + 1) _)
theorem compact_any (g cap n : Nat) (L : List Pt) (tl : List Value) (hL : Hid (L.length = n)) (hn : n ≤ 1000000) (hcap : n ≤ cap) (hcap2 : cap ≤ maxLen) (ho : Hid (InOrder cmpP L)) (w : World) (hb : Box w g (L.flatMap cP ++ tl) 30) :
    Calls Tryz.prog 82 #[.slice (some ⟨g, 0, none⟩) n cap] w fun e w' => ∃ M : List Pt, e = .returned (.slice (some ⟨g, 0, none⟩) M.length cap) ∧ RowAt cP 2 w' (some ⟨g, 0, none⟩) M ∧ Rising cmpP M ∧ (∀ p, p ∈ M ↔ p ∈ L) ∧ w.grownBy w' (some g) := by
 by_cases h2 : n < 2
 ·have HR := Lib.hid (zCy hb n)
  have e : L.take n = L := List.take_of_length_le (by rw [hL.out]; omega)
  rw [e] at HR
  have hr : Hid (Rising cmpP L) := Lib.hid (by
   have := hL.out
   match L, this with
   | [], _ => simp [Rising]
   | [x], _ => simp [Rising]
   | _ :: _ :: _, h => simp at h; omega)
  clear e hb
  go_enter Tryz.func82, Tryz.ntmps82
  go_wp2
  go_ret
  exact ⟨L, by rw [hL.out]; rfl, HR.out, hr.out, fun p => Iff.rfl, zBx _ _⟩
 ·go_enter Tryz.func82, Tryz.ntmps82
  go_wp2
  unfold maxLen at hcap2
  go_loopw [3] (fun vk wr => ∃ q : Nat, vk = .int .i64 ((q + 1 : Nat) : Int) ∧ q + 1 ≤ n ∧ Hid (∀ (i : Nat) (h0 : 0 < i) (_ : i < q + 1) (h2 : i < L.length), L[i] ≠ L[i - 1]'(by omega)) ∧ Below w.heap.size w wr) (fun vk _ => n - (intOf vk).toNat)
  case atStart => exact ⟨0, rfl, by omega, Lib.hid (fun i h0 h1 h2 => by omega), Below.refl _ _⟩
  case round =>
   obtain ⟨q, rfl, hq, hap, hw⟩ := hrel
   by_cases hlt : q + 1 < n
   case neg =>
    have HC := Lib.hid (Cpt.all wholeP ho.out n (by rw [hL.out]; omega) (by omega) (fun i h0 h1 h2 => hap.out i h0 (by omega) h2))
    have e : L.take n = L := List.take_of_length_le (by rw [hL.out]; omega)
    rw [e] at HC
    have HR := Lib.hid (zCy (hb.ee hw) n)
    rw [e] at HR
    clear e
    go_wp2
    go_ret
    exact ⟨L, by rw [hL.out]; rfl, HR.out, HC.out.rise, fun p => by rw [HC.out.mem p, List.take_of_length_le (by rw [hL.out]; omega)], zA9 hw _⟩
   case pos =>
    have l1 : q + 1 < L.length := hL.out ▸ hlt
    have l0 : q < L.length := by omega
    have hb1 := hb.ee hw
    obtain ⟨u0, u1, _, _⟩ := zGs hb1 l1
    obtain ⟨v0, v1, _, _⟩ := zGs hb1 l0
    have e1 : IntKind.i64.wrap (q : Int) = q := by rw [IntKind.wrap_i64]; omega
    have l2 : q < n := by omega
    by_cases hx : L[q + 1] = L[q]
    case neg =>
     have hp : peqI L[q + 1].x L[q + 1].y L[q].x L[q].y = false := by rw [← Bool.not_eq_true, zC7]; exact hx
     have HA := Lib.hid (show ∀ (i : Nat) (h0 : 0 < i) (_ : i < q + 1 + 1) (h2 : i < L.length), L[i] ≠ L[i - 1]'(by omega) from fun i h0 h1 h2 => by
      by_cases e : i = q + 1
      ·subst e; exact hx
      ·exact hap.out i h0 (by omega) h2)
     clear hx hap hb1
     go_wp2
     go_quiet (fail)
     have hw2 : Below w.heap.size w (wr.drewN nq) := hw.trans ⟨rfl, rfl, rfl, Nat.le_refl _, fun _ _ => rfl⟩
     go_wp2
     go_roundw
     case rel => exact ⟨q + 1, by go_num, by omega, HA, hw2⟩
     case measure => simp [intOf]; omega
    case pos =>
     have hp : peqI L[q + 1].x L[q + 1].y L[q].x L[q].y = true := zC7.2 hx
     have HC := Lib.hid (((Cpt.all wholeP ho.out (q + 1) (by omega) (by omega) (fun i h0 h1 h2 => hap.out i h0 h1 h2)).same (by omega) l1 (by simpa using hx)))
     have hsl : ∀ w', (Instr.slice 52 (.slice (some ⟨g, 0, none⟩) n cap) (some (.int .i64 ((q : Int) + 1))) none none).run Tryz.prog w' = .ok (.slice (some ⟨g, (q + 1) * 2, none⟩) (n - (q + 1)) (cap - (q + 1))) w' := fun w' => by
      have := zF2 (some ⟨g, 0, none⟩) n cap (q + 1) (by omega) w'
      rw [if_neg (by omega)] at this
      simpa [Addr.add_lit] using this
     obtain ⟨N2, hN2⟩ : ∃ N2, n - (q + 1) = N2 := ⟨_, rfl⟩
     obtain ⟨C2, hC2⟩ : ∃ C2, cap - (q + 1) = C2 := ⟨_, rfl⟩
     rw [hN2, hC2] at hsl
     have HN := Lib.hid hN2
     clear hN2 hC2 hx hap
     go_wp2
     go_quiet (fail)
     have hw2 : Below w.heap.size w (wr.drewN nq) := hw.trans ⟨rfl, rfl, rfl, Nat.le_refl _, fun _ _ => rfl⟩
     have hb2 := hb.ee hw2
     clear u0 u1 v0 v1 hp hb1
     go_wp2
     go_loopw [3, 5] (fun vk v2 wr => ∃ (k p : Nat) (S M : List Pt), vk = .int .i64 k ∧ v2 = .int .i64 ((p + 1 : Nat) : Int) ∧ p + 1 ≤ N2 ∧ 1 ≤ k ∧ Hid (Cpt cmpP L (q + 1 + (p + 1)) M) ∧ Hid (S.length = n) ∧ Hid (S.take k = M) ∧ Hid (M.length = k) ∧ k < q + 1 + (p + 1) ∧ Hid (∀ (j : Nat) (h1 : j < L.length) (h2 : j < S.length), q + 1 + (p + 1) ≤ j + 1 → S[j] = L[j]) ∧ Box wr g (S.flatMap cP ++ tl) 30 ∧ w.grownBy wr (some g)) (fun _ v2 _ => N2 - (intOf v2).toNat)
     case atStart => exact ⟨q + 1, 0, L, L.take (q + 1), rfl, rfl, by have := HN.out; omega, by omega, HC, hL, Lib.hid rfl, Lib.hid (by rw [List.length_take]; omega), by omega, Lib.hid (fun j h1 h2 _ => rfl), hb2, zA9 hw2 _⟩
     case round =>
      clear hb2 hw2 hw HC
      obtain ⟨k, p, S, M, rfl, rfl, hp2, hk1, hC, hS, hST, hMk, hkr, hSj, hbS, hg⟩ := hrel
      have hSl := hS.out
      have hnN := HN.out
      by_cases hlp : p + 1 < N2
      case neg =>
       have hr : q + 1 + (p + 1) = n := by omega
       have hkn : k < n := by omega
       have hkc : k < cap := by omega
       have HF := Lib.hid hC.out
       have hs2 : ∀ w', (Instr.slice 52 (.slice (some ⟨g, 0, none⟩) n cap) (some (.int .i64 (k : Int))) none none).run Tryz.prog w' = .ok (.slice (some ⟨g, k * 2, none⟩) (n - k) (cap - k)) w' := fun w' => by
        have := zF2 (some ⟨g, 0, none⟩) n cap k (by omega) w'
        rw [if_neg (by omega)] at this
        simpa [Addr.add_lit] using this
       have hs3 : ∀ w', (Instr.slice 52 (.slice (some ⟨g, 0, none⟩) n cap) none (some (.int .i64 (k : Int))) none).run Tryz.prog w' = .ok (.slice (some ⟨g, 0, none⟩) k cap) w' := fun w' => run_upto_pt _ n cap k (by omega) w'
       have hf := hbS.facts
       have hcl : ∀ ty, (Builtin.clear_ #[52] ty #[.slice (some ⟨g, k * 2, none⟩) (n - k) (cap - k)]).run Tryz.prog wr = .ok (.tuple #[]) (wr.setCells g (k * 2) (List.replicate ((n - k) * 2) (.int .i64 0))) := fun ty =>
        run_clear_pts wr ty g (k * 2) (n - k) (cap - k) (by omega) (fun j hj => by rw [hf.1, List.getElem?_append_left (by rw [zB8 zEb, hSl]; omega), List.getElem?_eq_getElem (by rw [zB8 zEb, hSl]; omega)]; rfl) (fun j hj => hf.2.1 _)
       have HR := Lib.hid (show RowAt cP 2 (wr.setCells g (k * 2) (List.replicate ((n - k) * 2) (.int .i64 0))) (some ⟨g, 0, none⟩) M by
        have h1 := zCy hbS k
        rw [hST.out] at h1
        intro j x hj
        obtain ⟨ad, e, _, h3⟩ := h1 j x hj
        cases e
        have hjl := (List.getElem?_eq_some_iff.1 hj).1
        refine ⟨_, rfl, by rw [zE2]; exact hbS.lt, fun i u hu => ?_⟩
        have hi : i < 2 := (List.getElem?_eq_some_iff.1 hu).1
        have h4 := h3 i u hu
        rw [Addr.add_lit, Addr.add_lit] at h4 ⊢
        rw [zE8 g _ _ _ _ (by have := hMk.out; omega)]
        exact h4)
       have HG := Lib.hid (show w.grownBy (wr.setCells g (k * 2) (List.replicate ((n - k) * 2) (.int .i64 0))) (some g) from zA8 hg (zC3 g _ _ _))
       clear hf hSl hnN hbS hg hC
       go_wp2
       go_ret
       exact ⟨M, by rw [hMk.out]; rfl, HR.out, HF.out.rise, fun x => by rw [HF.out.mem x, List.take_of_length_le (by rw [hL.out]; omega)], HG.out⟩
      case pos =>
       have hr : q + 1 + (p + 1) < n := by omega
       have lr : q + 1 + (p + 1) < L.length := hL.out ▸ hr
       have lr0 : q + 1 + p < L.length := by omega
       obtain ⟨u0, u1, _, _⟩ := zGs hbS (j := q + 1 + (p + 1)) (by omega)
       obtain ⟨v0, v1, _, _⟩ := zGs hbS (j := q + 1 + p) (by omega)
       rw [hSj.out _ lr (by omega) (by omega), show (q + 1 + (p + 1)) * 2 = (q + 1) * 2 + (p + 1) * 2 by omega] at u0 u1
       rw [hSj.out _ lr0 (by omega) (by omega), show (q + 1 + p) * 2 = (q + 1) * 2 + p * 2 by omega] at v0 v1
       obtain ⟨y0, y1, d0, d1, f0, f1⟩ : ∃ y0 y1, wr.cell? ⟨g, k * 2, none⟩ = some y0 ∧ wr.cell? ⟨g, k * 2 + 1, none⟩ = some y1 ∧ wr.frozen? ⟨g, k * 2, none⟩ = false ∧ wr.frozen? ⟨g, k * 2 + 1, none⟩ = false := ⟨_, _, zGs hbS (j := k) (by omega)⟩
       have e1 : IntKind.i64.wrap (p : Int) = p := by rw [IntKind.wrap_i64]; omega
       have l2 : p < N2 := by omega
       have hkn : k < n := by omega
       have HB := Lib.hid hbS
       have HG := Lib.hid hg
       have HSl := Lib.hid hSl
       by_cases hx : L[q + 1 + (p + 1)] = L[q + 1 + p]
       ·have hp : peqI L[q + 1 + (p + 1)].x L[q + 1 + (p + 1)].y L[q + 1 + p].x L[q + 1 + p].y = true := zC7.2 hx
        have HC := Lib.hid (hC.out.same (by omega) lr hx)
        have HJ := Lib.hid (show ∀ (j : Nat) (h1 : j < L.length) (h2 : j < S.length), q + 1 + (p + 1 + 1) ≤ j + 1 → S[j] = L[j] from fun j h1 h2 h3 => hSj.out j h1 h2 (by omega))
        generalize L[q + 1 + (p + 1)] = s1 at *
        generalize L[q + 1 + p] = s0 at *
        clear hx hSl hnN hbS hg hC hSj d0 d1 f0 f1
        go_wp2
        go_quiet (fail)
        have hdr : Below wr.heap.size wr (wr.drewN nq) := ⟨rfl, rfl, rfl, Nat.le_refl _, fun _ _ => rfl⟩
        go_wp2
        go_roundw
        case rel => exact ⟨k, p + 1, S, M, rfl, by go_num, by omega, by omega, HC, hS, hST, hMk, by omega, HJ, HB.out.ee hdr, zAa HG.out hdr⟩
        case measure => simp [intOf]; omega
       ·have hp : peqI L[q + 1 + (p + 1)].x L[q + 1 + (p + 1)].y L[q + 1 + p].x L[q + 1 + p].y = false := by rw [← Bool.not_eq_true, zC7]; exact hx
        have HC := Lib.hid (hC.out.next wholeP ho.out (by omega) lr hx)
        have HJ := Lib.hid (show ∀ (j : Nat) (h1 : j < L.length) (h2 : j < (S.set k L[q + 1 + (p + 1)]).length), q + 1 + (p + 1 + 1) ≤ j + 1 → (S.set k L[q + 1 + (p + 1)])[j] = L[j] from fun j h1 h2 h3 => by
         rw [List.getElem_set_ne (by omega)]
         exact hSj.out j h1 (by simpa using h2) (by omega))
        have HST := Lib.hid (show (S.set k L[q + 1 + (p + 1)]).take (k + 1) = M ++ [L[q + 1 + (p + 1)]] by
         rw [List.take_succ_eq_append_getElem (by simp; omega), List.take_set_of_le (Nat.le_refl _), hST.out, List.getElem_set_self])
        have HMk := Lib.hid (show (M ++ [L[q + 1 + (p + 1)]]).length = k + 1 by rw [List.length_append, hMk.out]; rfl)
        have HSS := Lib.hid (show (S.set k L[q + 1 + (p + 1)]).length = n by rw [List.length_set, hSl])
        generalize L[q + 1 + (p + 1)] = s1 at *
        generalize L[q + 1 + p] = s0 at *
        clear hx hSl hnN hbS hg hC hSj
        go_wp2
        go_quiet (fail)
        have hdr : Below wr.heap.size wr (wr.drewN nq) := ⟨rfl, rfl, rfl, Nat.le_refl _, fun _ _ => rfl⟩
        have HB2 := Lib.hid (box_put (HB.out.ee hdr) (j := k) (by have := HSl.out; omega) s1)
        have HG2 := Lib.hid (zA8 (zAa HG.out hdr) (zC3 g [.int .i64 s1.x, .int .i64 s1.y] (k * 2) (wr.drewN nq)))
        go_wp2
        go_roundw
        case rel => exact ⟨k + 1, p + 1, S.set k s1, M ++ [s1], by go_num, by go_num, by omega, by omega, HC, HSS, HST, HMk, by omega, HJ, HB2.out, HG2.out⟩
        case measure => simp [intOf]; omega
theorem append_ptO {w : World} {ops : Array Oper} {rest : List Oper} {o : Oper} {a : Act} {Q : Exit → Act → World → Prop} (hgd : o.guard = none) (s x : Operand)
    (ho : o.op = .call { callee := .builtin .append, args := #[s, x], argTypes := #[52, 52] })
    (B : Nat) (v : Value) (L : List Pt) (hs : a.eval s = v) (hown : w.ownsRow B 30 2 v L.length (L.flatMap cP))
    (bx : Nat) (p : Pt) (hx : a.eval x = .slice (some ⟨bx, 0, none⟩) 1 1) (hbx : Box w bx (cP p) 30) (hn : L.length ≤ 1000000) (hbase : B ≤ w.heap.size)
    (h : ∀ w' v', w'.ownsRow B 30 2 v' (L ++ [p]).length ((L ++ [p]).flatMap cP) → w.grownBy w' v.ownBlock → v' ≠ .slice none 0 0 → wpList Tryz.prog ops Q rest (a.put o.dst v') w') : wpList Tryz.prog ops Q (o :: rest) a w := by
 obtain ⟨i0, hi, hz0, hz1, hz2⟩ := info_parts zGj
 refine wpList_append_own w hgd s x 52 ho B 30 i0 _ 2 16 Tryz.underlying52 hi hz0 hz1 hz2 rfl (by decide) v L.length _ hs hown ⟨bx, 0, none⟩ 1 1 (cP p) hx rfl ?_ (cP_one p) ?_ ?_ hbase ?_
 ·intro j u hj
  have := hbx.facts.1 j
  rw [hj] at this
  rw [Addr.add_lit, Nat.zero_add]
  exact this
 ·unfold maxLen; omega
 ·omega
 ·intro v' w' hown' hg hnil
  refine h w' v' ?_ hg (fun e => by have := (hnil.1 e).2; omega)
  rw [List.length_append, List.length_singleton, List.flatMap_append]
  simpa using hown'
theorem box_of_row {w : World} {g : Nat} {cur : Array Value} {L : List Pt} (hb : w.heap[g]? = some (.cells cur 30 (0, 0))) (h : RowAt cP 2 w (some ⟨g, 0, none⟩) L) :
    ∃ tl, Box w g (L.flatMap cP ++ tl) 30 := by
 refine ⟨cur.toList.drop (L.length * 2), ?_⟩
 unfold Box
 rw [hb]
 have e : cur.toList.take (L.length * 2) = L.flatMap cP := by
  apply List.ext_getElem?
  intro t
  by_cases ht : t < L.length * 2
  ·have hj : t / 2 < L.length := by omega
   rw [List.getElem?_take_of_lt ht]
   have e2 := zB0 zEb L (t / 2) (t % 2) L[t / 2] (List.getElem?_eq_getElem hj) (by omega)
   rw [show t / 2 * 2 + t % 2 = t by omega] at e2
   rw [e2]
   obtain ⟨ad, e3, _, h3⟩ := h (t / 2) L[t / 2] (List.getElem?_eq_getElem hj)
   cases e3
   have hlt : t % 2 < (cP L[t / 2]).length := by rw [zEb]; omega
   have h4 := h3 (t % 2) _ (List.getElem?_eq_getElem hlt)
   rw [Addr.add_lit, Addr.add_lit] at h4
   simp only [World.cell?, hb, Option.isSome_none, Bool.false_eq_true, if_false] at h4
   rw [show 0 + t / 2 * 2 + t % 2 = t by omega] at h4
   rw [Array.getElem?_toList, h4, List.getElem?_eq_getElem hlt]
  ·rw [List.getElem?_eq_none (by rw [List.length_take]; omega), List.getElem?_eq_none (by rw [zB8 zEb]; omega)]
 rw [← e, List.take_append_drop]
theorem sortP_box (B : Nat) (g cap : Nat) (L : List Pt) (hL : L.length ≤ 3000000) (w : World) (h : w.ownsRow B 30 2 (.slice (some ⟨g, 0, none⟩) L.length cap) L.length (L.flatMap cP)) :
    Calls Tryz.prog 80 #[.slice (some ⟨g, 0, none⟩) L.length cap, .func (.func 81) #[] #[]] w fun e w' => e = .returned (.tuple #[]) ∧ w.grownBy w' (some g) ∧ ∃ tl, Box w' g ((srt cmpP L).flatMap cP ++ tl) 30 := by
 obtain ⟨hH, hg⟩ := zDi zEb h
 have hc := AnyQ.slices_SortFunc_total sortPt 2 Tryz.isAgg30 Tryz.sizeOf30 cP zEb cP_one cmpP wholeP.swo 81 #[] g 0 cap L.toArray w enterP (cmpLaysP g 0 _ w) hH hg (by simp; omega) wholeP.one
 change Calls Tryz.prog 80 _ _ _ at hc
 rw [show L.toArray.size = L.length by simp] at hc
 rcases h.2 with ⟨h0, _⟩ | ⟨g', cap', cur, h0, hB, hb, h1, h2, h3, h4⟩
 ·cases h0
 ·simp only [Value.slice.injEq, Option.some.injEq, Addr.mk.injEq, and_true, true_and] at h0
  obtain ⟨e1, e3⟩ := h0
  subst e1 e3
  refine hc.mono fun e w' ⟨he, n, os, hw⟩ => ⟨he, ?_, ?_⟩
  ·rw [hw]; exact zBt _
  ·have hr := zCt (L := srt cmpP L) zEb (zEp (n := n) (os := os) (d' := (srt cmpP L).toArray) hH hg (by simp [srt])) (Nat.lt_of_lt_of_le hg (zBt (c := cP) (k := 2) _).size)
   have hbl : w'.heap[g]? = some (.cells (putCells id 0 (flatK cP 2 (srt cmpP L).toArray) cur) 30 (0, 0)) := by
    rw [hw]
    show (grow (putRow id (Sort.ahead w n) g 0 (flatK cP 2 (srt cmpP L).toArray)) os).heap[g]? = _
    rw [heap_grow_old _ _ (by simpa using hg)]
    simp [putRow, mapBlock, Sort.ahead, Array.getElem?_modify, hb, onCells]
   rw [hw] at hbl ⊢
   exact box_of_row hbl hr
def froms (E : Es) : List Pt := E.map fun e => e.1.1
theorem mpoints_any (mb b : Nat) (E : Es) (hE : E.length ≤ 1000000) (w : World) (Bm : Box w mb [.map (some b)] 89) (Hm : HoldsMap eW eT okW w b E) :
    Calls Tryz.prog 42 #[.pointer (some ⟨mb, 0, none⟩)] w fun e w' => ∃ (M : List Pt) (a : Option Addr) (cap : Nat), e = .returned (.slice a M.length cap) ∧ RowAt cP 2 w' a M ∧ Rising cmpP M ∧ (∀ p, p ∈ M ↔ p ∈ froms E) ∧ Below w.heap.size w w' := by
 obtain ⟨i0, hi, hz0, hz1, hz2⟩ := info_parts zGj
 have Fm := Bm.facts
 go_enter Tryz.func42, Tryz.ntmps42
 go_wp2_with (first | (at_len; refine zEw _ rfl _ rfl kvM rfl Hm ?_) | (at_make; refine wpList_make_own _ rfl _ _ 52 rfl w.heap.size 30 i0 _ 2 Tryz.underlying52 hi hz0 hz1 .i64 .i64 _ E.length rfl rfl rfl (by rw [hz2]; omega) (by unfold maxLen; omega) (Nat.le_refl _) ?_; intro w0 own0 hg0; have Bm0 := Bm.ext (zC5 hg0) rfl; have Fn := Bm0.facts) | (at_range; refine zB4 _ rfl _ rfl kvM rfl (Hm.ext (zC5 hg0) rfl) ?_))
 intro w1 HR0 hw1 _
 have hw01 := (zC5 hg0).trans (hw1.mono hg0.size)
 have own1 := own0.kept (zA9 hw1 none) (.inr (by simp [Value.ownBlock]))
 have hr0 := Lib.hid hg0.size
 clear Fm Fn Bm0 own0 hw1 hg0
 go_wp2
 go_loopw [3] (fun v wr => ∃ D R : Es, Hid ((D ++ R).Perm E) ∧ Hid (v ≠ .slice none 0 0) ∧ wr.ownsRow w.heap.size 30 2 v (froms D).length ((froms D).flatMap cP) ∧ Ranging eW eT okW wr b w0.heap.size E R ∧ Below w.heap.size w wr) (fun _ wr => wr.rangeLeft b w0.heap.size)
 case atStart => exact ⟨[], E, Lib.hid (by simp), Lib.hid (by simp), own1, HR0, hw01⟩
 case round =>
  clear HR0 hw01 own1
  obtain ⟨D, R, hD, hnn, hown, HR, hw⟩ := hrel
  go_wp2_with (at_next; refine zBf _ rfl _ rfl rfl HR ?_ ?_)
  ·intro hR
   subst hR
   have hp0 : (froms D).Perm (froms E) := List.Perm.map _ (by simpa using hD.out : D.Perm E)
   have hle : (froms D).length ≤ 1000000 := by rw [hp0.length_eq]; unfold froms; rw [List.length_map]; exact hE
   have hown2 := hown.2
   rcases hown2 with ⟨e0, _⟩ | ⟨g, cap, cur, rfl, hB, hb, h1, h2, h3, h4⟩
   ·exact absurd e0 hnn.out
   ·have HS := Lib.hid (zAn (c := cmpP) (froms D))
    have HO := Lib.hid (wholeP.srt_order (froms D))
    have HL := Lib.hid hp0
    clear hp0 hb h3 h4
    go_wp2_with fail
    refine (sortP_box _ _ _ _ (by omega) _ hown).mono ?_
    rintro e w2 ⟨rfl, hg2, tl, hbx⟩
    have hw2 := hw.grown hg2 hw.size (fun k hk => by cases hk; exact hB)
    go_wp2_with fail
    refine (compact_any g cap (froms D).length (srt cmpP (froms D)) tl (Lib.hid HS.out.length_eq) hle h1 h2 HO _ hbx).mono ?_
    rintro e w3 ⟨M, rfl, hr, hri, hm, hg3⟩
    go_wp2
    go_ret
    exact ⟨M, _, cap, rfl, hr, hri, fun p => by rw [hm p, HS.out.mem_iff, HL.out.mem_iff], hw2.grown hg3 hw2.size (fun k hk => by cases hk; exact hB)⟩
  ·intro u x T R' w2 hperm HR1 hg1 hs1 hen
   have hD2 := Lib.hid (show ((D ++ [((u, x), T)]) ++ R').Perm E by have := (hperm.append_left D).symm.trans hD.out; simpa using this)
   have own2 := hown.kept hg1 (.inr (fun e => zAt hown HR e.symm))
   have hw2 := hw.grown hg1 hw.size (fun k hk => by cases hk; exact hr0.out)
   have HL := Lib.hid (show w2.rangeLeft b w0.heap.size < wr.rangeLeft b w0.heap.size by rw [zAf HR1, zAf HR, hperm.length_eq]; simp)
   have hen2 : (Instr.entry (.pointer (some ⟨w0.heap.size, 0, none⟩))).run Tryz.prog w2 = .ok (.tuple #[.agg #[.int .i64 u.x, .int .i64 u.y, .int .i64 x.x, .int .i64 x.y], .agg #[.int .i64 T.A.x, .int .i64 T.A.y, .int .i64 T.B.x, .int .i64 T.B.y, .int .i64 T.C.x, .int .i64 T.C.y]]) w2 := hen
   have hle : (froms D).length ≤ 1000000 := by have := hD2.out.length_eq; unfold froms; simp at *; omega
   have HH := Lib.hid (show froms (D ++ [((u, x), T)]) = froms D ++ [u] by unfold froms; rw [List.map_append]; rfl)
   have HB := Lib.hid hw2.size
   have hb3 : Below w2.heap.size w2 (w2.alloc (.cells #[.int .i64 u.x, .int .i64 u.y, .int .i64 x.x, .int .i64 x.y] 113)) := by go_grown
   have own3 := own2.alloc (.cells #[.int .i64 u.x, .int .i64 u.y, .int .i64 x.x, .int .i64 x.y] 113)
   have HO3 := Lib.hid own3
   clear hown HR hg1 hs1 hen hperm hw own2
   go_wp2_with (at_builtin; refine append_ptO rfl _ _ rfl w.heap.size _ (froms D) rfl (own3.alloc _) (w2.heap.size + 1) u rfl (Box.new (by simp)) hle (by have := HB.out; simp; omega) ?_; intro w4 v4 hown4 hg4 hn4)
   have hR3 := (HR1.ee hb3).kept (World.grownBy_alloc _ (.cells (cP u).toArray 30) none) (by simp) (by simp)
   have hR4 := hR3.kept hg4 (zBw (own3.alloc _) hR3.holds) (zAt (own3.alloc _) hR3)
   have hw4 := ((((upB hw2 hb3)).alloc (by have := HB.out; simp; omega) (.cells (cP u).toArray 30))).grown hg4 (by have := HB.out; simp; omega) (fun k hk => ((own3.alloc (.cells (cP u).toArray 30)).lt k hk).1)
   go_roundw
   case rel => exact ⟨D ++ [((u, x), T)], R', hD2, Lib.hid hn4, by rw [HH.out]; exact hown4, hR4, hw4⟩
   case measure => rw [zAf hR4, ← zAf HR1]; exact HL.out
end Go.Proofs.YtmobnmjjmafibaaGreat
namespace Go.Proofs.YtmobnmjjmafibaaGreat
open Go.RowKit
def wys (T : Tri3) : Es := [((T.A, T.B), T), ((T.B, T.C), T), ((T.C, T.A), T)]
theorem zEc {T : Tri3} (h : valT T = true) : T.A ≠ T.B ∧ T.B ≠ T.C ∧ T.C ≠ T.A := by
 unfold valT at h
 simp only [Bool.and_eq_true, Bool.not_eq_true', decide_eq_false_iff_not] at h
 have h0 := h.1
 refine ⟨fun e => h0 ?_, fun e => h0 ?_, fun e => h0 ?_⟩
 ·rw [e]; unfold ori det; simp [sgn]
 ·rw [e]; unfold ori det; rw [Int.mul_comm (T.C.x - T.A.x)]; simp [sgn]
 ·rw [e]; unfold ori det; simp [sgn]
theorem zGn {E : Es} {T : Tri3} (h : fitsE E T = true) : getE E (T.A, T.B) = none ∧ getE E (T.B, T.C) = none ∧ getE E (T.C, T.A) = none ∧ valT T = true := by
 unfold fitsE at h
 simpa only [Bool.and_eq_true, Option.isNone_iff_eq_none] using h
theorem putT_eq {E : Es} {T : Tri3} (h : fitsE E T = true) : (putT E T).Perm (E ++ wys T) := by
 obtain ⟨h1, h2, h3, hv⟩ := zGn h
 obtain ⟨a1, a2, a3⟩ := zEc hv
 rw [zE7] at h1 h2 h3
 unfold putT putE wys
 rw [zDn h1, zDn (x := (T.B, T.C)) (E := ((T.A, T.B), T) :: E) (fun p hp => by
  rcases List.mem_cons.1 hp with rfl | hp
  ·intro e; simp at e; exact a1 e.1
  ·exact h2 p hp), zDn (x := (T.C, T.A)) (E := ((T.B, T.C), T) :: ((T.A, T.B), T) :: E) (fun p hp => by
  rcases List.mem_cons.1 hp with rfl | hp
  ·intro e; simp at e; exact a2 e.1
  ·rcases List.mem_cons.1 hp with rfl | hp
   ·intro e; simp at e; exact a3 e.1.symm
   ·exact h3 p hp)]
 refine List.Perm.trans ?_ (List.perm_append_comm (l₁ := [((T.A, T.B), T), ((T.B, T.C), T), ((T.C, T.A), T)]))
 exact (List.reverse_perm [((T.A, T.B), T), ((T.B, T.C), T), ((T.C, T.A), T)]).append_right E
structure Good (E : Es) (L : List Tri3) : Prop where
 perm : E.Perm (L.flatMap wys)
 nodup : KeysNodup E
 val : ∀ T ∈ L, valT T = true
theorem zHi : ∀ (L : List Tri3), (∀ T ∈ L, valT T = true) → heads yes (L.flatMap wys) = L
 | [], _ => rfl
 | T :: L, h => by
  obtain ⟨a1, a2, a3⟩ := zEc (h T (by simp))
  rw [List.flatMap_cons, zAr, zHi L (fun S hS => h S (by simp [hS]))]
  have : heads yes (wys T) = [T] := by
   unfold heads wys yes
   simp [Ne.symm a1, a3]
  rw [this]; rfl
theorem Good.heads {E : Es} {L : List Tri3} (h : Good E L) : (heads yes E).Perm L := by
 have := zCg (p := yes) h.perm
 rwa [zHi L h.val] at this
theorem zJ8 : ∀ L : List Tri3, (L.flatMap wys).length = 3 * L.length
 | [] => rfl
 | T :: L => by rw [List.flatMap_cons, List.length_append, zJ8 L, List.length_cons]; simp [wys]; omega
theorem Good.len {E : Es} {L : List Tri3} (h : Good E L) : E.length = 3 * L.length := by rw [h.perm.length_eq, zJ8]
theorem zHk : ∀ L : List Tri3, froms (L.flatMap wys) = cnrs L
 | [] => rfl
 | T :: L => by
  have ih := zHk L
  unfold froms cnrs at *
  rw [List.flatMap_cons, List.map_append, ih, List.flatMap_cons]; rfl
theorem Good.froms {E : Es} {L S : List Tri3} (h : Good E L) (hS : S.Perm L) (p : Pt) : p ∈ froms E ↔ p ∈ cnrs S := by
 have h1 : (Go.Proofs.YtmobnmjjmafibaaGreat.froms E).Perm (cnrs L) := by
  rw [← zHk L]; exact h.perm.map _
 rw [h1.mem_iff]
 unfold cnrs
 exact (hS.flatMap_right _).mem_iff.symm
theorem Good.left {E : Es} {L : List Tri3} (h : Good E L) {T : Tri3} (hT : T ∈ L) {i : Int} (hi : i = 0 ∨ i = 1 ∨ i = 2) : lftE E (crn T i) (crn T (i + 1)) = (T, true) := by
 refine zBk (zFw h.nodup (h.perm.mem_iff.2 (List.mem_flatMap.2 ⟨T, hT, ?_⟩)))
 rcases hi with rfl | rfl | rfl <;> simp [wys, crn, plc]
end Go.Proofs.YtmobnmjjmafibaaGreat
