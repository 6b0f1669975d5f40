/- Put together: TrE, TrM, Ord, RowK, Wal, WalB, Shelf, WalC, WalD, Rise, WalM, WalF, WalG, DocA, CdtC, MesH, MesI, Sort, MesJ, MesK, Sub, Mrg. -/
import Derived.Test.YtmobnmjjmafibaaGreatRows
import Derived.Test.YtmobnmjjmafibaaGreatPub4
import Derived.Test.YtmobnmjjmafibaaGreatPub0
import Derived.WalkKit
import Derived.WalkSpells
import Derived.WalkLawsBesides
import Derived.Laws.Externs
import Derived.Deep.QuietTactic
import Derived.BigQuiet
import Derived.Lib.Hide
import Derived.Handy
import Derived.Test.YtmobnmjjmafibaaGreatPub3
import Derived.Shelf.SlSortCmp.NoneTotal
import Derived.Laws.AppendOwn
import Derived.BigCall
import Derived.Test.YtmobnmjjmafibaaGreatPub1
import Derived.LoopN
import Derived.RegionTactic
import Derived.Shelf.SlicesQ.IndexFunc
import Derived.Shelf.SlicesE.Clone
import Derived.Ground.SlsfProg
import Derived.Ground.SlgfProg
import Derived.Ground.SlgnProg
import Derived.Test.YtmobnmjjmafibaaGreatProg
import Derived.OwnWalk
import Derived.Test.YtmobnmjjmafibaaGreatPub2
import Derived.Carry
import Derived.Maps.RangeWalk
import Derived.Deep.Slices
set_option maxRecDepth 100000
set_option maxHeartbeats 8000000
namespace Go.Proofs.YtmobnmjjmafibaaGreat
open Go.RowKit Go.Sort
attribute [local go_sem] rOper rAt rUpon cell_set sg_i64 sg_u64 alloc_cell alloc_frozen
attribute [local go_sem 10000] pt_eql pt_neq
attribute [local irreducible] rWalk
theorem zJz {p q : Pt} : leq p q = true ↔ p.x < q.x ∨ (p.x = q.x ∧ p.y ≤ q.y) := by
 unfold leq cmpP cmpN sgn
 rw [decide_eq_true_eq]
 (repeat' split) <;> omega
theorem zK0 {T : Tri3} : lds T = true ↔ (T.A.x < T.B.x ∨ (T.A.x = T.B.x ∧ T.A.y ≤ T.B.y)) ∧ (T.A.x < T.C.x ∨ (T.A.x = T.C.x ∧ T.A.y ≤ T.C.y)) := by
 unfold lds; rw [Bool.and_eq_true, zJz, zJz]
theorem lead_some (a b c : Pt) (h1 : lds ⟨a, b, c⟩ = false) (h2 : lds ⟨b, c, a⟩ = false) : lds ⟨c, a, b⟩ = true := by
 rw [← Bool.not_eq_true, zK0] at h1 h2
 rw [zK0]
 simp only at h1 h2 ⊢
 omega
theorem zJu {x y z : Pt} (hx : vld x = true) (hy : vld y = true) (hz : vld z = true) (n1 : key x ≠ key y) (n2 : key x ≠ key z) (n3 : key y ≠ key z) : mkT y z x = mkT x y z := by
 rcases zDl hx hy hz n1 n2 n3 with ⟨u1, u2, e⟩ | ⟨u1, u2, e⟩ | ⟨u1, u2, e⟩ <;> rcases zDl hy hz hx n3 n1.symm n2.symm with ⟨v1, v2, f⟩ | ⟨v1, v2, f⟩ | ⟨v1, v2, f⟩ <;> first | (exfalso; omega) | rw [e, f]
theorem zHu {a b c : Pt} (h : ori a b c = 0) : mk a b c = ⟨⟨0, 0⟩, ⟨0, 0⟩, ⟨0, 0⟩⟩ := by unfold mk; rw [if_pos h]
theorem zIw {a b c : Pt} (h0 : ¬ ori a b c = 0) : vld a = true ∧ vld b = true ∧ vld c = true ∧ key a ≠ key b ∧ key a ≠ key c ∧ key b ≠ key c := by
 obtain ⟨va, vb, vc⟩ := zCc h0
 obtain ⟨d1, d2, d3⟩ := zB6 h0
 exact ⟨va, vb, vc, fun h => d1 (zBj va vb h).symm, fun h => d2 (zBj va vc h).symm, fun h => d3 (zBj vb vc h).symm⟩
theorem zJl (a b c : Pt) : mk b c a = mk a b c := by
 by_cases h0 : ori a b c = 0
 ·rw [zHu h0, zHu (by rw [zB8]; exact h0)]
 ·obtain ⟨va, vb, vc, n1, n2, n3⟩ := zIw h0
  unfold mk
  rw [zB8, if_neg h0, if_neg h0, zJu va vb vc n1 n2 n3, zJu vb va vc n1.symm n3 n2]
theorem mk_swap (a b c : Pt) : mk a c b = mk a b c := by
 have hb := zBz a b c
 unfold mk
 rw [zDj]
 by_cases h0 : ori a b c = 0
 ·simp [h0]
 ·rw [if_neg h0, if_neg (by omega)]
  by_cases h1 : ori a b c = 1
  ·rw [if_pos h1, if_neg (by omega)]
  ·rw [if_neg h1, if_pos (by omega)]
theorem val_mk {x y z : Pt} (h : valT ⟨x, y, z⟩ = true) : mk x y z = ⟨x, y, z⟩ := by
 unfold valT at h
 simp only [Bool.and_eq_true, zFa] at h
 exact h.2
theorem val_of {x y z : Pt} (ho : 0 < ori x y z) (hl : lds ⟨x, y, z⟩ = true) : valT ⟨x, y, z⟩ = true := by
 rw [zHb]; unfold valS; simp [ho, hl]
theorem val_none {x y z : Pt} (ho : ori x y z = 0) : valT ⟨x, y, z⟩ = false := by
 rw [zHb]; unfold valS; simp [ho]
theorem lds_swap {x y z : Pt} (hl : lds ⟨x, y, z⟩ = true) : lds ⟨x, z, y⟩ = true := by
 unfold lds at hl ⊢; simp only at hl ⊢; rw [Bool.and_comm]; exact hl
theorem ori_swap2' (x y z : Pt) : ori x z y = -ori x y z := zDj x y z
theorem zEn (a b c : Pt) (w : World) :
    Calls Tryz.prog 78 #[.agg #[.int .i64 a.x, .int .i64 a.y], .agg #[.int .i64 b.x, .int .i64 b.y], .agg #[.int .i64 c.x, .int .i64 c.y]] w fun e w' => e = .returned (.tuple #[.agg #[.int .i64 (mk a b c).A.x, .int .i64 (mk a b c).A.y, .int .i64 (mk a b c).B.x, .int .i64 (mk a b c).B.y, .int .i64 (mk a b c).C.x, .int .i64 (mk a b c).C.y], .bool (!decide (ori a b c = 0))]) ∧ Below w.heap.size w w' := by
 have main : ∀ {x y z : Pt}, ori x y z = ori a b c → mk x y z = mk a b c → lds ⟨x, y, z⟩ = true →
     (ori x y z = 0 ∧ decide (ori x y z < 0) = false ∧ valT ⟨x, y, z⟩ = false ∧ mk a b c = ⟨⟨0, 0⟩, ⟨0, 0⟩, ⟨0, 0⟩⟩ ∧ (!decide (ori a b c = 0)) = false) ∨
     (decide (ori x y z < 0) = false ∧ valT ⟨x, y, z⟩ = true ∧ mk a b c = ⟨x, y, z⟩ ∧ (!decide (ori a b c = 0)) = true) ∨
     (decide (ori x y z < 0) = true ∧ valT ⟨x, z, y⟩ = true ∧ mk a b c = ⟨x, z, y⟩ ∧ (!decide (ori a b c = 0)) = true) := by
  intro x y z e1 e2 hl
  by_cases h0 : ori x y z = 0
  ·left
   exact ⟨h0, by simp [h0], val_none h0, by rw [← e2]; exact zHu h0, by rw [← e1]; simp [h0]⟩
  ·right
   by_cases h1 : ori x y z < 0
   ·right
    have hv : valT ⟨x, z, y⟩ = true := val_of (by rw [ori_swap2']; omega) (lds_swap hl)
    exact ⟨by simp [h1], hv, by rw [← e2, ← mk_swap]; exact val_mk hv, by rw [← e1]; simp [h0]⟩
   ·left
    have hv : valT ⟨x, y, z⟩ = true := val_of (by omega) hl
    exact ⟨by simp; omega, hv, by rw [← e2]; exact val_mk hv, by rw [← e1]; simp [h0]⟩
 cases l0 : lds ⟨a, b, c⟩ with
 | true =>
  rcases main (x := a) (y := b) (z := c) rfl rfl l0 with ⟨_, p, q, e, f⟩ | ⟨p, q, e, f⟩ | ⟨p, q, e, f⟩ <;> rw [e, f]
  ·exact tmake_z0 a b c l0 p q w
  ·exact tmake_p0 a b c l0 p q w
  ·exact tmake_n0 a b c l0 p q w
 | false => cases l1 : lds ⟨b, c, a⟩ with
  | true =>
   rcases main (x := b) (y := c) (z := a) (zB8 a b c) (zJl a b c) l1 with ⟨_, p, q, e, f⟩ | ⟨p, q, e, f⟩ | ⟨p, q, e, f⟩ <;> rw [e, f]
   ·exact tmake_z1 a b c l0 l1 p q w
   ·exact tmake_p1 a b c l0 l1 p q w
   ·exact tmake_n1 a b c l0 l1 p q w
  | false =>
   have l2 := lead_some a b c l0 l1
   rcases main (x := c) (y := a) (z := b) (by rw [zB8, zB8]) (by rw [zJl, zJl]) l2 with ⟨_, p, q, e, f⟩ | ⟨p, q, e, f⟩ | ⟨p, q, e, f⟩ <;> rw [e, f]
   ·exact tmake_z2 a b c l0 l1 l2 p q w
   ·exact tmake_p2 a b c l0 l1 l2 p q w
   ·exact tmake_n2 a b c l0 l1 l2 p q w
end Go.Proofs.YtmobnmjjmafibaaGreat
namespace Go.Proofs.YtmobnmjjmafibaaGreat
open Go.RowKit
theorem mk_ok {a b c : Pt} (h0 : ¬ ori a b c = 0) : valT (mk a b c) = true ∧
    (mk a b c = ⟨a, b, c⟩ ∨ mk a b c = ⟨b, c, a⟩ ∨ mk a b c = ⟨c, a, b⟩ ∨ mk a b c = ⟨a, c, b⟩ ∨ mk a b c = ⟨c, b, a⟩ ∨ mk a b c = ⟨b, a, c⟩) := by
 obtain ⟨va, vb, vc, n1, n2, n3⟩ := zIw h0
 have hb := zBz a b c
 rw [zHb]; unfold valS lds
 by_cases h1 : ori a b c = 1
 ·have e0 : mk a b c = mkT a b c := by unfold mk; rw [if_neg h0, if_pos h1]
  rw [e0]
  rcases zDl va vb vc n1 n2 n3 with ⟨x1, x2, e⟩ | ⟨x1, x2, e⟩ | ⟨x1, x2, e⟩ <;> rw [e] <;> simp only
  ·rw [zBm va vb, zBm va vc]; refine ⟨?_, by simp⟩; simp only [Bool.and_eq_true, decide_eq_true_eq]; omega
  ·rw [zB8, zBm vb vc, zBm vb va]; refine ⟨?_, by simp⟩; simp only [Bool.and_eq_true, decide_eq_true_eq]; omega
  ·rw [zB8, zB8, zBm vc va, zBm vc vb]; refine ⟨?_, by simp⟩; simp only [Bool.and_eq_true, decide_eq_true_eq]; omega
 ·have e0 : mk a b c = mkT a c b := by unfold mk; rw [if_neg h0, if_neg h1]
  have h2 : ori a c b = 1 := by rw [zDj]; omega
  rw [e0]
  rcases zDl va vc vb n2 n1 n3.symm with ⟨x1, x2, e⟩ | ⟨x1, x2, e⟩ | ⟨x1, x2, e⟩ <;> rw [e] <;> simp only
  ·rw [zBm va vb, zBm va vc]; refine ⟨?_, by simp⟩; simp only [Bool.and_eq_true, decide_eq_true_eq]; omega
  ·rw [zB8, zBm vc vb, zBm vc va]; refine ⟨?_, by simp⟩; simp only [Bool.and_eq_true, decide_eq_true_eq]; omega
  ·rw [zB8, zB8, zBm vb va, zBm vb vc]; refine ⟨?_, by simp⟩; simp only [Bool.and_eq_true, decide_eq_true_eq]; omega
theorem zDe {T : Tri3} (h : valT T = true) : vld T.A = true ∧ vld T.B = true ∧ vld T.C = true ∧ 0 < det T.A T.B T.C := by
 obtain ⟨va, vb, vc⟩ := valT_vld h
 rw [zHb] at h
 unfold valS at h
 simp only [Bool.and_eq_true, decide_eq_true_eq] at h
 have h1 := h.1
 rw [ori_v va vb vc] at h1
 have := zAg (det T.A T.B T.C)
 exact ⟨va, vb, vc, by omega⟩
theorem zEh (a b c p : Pt) : det a b p + det b c p + det c a p = det a b c := by unfold det; grind
theorem corner0 {a b c : Pt} (p : Pt) (hD : 0 < det a b c) : p = a ↔ det a b p = 0 ∧ det c a p = 0 := by
 constructor
 ·intro h; subst h; constructor <;> (unfold det; grind)
 ·intro ⟨h1, h2⟩
  have e1 : det a b c * (p.x - a.x) = det c a p * (b.x - a.x) + det a b p * (c.x - a.x) := by unfold det; grind
  have e2 : det a b c * (p.y - a.y) = det c a p * (b.y - a.y) + det a b p * (c.y - a.y) := by unfold det; grind
  rw [h1, h2] at e1 e2
  simp only [Int.zero_mul, Int.add_zero] at e1 e2
  rw [Pt.eq_iff]
  rcases Int.mul_eq_zero.1 e1 with h | h
  ·omega
  ·rcases Int.mul_eq_zero.1 e2 with h' | h'
   ·omega
   ·omega
theorem zH6 {a b c : Pt} (ha : vld a = true) (hb : vld b = true) (hc : vld c = true) : -562949886312450 ≤ det a b c ∧ det a b c ≤ 562949886312450 := by
 have := cr_bd (zEk ha hb) (zEk ha hc)
 exact this
theorem zKc {a b p : Pt} (va : vld a = true) (vb : vld b = true) (vp : vld p = true) : (0 < ori a b p ↔ 0 < det a b p) ∧ (0 ≤ ori a b p ↔ 0 ≤ det a b p) ∧ (ori a b p = 0 ↔ det a b p = 0) := by
 rw [ori_v va vb vp]
 have := zAg (det a b p)
 omega
end Go.Proofs.YtmobnmjjmafibaaGreat
namespace Go.Proofs.YtmobnmjjmafibaaGreat
open Go.RowKit Go.Sort
theorem zF5 (p q : Pt) : cmpP q p = -cmpP p q := by
 unfold cmpP cmpN sgn; (repeat' split) <;> omega
theorem zCq {p q : Pt} : cmpP p q = 0 ↔ p = q := by
 rw [Pt.eq_iff]; unfold cmpP cmpN sgn; (repeat' split) <;> omega
theorem cmpP_lt {p q : Pt} : cmpP p q < 0 ↔ p.x < q.x ∨ (p.x = q.x ∧ p.y < q.y) := by
 unfold cmpP cmpN sgn; (repeat' split) <;> omega
theorem zDw {p q r : Pt} (h1 : cmpP p q < 0) (h2 : cmpP q r < 0) : cmpP p r < 0 := by
 rw [cmpP_lt] at *; omega
theorem zJd (S T : Tri3) : cmpT T S = -cmpT S T := by
 unfold cmpT; rw [zF5 S.A T.A, zF5 S.B T.B, zF5 S.C T.C]; (repeat' split) <;> omega
theorem cmpT_eq0 {S T : Tri3} : cmpT S T = 0 ↔ S = T := by
 rw [Tri3.eq_iff, ← zCq, ← zCq (p := S.B), ← zCq (p := S.C)]
 unfold cmpT; (repeat' split) <;> omega
theorem cmpT_lt {S T : Tri3} : cmpT S T < 0 ↔ cmpP S.A T.A < 0 ∨ (S.A = T.A ∧ (cmpP S.B T.B < 0 ∨ (S.B = T.B ∧ cmpP S.C T.C < 0))) := by
 rw [← zCq (p := S.A), ← zCq (p := S.B)]
 unfold cmpT; (repeat' split) <;> omega
theorem cmpT_trans {S T U : Tri3} (h1 : cmpT S T < 0) (h2 : cmpT T U < 0) : cmpT S U < 0 := by
 rw [cmpT_lt] at *
 rcases h1 with h1 | ⟨e1, h1⟩ <;> rcases h2 with h2 | ⟨e2, h2⟩
 ·exact .inl (zDw h1 h2)
 ·exact .inl (e2 ▸ h1)
 ·exact .inl (e1 ▸ h2)
 ·refine .inr ⟨e1.trans e2, ?_⟩
  rcases h1 with h1 | ⟨f1, h1⟩ <;> rcases h2 with h2 | ⟨f2, h2⟩
  ·exact .inl (zDw h1 h2)
  ·exact .inl (f2 ▸ h1)
  ·exact .inl (f1 ▸ h2)
  ·exact .inr ⟨f1.trans f2, zDw h1 h2⟩
structure Whole {α : Type} (c : α → α → Int) : Prop where
 neg : ∀ x y, c y x = -c x y
 eq0 : ∀ {x y}, c x y = 0 ↔ x = y
 trans : ∀ {x y z}, c x y < 0 → c y z < 0 → c x z < 0
theorem wholeP : Whole cmpP := ⟨zF5, zCq, zDw⟩
theorem wholeT : Whole cmpT := ⟨zJd, cmpT_eq0, cmpT_trans⟩
section
variable {α : Type} {c : α → α → Int}
theorem Whole.swo (W : Whole c) : SWO (ltOf c) where
 irrefl x := by unfold ltOf; have := (W.eq0 (x := x) (y := x)).2 rfl; simp; omega
 trans x y z h1 h2 := by unfold ltOf at *; simp at *; exact W.trans h1 h2
 ntrans x y z h1 h2 := by
  unfold ltOf at *; simp at *
  rcases Int.lt_or_le (c x z) 0 with h | h
  ·exfalso
   have n1 := W.neg x y
   have n2 := W.neg y z
   rcases Int.lt_or_eq_of_le h1 with g1 | g1
   ·have := W.trans (x := y) (y := x) (z := z) (by omega) h
    omega
   ·have e := W.eq0.1 g1.symm
    subst e; omega
  ·exact h
theorem Whole.one (W : Whole c) : ∀ x y, ltOf c x y = false → ltOf c y x = false → x = y := fun x y h1 h2 => by
 unfold ltOf at *
 simp at h1 h2
 rw [W.neg x y] at h2
 exact W.eq0.1 (by omega)
def srt (c : α → α → Int) (L : List α) : List α := L.mergeSort fun x y => !(ltOf c) y x
def InOrder (c : α → α → Int) (L : List α) : Prop := L.Pairwise fun x y => c x y ≤ 0
theorem zAp (L : List α) : (srt c L).Perm L := List.mergeSort_perm _ _
theorem Whole.le_trans (W : Whole c) {x y z : α} (h1 : c x y ≤ 0) (h2 : c y z ≤ 0) : c x z ≤ 0 := by
 rcases Int.lt_or_eq_of_le h1 with g1 | g1
 ·rcases Int.lt_or_eq_of_le h2 with g2 | g2
  ·have := W.trans g1 g2; omega
  ·have e := W.eq0.1 g2; subst e; exact h1
 ·have e := W.eq0.1 g1; subst e; exact h2
theorem Whole.srt_order (W : Whole c) (L : List α) : InOrder c (srt c L) := by
 have h := List.pairwise_mergeSort (le := fun x y => !(ltOf c) y x) (fun a b d h1 h2 => by
  unfold ltOf at *
  simp at *
  have n1 := W.neg a b
  have n2 := W.neg b d
  have n3 := W.neg a d
  have := W.le_trans (x := a) (y := b) (z := d) (by omega) (by omega)
  omega) (fun a b => by
  unfold ltOf
  have := W.neg a b
  simp
  omega) L
 refine h.imp fun {a b} h1 => ?_
 unfold ltOf at h1
 simp at h1
 have := W.neg a b
 omega
theorem Whole.unique (W : Whole c) : ∀ {L M : List α}, L.Perm M → InOrder c L → InOrder c M → L = M
 | [], M, hp, _, _ => by rw [List.nil_perm.1 hp]
 | x :: L, M, hp, h1, h2 => by
  cases M with
  | nil => exact absurd hp.length_eq (by simp)
  | cons y M =>
   unfold InOrder at *
   rw [List.pairwise_cons] at h1 h2
   have e : x = y := by
    rcases List.mem_cons.1 (hp.mem_iff.1 (List.mem_cons_self)) with e | hx
    ·exact e
    ·rcases List.mem_cons.1 (hp.mem_iff.2 (List.mem_cons_self)) with e | hy
     ·exact e.symm
     ·have a1 := h1.1 y hy
      have a2 := h2.1 x hx
      have := W.neg x y
      exact W.eq0.1 (by omega)
   subst e
   rw [Whole.unique W (hp.cons_inv) h1.2 h2.2]
theorem Whole.srt_eq (W : Whole c) {L M : List α} (hp : M.Perm L) (ho : InOrder c M) : M = srt c L :=
 W.unique (hp.trans (zAp L).symm) ho (W.srt_order L)
theorem Whole.srt_of_perm (W : Whole c) {L M : List α} (hp : M.Perm L) : srt c M = srt c L := W.srt_eq ((zAp M).trans hp) (W.srt_order M)
end
end Go.Proofs.YtmobnmjjmafibaaGreat
namespace Go.Proofs.YtmobnmjjmafibaaGreat
open Go.RowKit Go.Sort Go.Lib Go.Shelf
section
variable {α : Type} {c : α → List Value} {k : Nat}
theorem zAw (hc : ∀ x, (c x).length = k) : ∀ L : List α, (L.flatMap c).length = L.length * k
 | [] => by simp
 | x :: L => by rw [List.flatMap_cons, List.length_append, hc, zAw hc L, List.length_cons, Nat.add_mul]; omega
theorem zB1 (hc : ∀ x, (c x).length = k) : ∀ (L : List α) (j i : Nat) (x : α), L[j]? = some x → i < k → (L.flatMap c)[j * k + i]? = (c x)[i]?
 | [], j, i, x, h, _ => by simp at h
 | y :: L, 0, i, x, h, hi => by
  simp at h; subst h
  rw [List.flatMap_cons, Nat.zero_mul, Nat.zero_add, List.getElem?_append_left (by rw [hc]; exact hi)]
 | y :: L, j + 1, i, x, h, hi => by
  rw [List.flatMap_cons, List.getElem?_append_right (by rw [hc, Nat.add_mul]; omega), hc]
  rw [show (j + 1) * k + i - k = j * k + i by rw [Nat.add_mul]; omega]
  exact zB1 hc L j i x (by simpa using h) hi
theorem zEc {w : World} {B : Nat} {T : TypeId} {v : Value} {L : List α} (hc : ∀ x, (c x).length = k) (h : w.ownsRow B T k v L.length (L.flatMap c)) :
    ∃ a cap, v = .slice a L.length cap ∧ RowAt c k w a L := by
 rcases h.2 with ⟨rfl, h0⟩ | ⟨g, cap, cur, rfl, hB, hb, h1, h2, h3, h4⟩
 ·have : L = [] := List.eq_nil_of_length_eq_zero h0
  subst this
  exact ⟨none, 0, rfl, RowAt.nil⟩
 ·refine ⟨some ⟨g, 0, none⟩, cap, rfl, fun j x hj => ⟨_, rfl, (Array.getElem?_eq_some_iff.1 hb).1, fun i u hu => ?_⟩⟩
  have hi : i < k := by rw [← hc x]; exact (List.getElem?_eq_some_iff.1 hu).1
  have e := zB1 hc L j i x hj hi
  rw [hu, ← h4, List.getElem?_take] at e
  split at e
  ·rw [Addr.add_lit, Addr.add_lit]
   simp only [World.cell?, hb, Nat.zero_add]
   simpa using e
  ·cases e
end
section
variable {α : Type} [Inhabited α] {c : α → List Value} {k : Nat}
theorem zDq {w : World} {B g cap n : Nat} {T : TypeId} {L : List α} (hc : ∀ x, (c x).length = k) (h : w.ownsRow B T k (.slice (some ⟨g, 0, none⟩) n cap) L.length (L.flatMap c)) : HoldsK c k w g 0 L.toArray ∧ g < w.heap.size := by
 rcases h.2 with ⟨h0, _⟩ | ⟨g', cap', cur, h0, hB, hb, h1, h2, h3, h4⟩
 ·cases h0
 ·simp only [Value.slice.injEq, Option.some.injEq, Addr.mk.injEq, and_true] at h0
  obtain ⟨e1, e2, e3⟩ := h0
  subst e1 e3
  refine ⟨fun t ht => ⟨?_, by simp [World.frozen?, hb]⟩, (Array.getElem?_eq_some_iff.1 hb).1⟩
  have ht' : t < L.length * k := by simpa using ht
  rw [get_flatK _ _ _ _ (by simpa using ht')]
  have k0 : 0 < k := by rcases Nat.eq_zero_or_pos k with h | h; · subst h; simp at ht'
                        ·exact h
  have hj : t / k < L.length := by rwa [Nat.div_lt_iff_lt_mul k0]
  have hi : t % k < k := Nat.mod_lt _ k0
  have e := zB1 hc L (t / k) (t % k) L[t / k] (List.getElem?_eq_getElem hj) hi
  rw [show t / k * k + t % k = t by rw [Nat.mul_comm]; exact Nat.div_add_mod t k, ← h4, List.getElem?_take] at e
  split at e
  ·simp only [World.cell?, hb, Nat.zero_add]
   simp only [Option.isSome_none, Bool.false_eq_true, if_false]
   rw [← Array.getElem?_toList, e]
   simp [hj, hc, hi]
  ·rename_i hh; exact absurd ht' hh
theorem zD2 {w : World} {g : Nat} {L : List α} (hc : ∀ x, (c x).length = k) (h : HoldsK c k w g 0 L.toArray) (hg : g < w.heap.size) : RowAt c k w (some ⟨g, 0, none⟩) L := fun j x hj => by
 refine ⟨_, rfl, hg, fun i u hu => ?_⟩
 have hi : i < k := by rw [← hc x]; exact (List.getElem?_eq_some_iff.1 hu).1
 have hjl : j < L.length := (List.getElem?_eq_some_iff.1 hj).1
 have e := (h.cell (i := j) (c := i) (by simpa using hjl) hi).1
 rw [Addr.add_lit, Addr.add_lit, e]
 have e2 : L.toArray[j]! = x := by
  rw [getElem!_pos _ j (by simpa using hjl)]
  simpa using (List.getElem?_eq_some_iff.1 hj).2
 rw [e2, ← hu, List.getElem!_eq_getElem?_getD, List.getElem?_eq_getElem (by rw [hc]; exact hi)]
 rfl
theorem zBy {w : World} {g n : Nat} {os : Array Obj} (d : Array α) : w.grownBy (sortWorldK c k w g 0 n d os) (some g) := by
 refine ⟨rfl, rfl, rfl, by simp [sortWorldK, putRowK], fun i hi hne => ?_⟩
 unfold sortWorldK putRowK
 rw [heap_grow_old _ _ (by simpa using hi)]
 have : g ≠ i := fun e => hne (by rw [e])
 simp [putRow, mapBlock, Sort.ahead, Array.getElem?_modify, this]
theorem zF0 {w : World} {g n : Nat} {os : Array Obj} {d d' : Array α} (h : HoldsK c k w g 0 d) (hg : g < w.heap.size) (hs : d'.size = d.size) : HoldsK c k (sortWorldK c k w g 0 n d' os) g 0 d' := by
 unfold sortWorldK
 refine holdsK_grow c k _ os g 0 d' (by simp [putRowK, Sort.ahead]; exact hg) ?_
 exact holdsK_putRowK c k _ g 0 d d' (holdsK_ahead c k w n g 0 d h) hs
end
theorem zEi (b : Nat) : ∀ (l : List Value) (o : Nat) (w : World) (i : Nat), i < o → (w.setCells b o l).cell? ⟨b, i, none⟩ = w.cell? ⟨b, i, none⟩
 | [], _, _, _, _ => rfl
 | v :: l, o, w, i, h => by
  rw [World.setCells, zEi b l (o + 1) _ i (by omega), World.cell?_setCell_other (h := fun e => by have := congrArg Addr.off e; simp at this; omega)]
theorem zEb (b : Nat) : ∀ (l : List Value) (o : Nat) (w : World), (w.setCells b o l).heap.size = w.heap.size
 | [], _, _ => rfl
 | v :: l, o, w => by rw [World.setCells, zEb b l]; simp
end Go.Proofs.YtmobnmjjmafibaaGreat
namespace Go.Proofs.YtmobnmjjmafibaaGreat
open Go.RowKit
attribute [local go_sem 10000] pt_eql pt_neq
structure Wl where
 A : Pt
 B : Pt
 K : Int
theorem Wl.eq_iff {p q : Wl} : p = q ↔ p.A = q.A ∧ p.B = q.B ∧ p.K = q.K := by
 cases p; cases q; simp
instance : DecidableEq Pt := fun p q => decidable_of_iff (p.x = q.x ∧ p.y = q.y) Pt.eq_iff.symm
instance : DecidableEq Wl := fun p q => decidable_of_iff (p.A = q.A ∧ p.B = q.B ∧ p.K = q.K) Wl.eq_iff.symm
instance : Inhabited Wl := ⟨⟨⟨0, 0⟩, ⟨0, 0⟩, 0⟩⟩
def cW (t : Wl) : List Value := [.int .i64 t.A.x, .int .i64 t.A.y, .int .i64 t.B.x, .int .i64 t.B.y, .int .i64 t.K]
theorem zJe (x : Wl) : (cW x).length = 5 := rfl
theorem cW_one (x : Wl) : ∀ v ∈ cW x, v.oneCell' = true := by intro v hv; simp [cW] at hv; rcases hv with rfl | rfl | rfl | rfl | rfl <;> rfl
def weqI (a b c d k e f g h l : Int) : Bool := decide (a = e) && (decide (b = f) && (decide (c = g) && (decide (d = h) && decide (k = l))))
theorem wal_eql (a b c d k e f g h l : Int) (w : World) : (binOp .eql 105 (.agg #[.int .i64 a, .int .i64 b, .int .i64 c, .int .i64 d, .int .i64 k]) (.agg #[.int .i64 e, .int .i64 f, .int .i64 g, .int .i64 h, .int .i64 l])).run Tryz.prog w = .ok (.bool (weqI a b c d k e f g h l)) w := by
 unfold weqI
 by_cases h1 : a = e
 case neg => simp [go_sem, h1]
 case pos =>
 by_cases h2 : b = f
 case neg => simp [go_sem, h1, h2]
 case pos =>
 by_cases h3 : c = g
 case neg => simp [go_sem, h1, h2, h3]
 case pos =>
 by_cases h4 : d = h
 case neg => simp [go_sem, h1, h2, h3, h4]
 case pos => by_cases h5 : k = l <;> simp [go_sem, h1, h2, h3, h4, h5]
theorem wal_neq (a b c d k e f g h l : Int) (w : World) : (binOp .neq 105 (.agg #[.int .i64 a, .int .i64 b, .int .i64 c, .int .i64 d, .int .i64 k]) (.agg #[.int .i64 e, .int .i64 f, .int .i64 g, .int .i64 h, .int .i64 l])).run Tryz.prog w = .ok (.bool (!weqI a b c d k e f g h l)) w := by
 unfold weqI
 by_cases h1 : a = e
 case neg => simp [go_sem, h1]
 case pos =>
 by_cases h2 : b = f
 case neg => simp [go_sem, h1, h2]
 case pos =>
 by_cases h3 : c = g
 case neg => simp [go_sem, h1, h2, h3]
 case pos =>
 by_cases h4 : d = h
 case neg => simp [go_sem, h1, h2, h3, h4]
 case pos => by_cases h5 : k = l <;> simp [go_sem, h1, h2, h3, h4, h5]
theorem zBv (p q : Pt) : peqI p.x p.y q.x q.y = decide (p = q) := by rw [Bool.eq_iff_iff, zBu, ← Pt.eq_iff]; simp
theorem RowAt.wal {w : World} {a : Option Addr} {L : List Wl} (h : RowAt cW 5 w a L) {j : Nat} (hj : j < L.length) :
    ∃ ad A, a = some ad ∧ ad.add (j * 5) = A ∧ (A.block = w.heap.size) = False ∧ A.block < w.heap.size ∧ (w.cell? A = some (.int .i64 L[j].A.x) ∧ w.cell? ⟨A.block, A.off + 1, none⟩ = some (.int .i64 L[j].A.y) ∧ w.cell? ⟨A.block, A.off + 2, none⟩ = some (.int .i64 L[j].B.x) ∧
     w.cell? ⟨A.block, A.off + 3, none⟩ = some (.int .i64 L[j].B.y) ∧ w.cell? ⟨A.block, A.off + 4, none⟩ = some (.int .i64 L[j].K)) := by
 obtain ⟨ad, h1, h2, h3⟩ := h j L[j] (List.getElem?_eq_getElem hj)
 have hb : (ad.add (j * 5)).block = ad.block := zAn _ _
 refine ⟨ad, _, h1, rfl, by rw [hb]; simp; omega, by rw [hb]; exact h2, ?_⟩
 have e0 := h3 0 _ rfl
 have e1 := h3 1 _ rfl
 have e2 := h3 2 _ rfl
 have e3 := h3 3 _ rfl
 have e4 := h3 4 _ rfl
 simp only [Addr.add_zero', Addr.add_succ'] at e0 e1 e2 e3 e4
 exact ⟨e0, e1, e2, e3, e4⟩
def mkK (k : Int) : Bool := decide (k = 1) || decide (k = 2)
def mkOk (a b : Pt) (k : Int) : Bool := mkK k && (!decide (a = b) && (vld a && vld b))
def mkW (a b : Pt) (k : Int) : Wl := if mkOk a b k then ⟨lo2 a b, hi2 a b, k⟩ else ⟨⟨0, 0⟩, ⟨0, 0⟩, 0⟩
end Go.Proofs.YtmobnmjjmafibaaGreat
namespace Go.Proofs.YtmobnmjjmafibaaGreat
open Go.RowKit Go.Sort
attribute [local go_sem] Dr.rOper Dr.rAt Dr.rUpon cell_set sg_i64 sg_u64 alloc_cell alloc_frozen
attribute [local go_sem 10000] pt_eql pt_neq wal_eql wal_neq
attribute [local irreducible] Dr.rWalk
def cmpW (S T : Wl) : Int := if cmpP S.A T.A ≠ 0 then cmpP S.A T.A else if cmpP S.B T.B ≠ 0 then cmpP S.B T.B else cmpN S.K T.K
end Go.Proofs.YtmobnmjjmafibaaGreat
namespace Go.Proofs.YtmobnmjjmafibaaGreat
open Go.Shelf Go.Proofs
def sortTri_ren : Go.Shelf.Ren := ⟨fun | 6 => 92 | 15 => 123 | 14 => 126 | 28 => 153 | 29 => 154 | 20 => 156 | 21 => 157 | 22 => 158 | 23 => 159 | 24 => 160 | 25 => 161 | 26 => 162 | 27 => 163 | 46 => 186 | 47 => 182 | 48 => 183 | 49 => 187 | 50 => 188 | 57 => 206 | n => n, fun | 22 => 32 | 24 => 38 | 25 => 81 | 3 => 3 | 39 => 143 | 0 => 0 | 53 => 171 | 55 => 130 | 4 => 4 | 46 => 165 | 45 => 164 | 50 => 152 | 5 => 5 | 9 => 9 | 66 => 194 | 70 => 198 | 76 => 211 | 77 => 212 | n => n, fun | n => n⟩
theorem sortTri : Go.Proofs.SlLaysF0.n6 Tryz.prog sortTri_ren := {
 mixed := by kernel_rfl
 f6 := ⟨Tryz.f92.name, by decide, Tryz.func92.trans (congrArg some (by kernel_rfl))⟩
 f14 := ⟨Tryz.f126.name, by decide, Tryz.func126.trans (congrArg some (by kernel_rfl))⟩
 f15 := Tryz.func123.trans (congrArg some (by kernel_rfl))
 f20 := ⟨Tryz.f156.name, by decide, Tryz.func156.trans (congrArg some (by kernel_rfl))⟩
 f21 := ⟨Tryz.f157.name, by decide, Tryz.func157.trans (congrArg some (by kernel_rfl))⟩
 f22 := ⟨Tryz.f158.name, by decide, Tryz.func158.trans (congrArg some (by kernel_rfl))⟩
 f23 := ⟨Tryz.f159.name, by decide, Tryz.func159.trans (congrArg some (by kernel_rfl))⟩
 f24 := ⟨Tryz.f160.name, by decide, Tryz.func160.trans (congrArg some (by kernel_rfl))⟩
 f25 := ⟨Tryz.f161.name, by decide, Tryz.func161.trans (congrArg some (by kernel_rfl))⟩
 f26 := ⟨Tryz.f162.name, by decide, Tryz.func162.trans (congrArg some (by kernel_rfl))⟩
 f27 := ⟨Tryz.f163.name, by decide, Tryz.func163.trans (congrArg some (by kernel_rfl))⟩
 f28 := Tryz.func153.trans (congrArg some (by kernel_rfl))
 f29 := Tryz.func154.trans (congrArg some (by kernel_rfl))
 f46 := ⟨Tryz.f186.name, by decide, Tryz.func186.trans (congrArg some (by kernel_rfl))⟩
 f47 := Tryz.func182.trans (congrArg some (by kernel_rfl))
 f48 := Tryz.func183.trans (congrArg some (by kernel_rfl))
 f49 := ⟨Tryz.f187.name, by decide, Tryz.func187.trans (congrArg some (by kernel_rfl))⟩
 f50 := ⟨Tryz.f188.name, by decide, Tryz.func188.trans (congrArg some (by kernel_rfl))⟩
 f57 := ⟨Tryz.f206.name, by decide, Tryz.func206.trans (congrArg some (by kernel_rfl))⟩
 t0 := Tryz.underlying0
 a0 := Tryz.isAgg0
 z0 := Tryz.sizeOf0
 v0 := Tryz.zeroValue0
 t3 := Tryz.underlying3
 a3 := Tryz.isAgg3
 z3 := Tryz.sizeOf3
 v3 := Tryz.zeroValue3
 t4 := Tryz.underlying4
 a4 := Tryz.isAgg4
 z4 := Tryz.sizeOf4
 v4 := Tryz.zeroValue4
 t5 := Tryz.underlying5
 a5 := Tryz.isAgg5
 z5 := Tryz.sizeOf5
 v5 := Tryz.zeroValue5
 t9 := Tryz.underlying9
 a9 := Tryz.isAgg9
 z9 := Tryz.sizeOf9
 v9 := Tryz.zeroValue9
 t22 := Tryz.underlying32
 a22 := Tryz.isAgg32
 z22 := Tryz.sizeOf32
 v22 := Tryz.zeroValue32
 t25 := Tryz.underlying81
 a25 := Tryz.isAgg81
 z25 := Tryz.sizeOf81
 v25 := Tryz.zeroValue81
 t39 := Tryz.underlying143
 a39 := Tryz.isAgg143
 z39 := Tryz.sizeOf143
 v39 := Tryz.zeroValue143
 t45 := Tryz.underlying164
 a45 := Tryz.isAgg164
 z45 := Tryz.sizeOf164
 v45 := Tryz.zeroValue164
 t46 := Tryz.underlying165
 a46 := Tryz.isAgg165
 z46 := Tryz.sizeOf165
 v46 := Tryz.zeroValue165
 t50 := Tryz.underlying152
 a50 := Tryz.isAgg152
 z50 := Tryz.sizeOf152
 v50 := Tryz.zeroValue152
 t53 := Tryz.underlying171
 a53 := Tryz.isAgg171
 z53 := Tryz.sizeOf171
 v53 := Tryz.zeroValue171
 t55 := Tryz.underlying130
 a55 := Tryz.isAgg130
 z55 := Tryz.sizeOf130
 v55 := Tryz.zeroValue130
 t66 := Tryz.underlying194
 a66 := Tryz.isAgg194
 z66 := Tryz.sizeOf194
 v66 := Tryz.zeroValue194
 t70 := Tryz.underlying198
 a70 := Tryz.isAgg198
 z70 := Tryz.sizeOf198
 v70 := Tryz.zeroValue198
 t76 := Tryz.underlying211
 a76 := Tryz.isAgg211
 z76 := Tryz.sizeOf211
 v76 := Tryz.zeroValue211
 t77 := Tryz.underlying212
 a77 := Tryz.isAgg212
 z77 := Tryz.sizeOf212
 v77 := Tryz.zeroValue212 }
def sortPt_ren : Go.Shelf.Ren := ⟨fun | 6 => 80 | 15 => 123 | 14 => 122 | 28 => 153 | 29 => 154 | 20 => 145 | 21 => 146 | 22 => 147 | 23 => 148 | 24 => 149 | 25 => 150 | 26 => 151 | 27 => 152 | 46 => 181 | 47 => 182 | 48 => 183 | 49 => 184 | 50 => 185 | 57 => 205 | n => n, fun | 22 => 52 | 24 => 30 | 25 => 76 | 3 => 3 | 39 => 143 | 0 => 0 | 53 => 171 | 55 => 130 | 4 => 4 | 46 => 165 | 45 => 164 | 50 => 152 | 5 => 5 | 9 => 9 | 66 => 194 | 70 => 198 | 76 => 211 | 77 => 212 | n => n, fun | n => n⟩
theorem sortPt : Go.Proofs.SlLaysF0.n6 Tryz.prog sortPt_ren := {
 mixed := by kernel_rfl
 f6 := ⟨Tryz.f80.name, by decide, Tryz.func80.trans (congrArg some (by kernel_rfl))⟩
 f14 := ⟨Tryz.f122.name, by decide, Tryz.func122.trans (congrArg some (by kernel_rfl))⟩
 f15 := Tryz.func123.trans (congrArg some (by kernel_rfl))
 f20 := ⟨Tryz.f145.name, by decide, Tryz.func145.trans (congrArg some (by kernel_rfl))⟩
 f21 := ⟨Tryz.f146.name, by decide, Tryz.func146.trans (congrArg some (by kernel_rfl))⟩
 f22 := ⟨Tryz.f147.name, by decide, Tryz.func147.trans (congrArg some (by kernel_rfl))⟩
 f23 := ⟨Tryz.f148.name, by decide, Tryz.func148.trans (congrArg some (by kernel_rfl))⟩
 f24 := ⟨Tryz.f149.name, by decide, Tryz.func149.trans (congrArg some (by kernel_rfl))⟩
 f25 := ⟨Tryz.f150.name, by decide, Tryz.func150.trans (congrArg some (by kernel_rfl))⟩
 f26 := ⟨Tryz.f151.name, by decide, Tryz.func151.trans (congrArg some (by kernel_rfl))⟩
 f27 := ⟨Tryz.f152.name, by decide, Tryz.func152.trans (congrArg some (by kernel_rfl))⟩
 f28 := Tryz.func153.trans (congrArg some (by kernel_rfl))
 f29 := Tryz.func154.trans (congrArg some (by kernel_rfl))
 f46 := ⟨Tryz.f181.name, by decide, Tryz.func181.trans (congrArg some (by kernel_rfl))⟩
 f47 := Tryz.func182.trans (congrArg some (by kernel_rfl))
 f48 := Tryz.func183.trans (congrArg some (by kernel_rfl))
 f49 := ⟨Tryz.f184.name, by decide, Tryz.func184.trans (congrArg some (by kernel_rfl))⟩
 f50 := ⟨Tryz.f185.name, by decide, Tryz.func185.trans (congrArg some (by kernel_rfl))⟩
 f57 := ⟨Tryz.f205.name, by decide, Tryz.func205.trans (congrArg some (by kernel_rfl))⟩
 t0 := Tryz.underlying0
 a0 := Tryz.isAgg0
 z0 := Tryz.sizeOf0
 v0 := Tryz.zeroValue0
 t3 := Tryz.underlying3
 a3 := Tryz.isAgg3
 z3 := Tryz.sizeOf3
 v3 := Tryz.zeroValue3
 t4 := Tryz.underlying4
 a4 := Tryz.isAgg4
 z4 := Tryz.sizeOf4
 v4 := Tryz.zeroValue4
 t5 := Tryz.underlying5
 a5 := Tryz.isAgg5
 z5 := Tryz.sizeOf5
 v5 := Tryz.zeroValue5
 t9 := Tryz.underlying9
 a9 := Tryz.isAgg9
 z9 := Tryz.sizeOf9
 v9 := Tryz.zeroValue9
 t22 := Tryz.underlying52
 a22 := Tryz.isAgg52
 z22 := Tryz.sizeOf52
 v22 := Tryz.zeroValue52
 t25 := Tryz.underlying76
 a25 := Tryz.isAgg76
 z25 := Tryz.sizeOf76
 v25 := Tryz.zeroValue76
 t39 := Tryz.underlying143
 a39 := Tryz.isAgg143
 z39 := Tryz.sizeOf143
 v39 := Tryz.zeroValue143
 t45 := Tryz.underlying164
 a45 := Tryz.isAgg164
 z45 := Tryz.sizeOf164
 v45 := Tryz.zeroValue164
 t46 := Tryz.underlying165
 a46 := Tryz.isAgg165
 z46 := Tryz.sizeOf165
 v46 := Tryz.zeroValue165
 t50 := Tryz.underlying152
 a50 := Tryz.isAgg152
 z50 := Tryz.sizeOf152
 v50 := Tryz.zeroValue152
 t53 := Tryz.underlying171
 a53 := Tryz.isAgg171
 z53 := Tryz.sizeOf171
 v53 := Tryz.zeroValue171
 t55 := Tryz.underlying130
 a55 := Tryz.isAgg130
 z55 := Tryz.sizeOf130
 v55 := Tryz.zeroValue130
 t66 := Tryz.underlying194
 a66 := Tryz.isAgg194
 z66 := Tryz.sizeOf194
 v66 := Tryz.zeroValue194
 t70 := Tryz.underlying198
 a70 := Tryz.isAgg198
 z70 := Tryz.sizeOf198
 v70 := Tryz.zeroValue198
 t76 := Tryz.underlying211
 a76 := Tryz.isAgg211
 z76 := Tryz.sizeOf211
 v76 := Tryz.zeroValue211
 t77 := Tryz.underlying212
 a77 := Tryz.isAgg212
 z77 := Tryz.sizeOf212
 v77 := Tryz.zeroValue212 }
end Go.Proofs.YtmobnmjjmafibaaGreat
namespace Go.Proofs.YtmobnmjjmafibaaGreat
open Go.RowKit Go.Sort Go.Lib Go.Shelf
def WRow (w : World) (B : Nat) (v : Value) (L : List Wl) : Prop := w.ownsRow B 105 5 v L.length (L.flatMap cW)
def Flat (a : Option Addr) : Prop := ∀ ad, a = some ad → ad.spot = none
theorem WRow.row {w : World} {B : Nat} {v : Value} {L : List Wl} (h : WRow w B v L) : ∃ a cap, v = .slice a L.length cap ∧ RowAt cW 5 w a L ∧ Flat a := by
 obtain ⟨a, cap, h1, h2⟩ := zEc zJe h
 refine ⟨a, cap, h1, h2, fun ad ha => ?_⟩
 rcases h.2 with ⟨h0, _⟩ | ⟨g, cap', cur, h0, _⟩
 ·rw [h1] at h0; simp at h0; rw [h0.1] at ha; cases ha
 ·rw [h1] at h0; simp at h0; rw [h0.1] at ha; cases ha; rfl
theorem WRow.nil0 (w : World) (B : Nat) : WRow w B (.slice none 0 0) [] := World.ownsRow_nil _ _ _ _
theorem WRow.kept {w w' : World} {B : Nat} {v : Value} {L : List Wl} {row : Option Nat} (h : WRow w B v L) (hg : w.grownBy w' row) (hne : v.ownBlock = none ∨ v.ownBlock ≠ row) : WRow w' B v L := World.ownsRow.kept h hg hne
theorem WRow.lt {w : World} {B : Nat} {v : Value} {L : List Wl} (h : WRow w B v L) : ∀ k, v.ownBlock = some k → B ≤ k ∧ k < w.heap.size := World.ownsRow.lt h
theorem WRow.base {w : World} {B B' : Nat} {v : Value} {L : List Wl} (h : WRow w B v L) (hb : B' ≤ B) : WRow w B' v L := by
 refine ⟨h.1, ?_⟩
 rcases h.2 with h | ⟨g, cap, cur, h0, h1, h2⟩
 ·exact .inl h
 ·exact .inr ⟨g, cap, cur, h0, Nat.le_trans hb h1, h2⟩
theorem WRow.ext {w w' : World} {B n : Nat} {v : Value} {L : List Wl} (h : WRow w B v L) (hb : Below n w w') (hn : n = w.heap.size) : WRow w' B v L := by
 refine ⟨h.1, ?_⟩
 rcases h.2 with h | ⟨g, cap, cur, h0, h1, h2, h3⟩
 ·exact .inl h
 ·refine .inr ⟨g, cap, cur, h0, h1, ?_, h3⟩
  have hl : g < w.heap.size := (Array.getElem?_eq_some_iff.1 h2).1
  rw [hb.block g (by omega)]; exact h2
theorem WRow.ee {w w' : World} {B : Nat} {v : Value} {L : List Wl} (h : WRow w B v L) (hb : Below w.heap.size w w') : WRow w' B v L := h.ext hb rfl
theorem WRow.box {w : World} {B : Nat} {v : Value} {L : List Wl} (h : WRow w B v L) : (v = .slice none 0 0 ∧ L = []) ∨ ∃ g cap tl, v = .slice (some ⟨g, 0, none⟩) L.length cap ∧ B ≤ g ∧ Box w g (L.flatMap cW ++ tl) 105 ∧ L.length ≤ cap ∧ cap ≤ maxLen ∧ tl.length = (cap - L.length) * 5 := by
 rcases h.2 with ⟨h0, h1⟩ | ⟨g, cap, cur, h0, h1, h2, h3, h4, h5, h6⟩
 ·exact .inl ⟨h0, List.eq_nil_of_length_eq_zero h1⟩
 ·refine .inr ⟨g, cap, cur.toList.drop (L.length * 5), h0, h1, ?_, h3, h4, ?_⟩
  ·rw [← h6, List.take_append_drop]; exact h2
  ·rw [List.length_drop, Array.length_toList, h5]; omega
theorem info_wall : (Tryz.prog.info? 105).map (fun i => (i.zero, i.size, i.bytes)) = some (some (.agg #[.int .i64 0, .int .i64 0, .int .i64 0, .int .i64 0, .int .i64 0]), 5, 40) := by kernel_rfl
theorem RowAt.flat {w : World} {b off : Nat} {L : List Wl} (h : RowAt cW 5 w (some ⟨b, off, none⟩) L) : ∀ t u, (L.flatMap cW)[t]? = some u → b < w.heap.size ∧ w.cell? ⟨b, off + t, none⟩ = some u := fun t u hu => by
 have ht : t < L.length * 5 := by have := (List.getElem?_eq_some_iff.1 hu).1; rwa [zAw zJe] at this
 have hj : t / 5 < L.length := by omega
 have e := zB1 zJe L (t / 5) (t % 5) L[t / 5] (List.getElem?_eq_getElem hj) (by omega)
 rw [show t / 5 * 5 + t % 5 = t by omega, hu] at e
 obtain ⟨ad, h1, h2, h3⟩ := h (t / 5) L[t / 5] (List.getElem?_eq_getElem hj)
 cases h1
 have h4 := h3 (t % 5) u e.symm
 simp only [Addr.add_lit] at h4
 rw [show off + t / 5 * 5 + t % 5 = off + t by omega] at h4
 exact ⟨h2, h4⟩
end Go.Proofs.YtmobnmjjmafibaaGreat
namespace Go.Proofs.YtmobnmjjmafibaaGreat
open Go.RowKit Go.Sort
attribute [local go_sem] rOper rAt rUpon cell_set sg_i64 sg_u64 alloc_cell alloc_frozen
attribute [local go_sem 10000] pt_eql pt_neq wal_eql wal_neq
attribute [local irreducible] rWalk
def Five (w : World) (A : Addr) (p : Wl) : Prop := A.block < w.heap.size ∧ w.cell? A = some (.int .i64 p.A.x) ∧ w.cell? ⟨A.block, A.off + 1, none⟩ = some (.int .i64 p.A.y) ∧ w.cell? ⟨A.block, A.off + 2, none⟩ = some (.int .i64 p.B.x) ∧ w.cell? ⟨A.block, A.off + 3, none⟩ = some (.int .i64 p.B.y) ∧ w.cell? ⟨A.block, A.off + 4, none⟩ = some (.int .i64 p.K)
theorem RowAt.five {w : World} {a : Option Addr} {L : List Wl} (h : RowAt cW 5 w a L) {j : Nat} (hj : j < L.length) : ∃ ad A, a = some ad ∧ ad.add (j * 5) = A ∧ Five w A L[j] := by
 obtain ⟨ad, A, h1, h2, _, h4, h5⟩ := h.wal hj
 exact ⟨ad, A, h1, h2, h4, h5⟩
theorem Five.ext {w w' : World} {A : Addr} {p : Wl} {n : Nat} (h : Five w A p) (hb : Below n w w') (hn : n = w.heap.size) : Five w' A p := by
 obtain ⟨h0, h1, h2, h3, h4, h5⟩ := h
 have e : ∀ q : Addr, q.block = A.block → w'.cell? q = w.cell? q := fun q hq => hb.cell (by rw [hq, hn]; exact h0)
 exact ⟨Nat.lt_of_lt_of_le h0 hb.size, (e A rfl).trans h1, (e ⟨A.block, A.off + 1, none⟩ rfl).trans h2, (e ⟨A.block, A.off + 2, none⟩ rfl).trans h3, (e ⟨A.block, A.off + 3, none⟩ rfl).trans h4, (e ⟨A.block, A.off + 4, none⟩ rfl).trans h5⟩
theorem Five.ee {w w' : World} {A : Addr} {p : Wl} (h : Five w A p) (hb : Below w.heap.size w w') : Five w' A p := h.ext hb rfl
theorem Five.f {w : World} {A : Addr} {p : Wl} (h : Five w A p) : (A.block = w.heap.size) = False ∧ w.cell? A = some (.int .i64 p.A.x) ∧ w.cell? ⟨A.block, A.off + 1, none⟩ = some (.int .i64 p.A.y) ∧ w.cell? ⟨A.block, A.off + 2, none⟩ = some (.int .i64 p.B.x) ∧ w.cell? ⟨A.block, A.off + 3, none⟩ = some (.int .i64 p.B.y) ∧ w.cell? ⟨A.block, A.off + 4, none⟩ = some (.int .i64 p.K) := ⟨by simp; have := h.1; omega, h.2⟩
theorem Five.cells {w : World} {A : Addr} {p : Wl} (h : Five w A p) : (∀ d os, (grow (redrawn w d) os).cell? A = some (.int .i64 p.A.x)) ∧ (∀ d os, (grow (redrawn w d) os).cell? ⟨A.block, A.off + 1, none⟩ = some (.int .i64 p.A.y)) ∧ (∀ d os, (grow (redrawn w d) os).cell? ⟨A.block, A.off + 2, none⟩ = some (.int .i64 p.B.x)) ∧ (∀ d os, (grow (redrawn w d) os).cell? ⟨A.block, A.off + 3, none⟩ = some (.int .i64 p.B.y)) ∧ (∀ d os, (grow (redrawn w d) os).cell? ⟨A.block, A.off + 4, none⟩ = some (.int .i64 p.K)) := by
 have e := fun d os => (h.ext (below_regrown w d os) rfl).2
 exact ⟨fun d os => (e d os).1, fun d os => (e d os).2.1, fun d os => (e d os).2.2.1, fun d os => (e d os).2.2.2.1, fun d os => (e d os).2.2.2.2⟩
end Go.Proofs.YtmobnmjjmafibaaGreat
namespace Go.Proofs.YtmobnmjjmafibaaGreat
section
variable {α : Type} {c : α → α → Int}
def Rising (c : α → α → Int) (L : List α) : Prop := L.Pairwise fun x y => c x y < 0
theorem zCg (W : Whole c) : ∀ {L M : List α}, Rising c L → Rising c M → (∀ p, p ∈ L ↔ p ∈ M) → L = M
 | [], M, _, _, h => by
  cases M with
  | nil => rfl
  | cons y M => exact absurd ((h y).2 (by simp)) (by simp)
 | x :: L, M, h1, h2, h => by
  cases M with
  | nil => exact absurd ((h x).1 (by simp)) (by simp)
  | cons y M =>
   unfold Rising at h1 h2
   rw [List.pairwise_cons] at h1 h2
   have irr : ∀ z, ¬ c z z < 0 := fun z => by have := (W.eq0 (x := z) (y := z)).2 rfl; omega
   have e : x = y := by
    rcases List.mem_cons.1 ((h x).1 (by simp)) with e | hx
    ·exact e
    ·rcases List.mem_cons.1 ((h y).2 (by simp)) with e | hy
     ·exact e.symm
     ·exact absurd (W.trans (h1.1 y hy) (h2.1 x hx)) (irr _)
   subst e
   rw [zCg W h1.2 h2.2 (fun p => ⟨fun hp => ?_, fun hp => ?_⟩)]
   ·rcases List.mem_cons.1 ((h p).1 (by simp [hp])) with e | h'
    ·subst e; exact absurd (h1.1 p hp) (irr p)
    ·exact h'
   ·rcases List.mem_cons.1 ((h p).2 (by simp [hp])) with e | h'
    ·subst e; exact absurd (h2.1 p hp) (irr p)
    ·exact h'
theorem zEd (W : Whole c) {M : List α} {x : α} {k : Nat} (h : Rising c M) (hk : k ≤ M.length) (hlo : ∀ (i : Nat) (hi : i < k), c (M[i]'(by omega)) x < 0) (hhi : ∀ (i : Nat) (_ : k ≤ i) (h2 : i < M.length), 0 < c (M[i]'h2) x) :
    Rising c (M.take k ++ x :: M.drop k) ∧ ∀ p, p ∈ M.take k ++ x :: M.drop k ↔ p ∈ M ∨ p = x := by
 unfold Rising at *
 have hs : M.take k ++ M.drop k = M := List.take_append_drop k M
 rw [← hs, List.pairwise_append] at h
 have g1 : ∀ y ∈ M.take k, c y x < 0 := fun y hy => by
  obtain ⟨i, hi, e⟩ := List.getElem_of_mem hy
  simp only [List.length_take] at hi
  rw [← e, List.getElem_take]
  exact hlo i (by omega)
 have g2 : ∀ y ∈ M.drop k, c x y < 0 := fun y hy => by
  obtain ⟨i, hi, e⟩ := List.getElem_of_mem hy
  simp only [List.length_drop] at hi
  rw [← e, List.getElem_drop]
  have := hhi (k + i) (by omega) (by omega)
  have := W.neg (M[k + i]'(by omega)) x
  omega
 refine ⟨?_, fun p => ?_⟩
 ·rw [List.pairwise_append, List.pairwise_cons]
  exact ⟨h.1, ⟨g2, h.2.1⟩, fun a ha b hb => by
   rcases List.mem_cons.1 hb with rfl | hb
   ·exact g1 a ha
   ·exact h.2.2 a ha b hb⟩
 ·constructor
  ·intro hp
   rcases List.mem_append.1 hp with hp | hp
   ·exact .inl (List.mem_of_mem_take hp)
   ·rcases List.mem_cons.1 hp with rfl | hp
    ·exact .inr rfl
    ·exact .inl (List.mem_of_mem_drop hp)
  ·rintro (hp | rfl)
   ·rw [← hs] at hp
    rcases List.mem_append.1 hp with hp | hp
    ·exact List.mem_append.2 (.inl hp)
    ·exact List.mem_append.2 (.inr (List.mem_cons_of_mem _ hp))
   ·exact List.mem_append.2 (.inr List.mem_cons_self)
theorem rising_lt {M : List α} (h : Rising c M) {i j : Nat} (hi : i < M.length) (hj : j < M.length) (hij : i < j) : c M[i] M[j] < 0 := by
 unfold Rising at h
 rw [List.pairwise_iff_getElem] at h
 exact h i j hi hj hij
theorem rising_below (W : Whole c) {M : List α} {x : α} {k : Nat} (h : Rising c M) (hk : k < M.length) (hx : c M[k] x < 0) : ∀ (i : Nat) (hi : i < k + 1), c (M[i]'(by omega)) x < 0 := fun i hi => by
 by_cases e : i = k
 ·subst e; exact hx
 ·exact W.trans (rising_lt h (by omega) hk (by omega)) hx
structure Moved (M S : List α) (k : Nat) : Prop where
 len : S.length = M.length + 1
 lo : S.take k = M.take k
 hi : S.drop (k + 1) = M.drop k
theorem zFm (M : List α) (x : α) : Moved M (M ++ [x]) M.length := ⟨by simp, by simp, by simp⟩
theorem Moved.get {M S : List α} {k : Nat} (h : Moved M S (k + 1)) (hk : k < M.length) : S[k]'(by rw [h.len]; omega) = M[k] := by
 have := congrArg (fun l => l[k]?) h.lo
 simp only [List.getElem?_take, show k < k + 1 by omega, if_true] at this
 rw [List.getElem?_eq_getElem (by rw [h.len]; omega), List.getElem?_eq_getElem hk] at this
 exact Option.some.inj this
theorem Moved.step {M S : List α} {k : Nat} (h : Moved M S (k + 1)) (hk : k < M.length) : Moved M (S.set (k + 1) M[k]) k := by
 refine ⟨by simp [h.len], ?_, ?_⟩
 ·rw [List.take_set_of_le (by omega)]
  have := congrArg (List.take k) h.lo
  simpa [List.take_take, Nat.min_eq_left (Nat.le_succ k)] using this
 ·rw [List.drop_set, if_neg (by omega), Nat.sub_self, List.drop_eq_getElem_cons (by rw [h.len]; omega), List.set_cons_zero, h.hi]
  exact (List.drop_eq_getElem_cons hk).symm
theorem Moved.done {M S : List α} {k : Nat} (h : Moved M S k) (hk : k ≤ M.length) (x : α) : S.set k x = M.take k ++ x :: M.drop k := by
 rw [List.set_eq_take_append_cons_drop, if_pos (by rw [h.len]; omega), h.lo, h.hi]
end
abbrev Ris (L : List Wl) : Prop := Rising cmpW L
def isW (p q : Pt) (x : Wl) : Bool := decide (x.A = p) && decide (x.B = q)
structure GoodW (x : Wl) : Prop where
 va : vld x.A = true
 vb : vld x.B = true
 ab : cmpP x.A x.B < 0
 k : x.K = 1 ∨ x.K = 2
open Go.RowKit Go.Sort
attribute [local go_sem] rOper rAt rUpon cell_set sg_i64 sg_u64 alloc_cell alloc_frozen
attribute [local go_sem 10000] pt_eql pt_neq wal_eql wal_neq
attribute [local irreducible] rWalk
theorem RowAt.take {α : Type} {c : α → List Value} {k : Nat} {w : World} {a : Option Addr} {L : List α} (h : RowAt c k w a L) (m : Nat) : RowAt c k w a (L.take m) := fun j x hx => h j x (by
 rw [List.getElem?_take] at hx
 split at hx
 ·exact hx
 ·cases hx)
structure SetRd (w : World) (sb : Nat) (a0 : Option Addr) (c n : Nat) (L : List Wl) : Prop where
 box : Box w sb [.slice a0 n c] 151
 row : RowAt cW 5 w a0 L
 len : L.length = n
 le : L.length ≤ 1000000
 nc : n ≤ c
 flat : Flat a0
 nil0 : a0 = none → L = []
 ris : Ris L
 good : ∀ x ∈ L, GoodW x
theorem SetRd.ext {w w' : World} {sb c n m : Nat} {a0 : Option Addr} {L : List Wl} (S : SetRd w sb a0 c n L) (hb : Below m w w') (hm : m = w.heap.size) : SetRd w' sb a0 c n L :=
 ⟨S.box.ext hb hm, S.row.ext hb hm, S.len, S.le, S.nc, S.flat, S.nil0, S.ris, S.good⟩
theorem SetRd.ee {w w' : World} {sb c n : Nat} {a0 : Option Addr} {L : List Wl} (S : SetRd w sb a0 c n L) (hb : Below w.heap.size w w') : SetRd w' sb a0 c n L := S.ext hb rfl
theorem SetRd.pos {w : World} {sb c n : Nat} {a0 : Option Addr} {L : List Wl} (S : SetRd w sb a0 c n L) : ∀ x ∈ L, 0 < x.K := fun x hx => by have := (S.good x hx).k; omega
theorem Box.grownBy {w w' : World} {b : Nat} {cs : List Value} {T : TypeId} {row : Option Nat} (h : Box w b cs T) (hg : w.grownBy w' row) (hne : some b ≠ row) : Box w' b cs T := by
 have hl := h.lt
 unfold Box at *
 rw [hg.block b hl hne]; exact h
theorem WRow.ne {w : World} {B : Nat} {v : Value} {L : List Wl} (h : WRow w (B + 1) v L) : v.ownBlock ≠ some B := fun e => by have := (h.lt _ e).1; omega
theorem WRow.alloc {w : World} {B : Nat} {v : Value} {L : List Wl} (h : WRow w B v L) (o : Obj) : WRow (w.alloc o) B v L := World.ownsRow.alloc h o
def onV (o : Option Wl) : Value := match o with | some x => .tuple #[.agg #[.int .i64 x.A.x, .int .i64 x.A.y, .int .i64 x.B.x, .int .i64 x.B.y, .int .i64 x.K], .bool true] | none => .tuple #[.agg #[.int .i64 0, .int .i64 0, .int .i64 0, .int .i64 0, .int .i64 0], .bool false]
structure DocRd (w : World) (db : Nat) (a0 : Option Addr) (c n : Nat) (L : List Wl) : Prop where
 box : Box w db [.slice a0 n c] 103
 row : RowAt cW 5 w a0 L
 len : L.length = n
 le : L.length ≤ 1000000
 nc : n ≤ c
 flat : Flat a0
theorem DocRd.ext {w w' : World} {db c n m : Nat} {a0 : Option Addr} {L : List Wl} (S : DocRd w db a0 c n L) (hb : Below m w w') (hm : m = w.heap.size) : DocRd w' db a0 c n L :=
 ⟨S.box.ext hb hm, S.row.ext hb hm, S.len, S.le, S.nc, S.flat⟩
theorem DocRd.ee {w w' : World} {db c n : Nat} {a0 : Option Addr} {L : List Wl} (S : DocRd w db a0 c n L) (hb : Below w.heap.size w w') : DocRd w' db a0 c n L := S.ext hb rfl
def isE (p q : Pt) (x : Wl) : Bool := (decide (x.A = p) && decide (x.B = q)) || (decide (x.A = q) && decide (x.B = p))
theorem zHh (p q : Pt) (x : Wl) : isE p q x = ((peqI x.A.x x.A.y p.x p.y && peqI x.B.x x.B.y q.x q.y) || (peqI x.A.x x.A.y q.x q.y && peqI x.B.x x.B.y p.x p.y)) := by rw [zBv, zBv, zBv, zBv]; rfl
def kindD (L : List Wl) (p q : Pt) : Int := match L.find? (isE p q) with | some x => x.K | none => 0
theorem zI7 {p : Wl → Bool} {L : List Wl} {k : Nat} (hk : k < L.length) (h0 : (L.take k).find? p = none) (h1 : p L[k] = true) : L.find? p = some L[k] := by
 refine List.find?_eq_some_iff_append.2 ⟨h1, L.take k, L.drop (k + 1), ?_, fun y hy => ?_⟩
 ·rw [List.getElem_cons_drop hk, List.take_append_drop]
 ·simpa using List.find?_eq_none.1 h0 y hy
theorem zCa {p : Wl → Bool} {L : List Wl} {k : Nat} (hk : k < L.length) (h0 : (L.take k).find? p = none) (h1 : p L[k] = false) : (L.take (k + 1)).find? p = none := by
 rw [List.take_succ_eq_append_getElem hk, List.find?_append, h0, List.find?_cons_of_neg (by rw [h1]; simp)]; rfl
theorem zJ8 {p : Wl → Bool} {L : List Wl} (h0 : (L.take L.length).find? p = none) : L.find? p = none := by rwa [List.take_of_length_le (Nat.le_refl _)] at h0
theorem zEq (db : Nat) (a0 : Option Addr) (c n : Nat) (L : List Wl) (a b : Pt) (w : World) (D : DocRd w db a0 c n L) :
    Calls Tryz.prog 140 #[.pointer (some ⟨db, 0, none⟩), .agg #[.int .i64 a.x, .int .i64 a.y], .agg #[.int .i64 b.x, .int .i64 b.y]] w fun e w' => e = .returned (.int .i64 (kindD L a b)) ∧ Below w.heap.size w w' := by
 have hdb := D.box.lt
 have HM := Lib.hid D.len
 have hn : n ≤ 1000000 := D.len ▸ D.le
 have HD := Lib.hid D
 clear D
 go_enter Tryz.func140, Tryz.ntmps140
 go_wp2
 refine zA2 fun W1 hW => ?_
 have BA : Box W1 w.heap.size [.int .i64 a.x, .int .i64 a.y] 30 := by rw [hW]; exact (Box.new rfl).old _
 have BB : Box W1 (w.heap.size + 1) [.int .i64 b.x, .int .i64 b.y] 30 := by rw [hW]; exact Box.new (by simp)
 have hw : Below w.heap.size w W1 := by rw [hW]; go_grown
 clear hW
 go_loopw [7] (fun vi wr => ∃ k : Nat, k ≤ n ∧ vi = .int .i64 k ∧ Hid ((L.take k).find? (isE a b) = none) ∧ Below w.heap.size w wr ∧ Box wr w.heap.size [.int .i64 a.x, .int .i64 a.y] 30 ∧ Box wr (w.heap.size + 1) [.int .i64 b.x, .int .i64 b.y] 30) (fun vi _ => n - (intOf vi).toNat)
 case atStart => exact ⟨0, Nat.zero_le _, rfl, Lib.hid rfl, hw, BA, BB⟩
 case round =>
  clear BA BB hw
  obtain ⟨k, hk, rfl, HF, hwr, BA, BB⟩ := hrel
  have BD := (HD.out.ee hwr).box
  by_cases hlt : k < n
  ·have hkL : k < L.length := by rw [HM.out]; exact hlt
   obtain ⟨ad, A, ea, eA, hA⟩ := (HD.out.ee hwr).row.five (j := k) hkL
   have HX : Hid (L[k] = L[k]) := Lib.hid rfl
   generalize hX : L[k] = X at hA HX
   clear HX
   have HX := Lib.hid hX
   clear hX
   obtain ⟨u0, u1, u2, u3, u4, u5⟩ := hA.f
   obtain ⟨y0, y1, y2, y3⟩ := BA.f
   obtain ⟨z0, z1, z2, z3⟩ := BB.f
   obtain ⟨d0, d1, d2, d3⟩ := BD.f
   subst ea
   clear hA
   cases e1 : peqI X.A.x X.A.y a.x a.y with
   | true =>
    cases e2 : peqI X.B.x X.B.y b.x b.y with
    | true =>
     have HE : Hid (isE a b X = true) := Lib.hid (by rw [zHh, e1, e2]; first | rfl | simp)
     have HK : Hid (kindD L a b = X.K) := Lib.hid (by unfold kindD; rw [zI7 hkL HF.out (by rw [HX.out]; exact HE.out)]; show L[k].K = _; rw [HX.out])
     have HW := Lib.hid hwr
     clear HE HF HX hwr
     go_wp2
     go_quiet (fail)
     go_wp2
     go_ret
     exact ⟨zAl HK.out.symm, HW.out.trans ⟨rfl, rfl, rfl, Nat.le_refl _, fun _ _ => rfl⟩⟩
    | false =>
     cases e3 : peqI X.A.x X.A.y b.x b.y with
     | true =>
      cases e4 : peqI X.B.x X.B.y a.x a.y with
      | true =>
       have HE : Hid (isE a b X = true) := Lib.hid (by rw [zHh, e1, e2, e3, e4]; first | rfl | simp)
       have HK : Hid (kindD L a b = X.K) := Lib.hid (by unfold kindD; rw [zI7 hkL HF.out (by rw [HX.out]; exact HE.out)]; show L[k].K = _; rw [HX.out])
       have HW := Lib.hid hwr
       clear HE HF HX hwr
       go_wp2
       go_quiet (fail)
       go_wp2
       go_ret
       exact ⟨zAl HK.out.symm, HW.out.trans ⟨rfl, rfl, rfl, Nat.le_refl _, fun _ _ => rfl⟩⟩
      | false =>
       have HE : Hid (isE a b X = false) := Lib.hid (by rw [zHh, e1, e2, e3, e4]; first | rfl | simp)
       have HG : Hid ((L.take (k + 1)).find? (isE a b) = none) := Lib.hid (zCa hkL HF.out (by rw [HX.out]; exact HE.out))
       have HW := Lib.hid hwr
       have HA := Lib.hid BA
       have HB := Lib.hid BB
       clear HE HF HX hwr BA BB
       go_wp2
       go_quiet (fail)
       go_wp2
       go_roundw
       case rel => exact ⟨k + 1, hlt, by go_num, HG, HW.out.trans ⟨rfl, rfl, rfl, Nat.le_refl _, fun _ _ => rfl⟩, by first | exact HA.out | exact HA.out.drew, by first | exact HB.out | exact HB.out.drew⟩
       case measure => simp [intOf]; omega
     | false =>
      have HE : Hid (isE a b X = false) := Lib.hid (by rw [zHh, e1, e2, e3]; first | rfl | simp)
      have HG : Hid ((L.take (k + 1)).find? (isE a b) = none) := Lib.hid (zCa hkL HF.out (by rw [HX.out]; exact HE.out))
      have HW := Lib.hid hwr
      have HA := Lib.hid BA
      have HB := Lib.hid BB
      clear HE HF HX hwr BA BB
      go_wp2
      go_quiet (fail)
      go_wp2
      go_roundw
      case rel => exact ⟨k + 1, hlt, by go_num, HG, HW.out.trans ⟨rfl, rfl, rfl, Nat.le_refl _, fun _ _ => rfl⟩, by first | exact HA.out | exact HA.out.drew, by first | exact HB.out | exact HB.out.drew⟩
      case measure => simp [intOf]; omega
   | false =>
    cases e3 : peqI X.A.x X.A.y b.x b.y with
    | true =>
     cases e4 : peqI X.B.x X.B.y a.x a.y with
     | true =>
      have HE : Hid (isE a b X = true) := Lib.hid (by rw [zHh, e1, e3, e4]; first | rfl | simp)
      have HK : Hid (kindD L a b = X.K) := Lib.hid (by unfold kindD; rw [zI7 hkL HF.out (by rw [HX.out]; exact HE.out)]; show L[k].K = _; rw [HX.out])
      have HW := Lib.hid hwr
      clear HE HF HX hwr
      go_wp2
      go_quiet (fail)
      go_wp2
      go_ret
      exact ⟨zAl HK.out.symm, HW.out.trans ⟨rfl, rfl, rfl, Nat.le_refl _, fun _ _ => rfl⟩⟩
     | false =>
      have HE : Hid (isE a b X = false) := Lib.hid (by rw [zHh, e1, e3, e4]; first | rfl | simp)
      have HG : Hid ((L.take (k + 1)).find? (isE a b) = none) := Lib.hid (zCa hkL HF.out (by rw [HX.out]; exact HE.out))
      have HW := Lib.hid hwr
      have HA := Lib.hid BA
      have HB := Lib.hid BB
      clear HE HF HX hwr BA BB
      go_wp2
      go_quiet (fail)
      go_wp2
      go_roundw
      case rel => exact ⟨k + 1, hlt, by go_num, HG, HW.out.trans ⟨rfl, rfl, rfl, Nat.le_refl _, fun _ _ => rfl⟩, by first | exact HA.out | exact HA.out.drew, by first | exact HB.out | exact HB.out.drew⟩
      case measure => simp [intOf]; omega
    | false =>
     have HE : Hid (isE a b X = false) := Lib.hid (by rw [zHh, e1, e3]; first | rfl | simp)
     have HG : Hid ((L.take (k + 1)).find? (isE a b) = none) := Lib.hid (zCa hkL HF.out (by rw [HX.out]; exact HE.out))
     have HW := Lib.hid hwr
     have HA := Lib.hid BA
     have HB := Lib.hid BB
     clear HE HF HX hwr BA BB
     go_wp2
     go_quiet (fail)
     go_wp2
     go_roundw
     case rel => exact ⟨k + 1, hlt, by go_num, HG, HW.out.trans ⟨rfl, rfl, rfl, Nat.le_refl _, fun _ _ => rfl⟩, by first | exact HA.out | exact HA.out.drew, by first | exact HB.out | exact HB.out.drew⟩
     case measure => simp [intOf]; omega
  ·obtain rfl : k = n := by omega
   have hK : kindD L a b = 0 := by
    unfold kindD
    rw [zJ8 (by rw [HM.out]; exact HF.out)]
   obtain ⟨d0, d1, d2, d3⟩ := BD.f
   have HK := Lib.hid hK
   clear hK
   go_wp2
   go_ret
   exact ⟨zAl HK.out.symm, hwr⟩
end Go.Proofs.YtmobnmjjmafibaaGreat
namespace Go.Proofs.YtmobnmjjmafibaaGreat
open Go.RowKit Go.Sort
attribute [local go_sem] rOper rAt rUpon cell_set sg_i64 sg_u64 alloc_cell alloc_frozen
attribute [local go_sem 10000] pt_eql pt_neq tri_eql
attribute [local irreducible] rWalk
def badD (E : Es) (D : List Wl) (p q : Pt) : Bool := (lftE E p q).2 && ((lftE E q p).2 && (decide (kindD D p q = 0) && decide (circ (lftE E p q).1.A (lftE E p q).1.B (lftE E p q).1.C (apx (lftE E q p).1 p q) = 1)))
theorem rbad_a (mb b db : Nat) (a0 : Option Addr) (c n : Nat) (E : Es) (D : List Wl) (p q : Pt) (hk : okW (p, q)) (X Y : Tri3) (h1 : lftE E p q = (X, false)) (v2 : Bool) (h2 : lftE E q p = (Y, v2)) (w : World) (Bm : Box w mb [.map (some b)] 41) (Hm : HoldsMap eW eT okW w b E) (Dw : DocRd w db a0 c n D) :
    Calls Tryz.prog 112 #[.pointer (some ⟨mb, 0, none⟩), .pointer (some ⟨db, 0, none⟩), .agg #[.int .i64 p.x, .int .i64 p.y], .agg #[.int .i64 q.x, .int .i64 q.y]] w fun e w' => e = .returned (.bool false) ∧ Below w.heap.size w w' := by
 have cl := zB4 mb b E p q hk
 have cl' := zB4 mb b E q p ⟨hk.2, hk.1⟩
 have ck := zEq db a0 c n D p q
 have cf := zFq Y p q
 have cc := fun z => zCv X.A X.B X.C z
 rw [h1] at cl
 rw [h2] at cl'
 clear h1 h2 hk
 generalize kindD D p q = k at *
 generalize apx Y p q = z at *
 replace cc := cc z
 generalize circ X.A X.B X.C z = ci at *
 go_enter Tryz.func112, Tryz.ntmps112
 go_wp2_with fail
 refine zA1 fun W1 hW => ?_
 have Ba : Box W1 (w.heap.size) [.int .i64 p.x, .int .i64 p.y] 30 := by rw [hW]; exact (Box.new rfl).old _
 have Bb : Box W1 (w.heap.size + 1) [.int .i64 q.x, .int .i64 q.y] 30 := by rw [hW]; exact Box.new (by simp)
 have hw : Below w.heap.size w W1 := by rw [hW]; go_grown
 clear hW
 refine (cl _ (Bm.ee hw) (Hm.ee hw)).mono ?_
 rintro e w2 ⟨rfl, hb⟩
 replace Ba := Ba.ee hb
 replace Bb := Bb.ee hb
 replace hw := upB hw hb
 clear hb
 have Fa := Ba.f
 have Fb := Bb.f
 go_wp2_with fail
 clear Fa Fb
 refine zA1 fun W3 hW => ?_
 obtain ⟨bkx, hbx⟩ : ∃ b, w2.heap.size = b := ⟨_, rfl⟩
 rw [hbx]
 have lax := Ba.lt
 rw [hbx] at lax
 have lbx := Bb.lt
 rw [hbx] at lbx
 have fx := hw.size
 rw [hbx] at fx
 have Bx : Box W3 bkx [.int .i64 X.A.x, .int .i64 X.A.y, .int .i64 X.B.x, .int .i64 X.B.y, .int .i64 X.C.x, .int .i64 X.C.y] 38 := by rw [hW]; exact Box.new hbx.symm
 replace Ba : Box W3 (w.heap.size) [.int .i64 p.x, .int .i64 p.y] 30 := by rw [hW]; exact Ba.old _
 replace Bb : Box W3 (w.heap.size + 1) [.int .i64 q.x, .int .i64 q.y] 30 := by rw [hW]; exact Bb.old _
 replace hw : Below w.heap.size w W3 := by have hl := hw.size; rw [hW]; go_grown
 clear hW hbx
 refine (cl' _ (Bm.ee hw) (Hm.ee hw)).mono ?_
 rintro e w4 ⟨rfl, hb⟩
 replace Ba := Ba.ee hb
 replace Bb := Bb.ee hb
 replace Bx := Bx.ee hb
 replace hw := upB hw hb
 clear hb
 have Fa := Ba.f
 have Fb := Bb.f
 have Fx := Bx.f
 go_wp2_with fail
 clear Fa Fb Fx
 refine zA2 fun W5 hW => ?_
 obtain ⟨bky, hby⟩ : ∃ b, w4.heap.size = b := ⟨_, rfl⟩
 rw [hby]
 have lay := Ba.lt
 rw [hby] at lay
 have lby := Bb.lt
 rw [hby] at lby
 have lxy := Bx.lt
 rw [hby] at lxy
 have fy := hw.size
 rw [hby] at fy
 have By : Box W5 bky [.int .i64 Y.A.x, .int .i64 Y.A.y, .int .i64 Y.B.x, .int .i64 Y.B.y, .int .i64 Y.C.x, .int .i64 Y.C.y] 38 := by rw [hW]; exact Box.new hby.symm
 replace Ba : Box W5 (w.heap.size) [.int .i64 p.x, .int .i64 p.y] 30 := by rw [hW]; exact Ba.old _
 replace Bb : Box W5 (w.heap.size + 1) [.int .i64 q.x, .int .i64 q.y] 30 := by rw [hW]; exact Bb.old _
 replace Bx : Box W5 (bkx) [.int .i64 X.A.x, .int .i64 X.A.y, .int .i64 X.B.x, .int .i64 X.B.y, .int .i64 X.C.x, .int .i64 X.C.y] 38 := by rw [hW]; exact Bx.old _
 replace hw : Below w.heap.size w W5 := by have hl := hw.size; rw [hW]; go_grown
 clear hW hby
 have d1 : ∀ d os, Calls Tryz.prog 140 #[.pointer (some ⟨db, 0, none⟩), .agg #[.int .i64 p.x, .int .i64 p.y], .agg #[.int .i64 q.x, .int .i64 q.y]] (grow (redrawn W5 d) os) fun e w' => e = .returned (.int .i64 k) ∧ Below (grow (redrawn W5 d) os).heap.size (grow (redrawn W5 d) os) w' := fun d os => ck _ ((Dw.ee hw).ext (below_regrown W5 d os) rfl)
 clear cl cl' ck Bm Hm Dw
 have ga := Ba.cells
 have gb := Bb.cells
 have gx := Bx.cells
 have gy := By.cells
 refine wp_region_tail 25 (by kernel_rfl) (by kernel_rfl) (C := fun w' => ∃ p : Regrown, w' = grow (redrawn W5 p.d) p.os) rgB ?_
 simp only [tK1, tK0, dP1, dP0]
 repeat (first | (refine zA0 (Eq.refl false) ?_; simp only [Act.put, sT2, sT1, sT0]) | (refine rWalk_step (fun K hK => ?_); go_simp; first | (refine hK _ ?_; clear hK K) | (apply Exists.intro; refine ⟨fun _ => ?_, hK _ ?_⟩; (first | with_reducible exact toExt cf _ | with_reducible exact toExt cc _ | with_reducible exact toExtD d1 _ _); clear hK K)))
 refine rWalk_nil ?_
 intro w6 hb
 clear ga gb gx gy
 replace Ba := Ba.ee hb
 replace Bb := Bb.ee hb
 replace Bx := Bx.ee hb
 replace By := By.ee hb
 replace hw := upB hw hb
 have Fa := Ba.f
 have Fb := Bb.f
 have Fx := Bx.f
 have Fy := By.f
 go_wp2
 go_ret
 exact ⟨rfl, hw⟩
theorem rbad_b (mb b db : Nat) (a0 : Option Addr) (c n : Nat) (E : Es) (D : List Wl) (p q : Pt) (hk : okW (p, q)) (X Y : Tri3) (h1 : lftE E p q = (X, true)) (h2 : lftE E q p = (Y, false)) (w : World) (Bm : Box w mb [.map (some b)] 41) (Hm : HoldsMap eW eT okW w b E) (Dw : DocRd w db a0 c n D) :
    Calls Tryz.prog 112 #[.pointer (some ⟨mb, 0, none⟩), .pointer (some ⟨db, 0, none⟩), .agg #[.int .i64 p.x, .int .i64 p.y], .agg #[.int .i64 q.x, .int .i64 q.y]] w fun e w' => e = .returned (.bool false) ∧ Below w.heap.size w w' := by
 have cl := zB4 mb b E p q hk
 have cl' := zB4 mb b E q p ⟨hk.2, hk.1⟩
 have ck := zEq db a0 c n D p q
 have cf := zFq Y p q
 have cc := fun z => zCv X.A X.B X.C z
 rw [h1] at cl
 rw [h2] at cl'
 clear h1 h2 hk
 generalize kindD D p q = k at *
 generalize apx Y p q = z at *
 replace cc := cc z
 generalize circ X.A X.B X.C z = ci at *
 go_enter Tryz.func112, Tryz.ntmps112
 go_wp2_with fail
 refine zA1 fun W1 hW => ?_
 have Ba : Box W1 (w.heap.size) [.int .i64 p.x, .int .i64 p.y] 30 := by rw [hW]; exact (Box.new rfl).old _
 have Bb : Box W1 (w.heap.size + 1) [.int .i64 q.x, .int .i64 q.y] 30 := by rw [hW]; exact Box.new (by simp)
 have hw : Below w.heap.size w W1 := by rw [hW]; go_grown
 clear hW
 refine (cl _ (Bm.ee hw) (Hm.ee hw)).mono ?_
 rintro e w2 ⟨rfl, hb⟩
 replace Ba := Ba.ee hb
 replace Bb := Bb.ee hb
 replace hw := upB hw hb
 clear hb
 have Fa := Ba.f
 have Fb := Bb.f
 go_wp2_with fail
 clear Fa Fb
 refine zA1 fun W3 hW => ?_
 obtain ⟨bkx, hbx⟩ : ∃ b, w2.heap.size = b := ⟨_, rfl⟩
 rw [hbx]
 have lax := Ba.lt
 rw [hbx] at lax
 have lbx := Bb.lt
 rw [hbx] at lbx
 have fx := hw.size
 rw [hbx] at fx
 have Bx : Box W3 bkx [.int .i64 X.A.x, .int .i64 X.A.y, .int .i64 X.B.x, .int .i64 X.B.y, .int .i64 X.C.x, .int .i64 X.C.y] 38 := by rw [hW]; exact Box.new hbx.symm
 replace Ba : Box W3 (w.heap.size) [.int .i64 p.x, .int .i64 p.y] 30 := by rw [hW]; exact Ba.old _
 replace Bb : Box W3 (w.heap.size + 1) [.int .i64 q.x, .int .i64 q.y] 30 := by rw [hW]; exact Bb.old _
 replace hw : Below w.heap.size w W3 := by have hl := hw.size; rw [hW]; go_grown
 clear hW hbx
 refine (cl' _ (Bm.ee hw) (Hm.ee hw)).mono ?_
 rintro e w4 ⟨rfl, hb⟩
 replace Ba := Ba.ee hb
 replace Bb := Bb.ee hb
 replace Bx := Bx.ee hb
 replace hw := upB hw hb
 clear hb
 have Fa := Ba.f
 have Fb := Bb.f
 have Fx := Bx.f
 go_wp2_with fail
 clear Fa Fb Fx
 refine zA2 fun W5 hW => ?_
 obtain ⟨bky, hby⟩ : ∃ b, w4.heap.size = b := ⟨_, rfl⟩
 rw [hby]
 have lay := Ba.lt
 rw [hby] at lay
 have lby := Bb.lt
 rw [hby] at lby
 have lxy := Bx.lt
 rw [hby] at lxy
 have fy := hw.size
 rw [hby] at fy
 have By : Box W5 bky [.int .i64 Y.A.x, .int .i64 Y.A.y, .int .i64 Y.B.x, .int .i64 Y.B.y, .int .i64 Y.C.x, .int .i64 Y.C.y] 38 := by rw [hW]; exact Box.new hby.symm
 replace Ba : Box W5 (w.heap.size) [.int .i64 p.x, .int .i64 p.y] 30 := by rw [hW]; exact Ba.old _
 replace Bb : Box W5 (w.heap.size + 1) [.int .i64 q.x, .int .i64 q.y] 30 := by rw [hW]; exact Bb.old _
 replace Bx : Box W5 (bkx) [.int .i64 X.A.x, .int .i64 X.A.y, .int .i64 X.B.x, .int .i64 X.B.y, .int .i64 X.C.x, .int .i64 X.C.y] 38 := by rw [hW]; exact Bx.old _
 replace hw : Below w.heap.size w W5 := by have hl := hw.size; rw [hW]; go_grown
 clear hW hby
 have d1 : ∀ d os, Calls Tryz.prog 140 #[.pointer (some ⟨db, 0, none⟩), .agg #[.int .i64 p.x, .int .i64 p.y], .agg #[.int .i64 q.x, .int .i64 q.y]] (grow (redrawn W5 d) os) fun e w' => e = .returned (.int .i64 k) ∧ Below (grow (redrawn W5 d) os).heap.size (grow (redrawn W5 d) os) w' := fun d os => ck _ ((Dw.ee hw).ext (below_regrown W5 d os) rfl)
 clear cl cl' ck Bm Hm Dw
 have ga := Ba.cells
 have gb := Bb.cells
 have gx := Bx.cells
 have gy := By.cells
 refine wp_region_tail 25 (by kernel_rfl) (by kernel_rfl) (C := fun w' => ∃ p : Regrown, w' = grow (redrawn W5 p.d) p.os) rgB ?_
 simp only [tK1, tK0, dP1, dP0]
 repeat (first | (refine zA0 (Eq.refl false) ?_; simp only [Act.put, sT2, sT1, sT0]) | (refine rWalk_step (fun K hK => ?_); go_simp; first | (refine hK _ ?_; clear hK K) | (apply Exists.intro; refine ⟨fun _ => ?_, hK _ ?_⟩; (first | with_reducible exact toExt cf _ | with_reducible exact toExt cc _ | with_reducible exact toExtD d1 _ _); clear hK K)))
 refine rWalk_nil ?_
 intro w6 hb
 clear ga gb gx gy
 replace Ba := Ba.ee hb
 replace Bb := Bb.ee hb
 replace Bx := Bx.ee hb
 replace By := By.ee hb
 replace hw := upB hw hb
 have Fa := Ba.f
 have Fb := Bb.f
 have Fx := Bx.f
 have Fy := By.f
 go_wp2
 go_ret
 exact ⟨rfl, hw⟩
theorem rbad_c (mb b db : Nat) (a0 : Option Addr) (c n : Nat) (E : Es) (D : List Wl) (p q : Pt) (hk : okW (p, q)) (X Y : Tri3) (h1 : lftE E p q = (X, true)) (h2 : lftE E q p = (Y, true)) (h3 : decide (kindD D p q = 0) = false) (w : World) (Bm : Box w mb [.map (some b)] 41) (Hm : HoldsMap eW eT okW w b E) (Dw : DocRd w db a0 c n D) :
    Calls Tryz.prog 112 #[.pointer (some ⟨mb, 0, none⟩), .pointer (some ⟨db, 0, none⟩), .agg #[.int .i64 p.x, .int .i64 p.y], .agg #[.int .i64 q.x, .int .i64 q.y]] w fun e w' => e = .returned (.bool false) ∧ Below w.heap.size w w' := by
 have cl := zB4 mb b E p q hk
 have cl' := zB4 mb b E q p ⟨hk.2, hk.1⟩
 have ck := zEq db a0 c n D p q
 have cf := zFq Y p q
 have cc := fun z => zCv X.A X.B X.C z
 rw [h1] at cl
 rw [h2] at cl'
 clear h1 h2 hk
 generalize kindD D p q = k at *
 generalize apx Y p q = z at *
 replace cc := cc z
 generalize circ X.A X.B X.C z = ci at *
 have h3 : (k == 0) = false := by simpa using h3
 go_enter Tryz.func112, Tryz.ntmps112
 go_wp2_with fail
 refine zA1 fun W1 hW => ?_
 have Ba : Box W1 (w.heap.size) [.int .i64 p.x, .int .i64 p.y] 30 := by rw [hW]; exact (Box.new rfl).old _
 have Bb : Box W1 (w.heap.size + 1) [.int .i64 q.x, .int .i64 q.y] 30 := by rw [hW]; exact Box.new (by simp)
 have hw : Below w.heap.size w W1 := by rw [hW]; go_grown
 clear hW
 refine (cl _ (Bm.ee hw) (Hm.ee hw)).mono ?_
 rintro e w2 ⟨rfl, hb⟩
 replace Ba := Ba.ee hb
 replace Bb := Bb.ee hb
 replace hw := upB hw hb
 clear hb
 have Fa := Ba.f
 have Fb := Bb.f
 go_wp2_with fail
 clear Fa Fb
 refine zA1 fun W3 hW => ?_
 obtain ⟨bkx, hbx⟩ : ∃ b, w2.heap.size = b := ⟨_, rfl⟩
 rw [hbx]
 have lax := Ba.lt
 rw [hbx] at lax
 have lbx := Bb.lt
 rw [hbx] at lbx
 have fx := hw.size
 rw [hbx] at fx
 have Bx : Box W3 bkx [.int .i64 X.A.x, .int .i64 X.A.y, .int .i64 X.B.x, .int .i64 X.B.y, .int .i64 X.C.x, .int .i64 X.C.y] 38 := by rw [hW]; exact Box.new hbx.symm
 replace Ba : Box W3 (w.heap.size) [.int .i64 p.x, .int .i64 p.y] 30 := by rw [hW]; exact Ba.old _
 replace Bb : Box W3 (w.heap.size + 1) [.int .i64 q.x, .int .i64 q.y] 30 := by rw [hW]; exact Bb.old _
 replace hw : Below w.heap.size w W3 := by have hl := hw.size; rw [hW]; go_grown
 clear hW hbx
 refine (cl' _ (Bm.ee hw) (Hm.ee hw)).mono ?_
 rintro e w4 ⟨rfl, hb⟩
 replace Ba := Ba.ee hb
 replace Bb := Bb.ee hb
 replace Bx := Bx.ee hb
 replace hw := upB hw hb
 clear hb
 have Fa := Ba.f
 have Fb := Bb.f
 have Fx := Bx.f
 go_wp2_with fail
 clear Fa Fb Fx
 refine zA2 fun W5 hW => ?_
 obtain ⟨bky, hby⟩ : ∃ b, w4.heap.size = b := ⟨_, rfl⟩
 rw [hby]
 have lay := Ba.lt
 rw [hby] at lay
 have lby := Bb.lt
 rw [hby] at lby
 have lxy := Bx.lt
 rw [hby] at lxy
 have fy := hw.size
 rw [hby] at fy
 have By : Box W5 bky [.int .i64 Y.A.x, .int .i64 Y.A.y, .int .i64 Y.B.x, .int .i64 Y.B.y, .int .i64 Y.C.x, .int .i64 Y.C.y] 38 := by rw [hW]; exact Box.new hby.symm
 replace Ba : Box W5 (w.heap.size) [.int .i64 p.x, .int .i64 p.y] 30 := by rw [hW]; exact Ba.old _
 replace Bb : Box W5 (w.heap.size + 1) [.int .i64 q.x, .int .i64 q.y] 30 := by rw [hW]; exact Bb.old _
 replace Bx : Box W5 (bkx) [.int .i64 X.A.x, .int .i64 X.A.y, .int .i64 X.B.x, .int .i64 X.B.y, .int .i64 X.C.x, .int .i64 X.C.y] 38 := by rw [hW]; exact Bx.old _
 replace hw : Below w.heap.size w W5 := by have hl := hw.size; rw [hW]; go_grown
 clear hW hby
 have d1 : ∀ d os, Calls Tryz.prog 140 #[.pointer (some ⟨db, 0, none⟩), .agg #[.int .i64 p.x, .int .i64 p.y], .agg #[.int .i64 q.x, .int .i64 q.y]] (grow (redrawn W5 d) os) fun e w' => e = .returned (.int .i64 k) ∧ Below (grow (redrawn W5 d) os).heap.size (grow (redrawn W5 d) os) w' := fun d os => ck _ ((Dw.ee hw).ext (below_regrown W5 d os) rfl)
 clear cl cl' ck Bm Hm Dw
 have ga := Ba.cells
 have gb := Bb.cells
 have gx := Bx.cells
 have gy := By.cells
 refine wp_region_tail 25 (by kernel_rfl) (by kernel_rfl) (C := fun w' => ∃ p : Regrown, w' = grow (redrawn W5 p.d) p.os) rgB ?_
 simp only [tK1, tK0, dP1, dP0]
 repeat (first | (refine zA0 (Eq.refl false) ?_; simp only [Act.put, sT2, sT1, sT0]) | (refine rWalk_step (fun K hK => ?_); go_simp; first | (refine hK _ ?_; clear hK K) | (apply Exists.intro; refine ⟨fun _ => ?_, hK _ ?_⟩; (first | with_reducible exact toExt cf _ | with_reducible exact toExt cc _ | with_reducible exact toExtD d1 _ _); clear hK K)))
 refine rWalk_nil ?_
 intro w6 hb
 clear ga gb gx gy
 replace Ba := Ba.ee hb
 replace Bb := Bb.ee hb
 replace Bx := Bx.ee hb
 replace By := By.ee hb
 replace hw := upB hw hb
 have Fa := Ba.f
 have Fb := Bb.f
 have Fx := Bx.f
 have Fy := By.f
 go_wp2
 go_ret
 exact ⟨rfl, hw⟩
theorem rbad_d (mb b db : Nat) (a0 : Option Addr) (c n : Nat) (E : Es) (D : List Wl) (p q : Pt) (hk : okW (p, q)) (X Y : Tri3) (h1 : lftE E p q = (X, true)) (h2 : lftE E q p = (Y, true)) (h3 : kindD D p q = 0) (w : World) (Bm : Box w mb [.map (some b)] 41) (Hm : HoldsMap eW eT okW w b E) (Dw : DocRd w db a0 c n D) :
    Calls Tryz.prog 112 #[.pointer (some ⟨mb, 0, none⟩), .pointer (some ⟨db, 0, none⟩), .agg #[.int .i64 p.x, .int .i64 p.y], .agg #[.int .i64 q.x, .int .i64 q.y]] w fun e w' => e = .returned (.bool (circ X.A X.B X.C (apx Y p q) == 1)) ∧ Below w.heap.size w w' := by
 have cl := zB4 mb b E p q hk
 have cl' := zB4 mb b E q p ⟨hk.2, hk.1⟩
 have ck := zEq db a0 c n D p q
 have cf := zFq Y p q
 have cc := fun z => zCv X.A X.B X.C z
 rw [h1] at cl
 rw [h2] at cl'
 clear h1 h2 hk
 generalize kindD D p q = k at *
 generalize apx Y p q = z at *
 replace cc := cc z
 generalize circ X.A X.B X.C z = ci at *
 subst h3
 go_enter Tryz.func112, Tryz.ntmps112
 go_wp2_with fail
 refine zA1 fun W1 hW => ?_
 have Ba : Box W1 (w.heap.size) [.int .i64 p.x, .int .i64 p.y] 30 := by rw [hW]; exact (Box.new rfl).old _
 have Bb : Box W1 (w.heap.size + 1) [.int .i64 q.x, .int .i64 q.y] 30 := by rw [hW]; exact Box.new (by simp)
 have hw : Below w.heap.size w W1 := by rw [hW]; go_grown
 clear hW
 refine (cl _ (Bm.ee hw) (Hm.ee hw)).mono ?_
 rintro e w2 ⟨rfl, hb⟩
 replace Ba := Ba.ee hb
 replace Bb := Bb.ee hb
 replace hw := upB hw hb
 clear hb
 have Fa := Ba.f
 have Fb := Bb.f
 go_wp2_with fail
 clear Fa Fb
 refine zA1 fun W3 hW => ?_
 obtain ⟨bkx, hbx⟩ : ∃ b, w2.heap.size = b := ⟨_, rfl⟩
 rw [hbx]
 have lax := Ba.lt
 rw [hbx] at lax
 have lbx := Bb.lt
 rw [hbx] at lbx
 have fx := hw.size
 rw [hbx] at fx
 have Bx : Box W3 bkx [.int .i64 X.A.x, .int .i64 X.A.y, .int .i64 X.B.x, .int .i64 X.B.y, .int .i64 X.C.x, .int .i64 X.C.y] 38 := by rw [hW]; exact Box.new hbx.symm
 replace Ba : Box W3 (w.heap.size) [.int .i64 p.x, .int .i64 p.y] 30 := by rw [hW]; exact Ba.old _
 replace Bb : Box W3 (w.heap.size + 1) [.int .i64 q.x, .int .i64 q.y] 30 := by rw [hW]; exact Bb.old _
 replace hw : Below w.heap.size w W3 := by have hl := hw.size; rw [hW]; go_grown
 clear hW hbx
 refine (cl' _ (Bm.ee hw) (Hm.ee hw)).mono ?_
 rintro e w4 ⟨rfl, hb⟩
 replace Ba := Ba.ee hb
 replace Bb := Bb.ee hb
 replace Bx := Bx.ee hb
 replace hw := upB hw hb
 clear hb
 have Fa := Ba.f
 have Fb := Bb.f
 have Fx := Bx.f
 go_wp2_with fail
 clear Fa Fb Fx
 refine zA2 fun W5 hW => ?_
 obtain ⟨bky, hby⟩ : ∃ b, w4.heap.size = b := ⟨_, rfl⟩
 rw [hby]
 have lay := Ba.lt
 rw [hby] at lay
 have lby := Bb.lt
 rw [hby] at lby
 have lxy := Bx.lt
 rw [hby] at lxy
 have fy := hw.size
 rw [hby] at fy
 have By : Box W5 bky [.int .i64 Y.A.x, .int .i64 Y.A.y, .int .i64 Y.B.x, .int .i64 Y.B.y, .int .i64 Y.C.x, .int .i64 Y.C.y] 38 := by rw [hW]; exact Box.new hby.symm
 replace Ba : Box W5 (w.heap.size) [.int .i64 p.x, .int .i64 p.y] 30 := by rw [hW]; exact Ba.old _
 replace Bb : Box W5 (w.heap.size + 1) [.int .i64 q.x, .int .i64 q.y] 30 := by rw [hW]; exact Bb.old _
 replace Bx : Box W5 (bkx) [.int .i64 X.A.x, .int .i64 X.A.y, .int .i64 X.B.x, .int .i64 X.B.y, .int .i64 X.C.x, .int .i64 X.C.y] 38 := by rw [hW]; exact Bx.old _
 replace hw : Below w.heap.size w W5 := by have hl := hw.size; rw [hW]; go_grown
 clear hW hby
 have d1 : ∀ d os, Calls Tryz.prog 140 #[.pointer (some ⟨db, 0, none⟩), .agg #[.int .i64 p.x, .int .i64 p.y], .agg #[.int .i64 q.x, .int .i64 q.y]] (grow (redrawn W5 d) os) fun e w' => e = .returned (.int .i64 0) ∧ Below (grow (redrawn W5 d) os).heap.size (grow (redrawn W5 d) os) w' := fun d os => ck _ ((Dw.ee hw).ext (below_regrown W5 d os) rfl)
 clear cl cl' ck Bm Hm Dw
 have ga := Ba.cells
 have gb := Bb.cells
 have gx := Bx.cells
 have gy := By.cells
 refine wp_region_tail 25 (by kernel_rfl) (by kernel_rfl) (C := fun w' => ∃ p : Regrown, w' = grow (redrawn W5 p.d) p.os) rgB ?_
 simp only [tK1, tK0, dP1, dP0]
 repeat (first | (refine zA0 (Eq.refl false) ?_; simp only [Act.put, sT2, sT1, sT0]) | (refine rWalk_step (fun K hK => ?_); go_simp; first | (refine hK _ ?_; clear hK K) | (apply Exists.intro; refine ⟨fun _ => ?_, hK _ ?_⟩; (first | with_reducible exact toExt cf _ | with_reducible exact toExt cc _ | with_reducible exact toExtD d1 _ _); clear hK K)))
 refine rWalk_nil ?_
 intro w6 hb
 clear ga gb gx gy
 replace Ba := Ba.ee hb
 replace Bb := Bb.ee hb
 replace Bx := Bx.ee hb
 replace By := By.ee hb
 replace hw := upB hw hb
 have Fa := Ba.f
 have Fb := Bb.f
 have Fx := Bx.f
 have Fy := By.f
 go_wp2
 go_ret
 exact ⟨rfl, hw⟩
theorem zIq (mb b db : Nat) (a0 : Option Addr) (c n : Nat) (E : Es) (D : List Wl) (p q : Pt) (hk : okW (p, q)) (w : World) (Bm : Box w mb [.map (some b)] 41) (Hm : HoldsMap eW eT okW w b E) (Dw : DocRd w db a0 c n D) :
    Calls Tryz.prog 112 #[.pointer (some ⟨mb, 0, none⟩), .pointer (some ⟨db, 0, none⟩), .agg #[.int .i64 p.x, .int .i64 p.y], .agg #[.int .i64 q.x, .int .i64 q.y]] w fun e w' => e = .returned (.bool (badD E D p q)) ∧ Below w.heap.size w w' := by
 unfold badD
 cases h1 : lftE E p q with
 | mk X v1 =>
  cases h2 : lftE E q p with
  | mk Y v2 =>
   cases v1 with
   | false => exact rbad_a mb b db a0 c n E D p q hk X Y h1 v2 h2 w Bm Hm Dw
   | true =>
    cases v2 with
    | false => exact rbad_b mb b db a0 c n E D p q hk X Y h1 h2 w Bm Hm Dw
    | true =>
     by_cases h3 : kindD D p q = 0
     ·have k := rbad_d mb b db a0 c n E D p q hk X Y h1 h2 h3 w Bm Hm Dw
      have e : (circ X.A X.B X.C (apx Y p q) == 1) = decide (circ X.A X.B X.C (apx Y p q) = 1) := rfl
      rw [e] at k
      simpa [h3] using k
     ·simpa [h3] using rbad_c mb b db a0 c n E D p q hk X Y h1 h2 (by simpa using h3) w Bm Hm Dw
attribute [local go_sem] rmap_nil
theorem rput_0 (mb b : Nat) (E : Es) (T : Tri3) (S : Tri3) (hg0 : getE E (T.A, T.B) = some S) (hk : okT T) (w : World) (Bm : Box w mb [.map (some b)] 41) (Hm : HoldsMap eW eT okW w b E) :
    Calls Tryz.prog 86 #[.pointer (some ⟨mb, 0, none⟩), .agg #[.int .i64 T.A.x, .int .i64 T.A.y, .int .i64 T.B.x, .int .i64 T.B.y, .int .i64 T.C.x, .int .i64 T.C.y]] w fun e w' => e = .returned (.bool false) ∧ Below w.heap.size w w' := by
 have ce := zCi T
 go_enter Tryz.func86, Tryz.ntmps86
 go_wp2_with fail
 refine zA1 fun W1 hW => ?_
 have Bt : Box W1 (w.heap.size) [.int .i64 T.A.x, .int .i64 T.A.y, .int .i64 T.B.x, .int .i64 T.B.y, .int .i64 T.C.x, .int .i64 T.C.y] 38 := by rw [hW]; exact Box.new rfl
 have hw : Below w.heap.size w W1 := by rw [hW]; go_grown
 clear hW
 refine (ce _).mono ?_
 rintro e w2 ⟨rfl, hb⟩
 replace Bt := Bt.ee hb
 replace hw := upB hw hb
 clear hb
 have Ft := Bt.f
 go_wp2_with fail
 refine zA2 fun W3 hW => ?_
 obtain ⟨bke, hbe⟩ : ∃ b, w2.heap.size = b := ⟨_, rfl⟩
 rw [hbe]
 have lte := Bt.lt
 rw [hbe] at lte
 have fe := hw.size
 rw [hbe] at fe
 have Be : Box W3 bke [.int .i64 T.A.x, .int .i64 T.A.y, .int .i64 T.B.x, .int .i64 T.B.y, .int .i64 T.B.x, .int .i64 T.B.y, .int .i64 T.C.x, .int .i64 T.C.y, .int .i64 T.C.x, .int .i64 T.C.y, .int .i64 T.A.x, .int .i64 T.A.y] 95 := by rw [hW]; exact Box.new hbe.symm
 replace Bt : Box W3 (w.heap.size) [.int .i64 T.A.x, .int .i64 T.A.y, .int .i64 T.B.x, .int .i64 T.B.y, .int .i64 T.C.x, .int .i64 T.C.y] 38 := by rw [hW]; exact Bt.old _
 replace hw : Below w.heap.size w W3 := by have hl := hw.size; rw [hW]; go_grown
 clear hW hbe
 have BM : Box W3 (mb) [.map (some b)] 41 := Bm.ee hw
 refine wp_loop_rounds 5 ?_
 try rw [rounds_succ]
 have Ft := Bt.f
 have Fe := Be.f
 have FM := BM.f
 go_wp2_with fail
 refine zA2 fun W4 hW => ?_
 replace hw : Below w.heap.size w W4 := by rw [hW]; exact hw
 replace Bt : Box W4 (w.heap.size) [.int .i64 T.A.x, .int .i64 T.A.y, .int .i64 T.B.x, .int .i64 T.B.y, .int .i64 T.C.x, .int .i64 T.C.y] 38 := by rw [hW]; exact Bt
 replace Be : Box W4 (bke) [.int .i64 T.A.x, .int .i64 T.A.y, .int .i64 T.B.x, .int .i64 T.B.y, .int .i64 T.B.x, .int .i64 T.B.y, .int .i64 T.C.x, .int .i64 T.C.y, .int .i64 T.C.x, .int .i64 T.C.y, .int .i64 T.A.x, .int .i64 T.A.y] 95 := by rw [hW]; exact Be
 replace BM : Box W4 (mb) [.map (some b)] 41 := by rw [hW]; exact BM
 clear hW
 clear Ft Fe FM
 have hl : ∀ d os, (Instr.lookup 39 (.map (some b)) (.agg #[.int .i64 T.A.x, .int .i64 T.A.y, .int .i64 T.B.x, .int .i64 T.B.y]) true).run Tryz.prog (grow (redrawn W4 d) os) = .ok (.tuple #[.agg #[.int .i64 S.A.x, .int .i64 S.A.y, .int .i64 S.B.x, .int .i64 S.B.y, .int .i64 S.C.x, .int .i64 S.C.y], .bool true]) (grow (redrawn W4 d) os) := fun d os => ((Hm.ee hw).ext (below_regrown W4 d os) rfl).look_some kvR zAo (okT_w hk).1 hg0
 clear hg0
 have gt := Bt.cells
 have ge := Be.cells
 have gM := BM.cells
 refine zA3 11 7 25 [.int .i64 S.A.x, .int .i64 S.A.y, .int .i64 S.B.x, .int .i64 S.B.y, .int .i64 S.C.x, .int .i64 S.C.y] (zs := [.int .i64 0, .int .i64 0, .int .i64 0, .int .i64 0, .int .i64 0, .int .i64 0]) (eff := eff6 (.int .i64 S.A.x) (.int .i64 S.A.y) (.int .i64 S.B.x) (.int .i64 S.B.y) (.int .i64 S.C.x) (.int .i64 S.C.y)) zAe rfl rfl rfl rfl rfl rfl rfl (by simp) (fun ρ W => by simp [execOp, go_sem]; rfl) (by kernel_rfl) (by as_aux_lemma => kernel_rfl) (C := fun w' => ∃ p : Regrown, w' = grow (redrawn W4 p.d) p.os) rgB ?_ (fun ρ W b e1 e2 hB => by obtain ⟨x, y, _, _⟩ := hB.f; simp [execOp, go_sem, e1, e2, x, y, eff6])
 simp only [tK1, tK0, dP1, dP0]
 repeat (first | (refine zA0 (Eq.refl false) ?_; simp only [Act.put, sT2, sT1, sT0]) | (refine rWalk_step (fun K hK => ?_); go_simp; first | (refine hK _ ?_; clear hK K) | (apply Exists.intro; refine ⟨fun _ => ?_, hK _ ?_⟩; (first | fail); clear hK K)))
 refine rWalk_nil ⟨rfl, ?_⟩
 intro w5 bks0 hb h1b h2b Bs0
 have lts0 := Bt.lt
 have les0 := Be.lt
 have lMs0 := BM.lt
 have hw0z := hw.size
 clear gt ge gM
 replace Bt := Bt.ee hb
 replace Be := Be.ee hb
 replace BM := BM.ee hb
 replace hw := upB hw hb
 have fs0 := h1b
 have hwz : w.heap.size ≤ W4.heap.size := hw0z
 clear hb h1b h2b hw0z
 simp only [Act.put]
 clear hl
 have Ft := Bt.f
 have Fe := Be.f
 have FM := BM.f
 have Fs0 := Bs0.f
 go_wp2
 go_ret
 exact ⟨rfl, hw⟩
theorem rput_1 (mb b : Nat) (E : Es) (T : Tri3) (S : Tri3) (hg0 : getE E (T.A, T.B) = none) (hg1 : getE E (T.B, T.C) = some S) (hk : okT T) (w : World) (Bm : Box w mb [.map (some b)] 41) (Hm : HoldsMap eW eT okW w b E) :
    Calls Tryz.prog 86 #[.pointer (some ⟨mb, 0, none⟩), .agg #[.int .i64 T.A.x, .int .i64 T.A.y, .int .i64 T.B.x, .int .i64 T.B.y, .int .i64 T.C.x, .int .i64 T.C.y]] w fun e w' => e = .returned (.bool false) ∧ Below w.heap.size w w' := by
 have ce := zCi T
 go_enter Tryz.func86, Tryz.ntmps86
 go_wp2_with fail
 refine zA1 fun W1 hW => ?_
 have Bt : Box W1 (w.heap.size) [.int .i64 T.A.x, .int .i64 T.A.y, .int .i64 T.B.x, .int .i64 T.B.y, .int .i64 T.C.x, .int .i64 T.C.y] 38 := by rw [hW]; exact Box.new rfl
 have hw : Below w.heap.size w W1 := by rw [hW]; go_grown
 clear hW
 refine (ce _).mono ?_
 rintro e w2 ⟨rfl, hb⟩
 replace Bt := Bt.ee hb
 replace hw := upB hw hb
 clear hb
 have Ft := Bt.f
 go_wp2_with fail
 refine zA2 fun W3 hW => ?_
 obtain ⟨bke, hbe⟩ : ∃ b, w2.heap.size = b := ⟨_, rfl⟩
 rw [hbe]
 have lte := Bt.lt
 rw [hbe] at lte
 have fe := hw.size
 rw [hbe] at fe
 have Be : Box W3 bke [.int .i64 T.A.x, .int .i64 T.A.y, .int .i64 T.B.x, .int .i64 T.B.y, .int .i64 T.B.x, .int .i64 T.B.y, .int .i64 T.C.x, .int .i64 T.C.y, .int .i64 T.C.x, .int .i64 T.C.y, .int .i64 T.A.x, .int .i64 T.A.y] 95 := by rw [hW]; exact Box.new hbe.symm
 replace Bt : Box W3 (w.heap.size) [.int .i64 T.A.x, .int .i64 T.A.y, .int .i64 T.B.x, .int .i64 T.B.y, .int .i64 T.C.x, .int .i64 T.C.y] 38 := by rw [hW]; exact Bt.old _
 replace hw : Below w.heap.size w W3 := by have hl := hw.size; rw [hW]; go_grown
 clear hW hbe
 have BM : Box W3 (mb) [.map (some b)] 41 := Bm.ee hw
 refine wp_loop_rounds 5 ?_
 try rw [rounds_succ]
 have Ft := Bt.f
 have Fe := Be.f
 have FM := BM.f
 go_wp2_with fail
 refine zA2 fun W4 hW => ?_
 replace hw : Below w.heap.size w W4 := by rw [hW]; exact hw
 replace Bt : Box W4 (w.heap.size) [.int .i64 T.A.x, .int .i64 T.A.y, .int .i64 T.B.x, .int .i64 T.B.y, .int .i64 T.C.x, .int .i64 T.C.y] 38 := by rw [hW]; exact Bt
 replace Be : Box W4 (bke) [.int .i64 T.A.x, .int .i64 T.A.y, .int .i64 T.B.x, .int .i64 T.B.y, .int .i64 T.B.x, .int .i64 T.B.y, .int .i64 T.C.x, .int .i64 T.C.y, .int .i64 T.C.x, .int .i64 T.C.y, .int .i64 T.A.x, .int .i64 T.A.y] 95 := by rw [hW]; exact Be
 replace BM : Box W4 (mb) [.map (some b)] 41 := by rw [hW]; exact BM
 clear hW
 clear Ft Fe FM
 have hl : ∀ d os, (Instr.lookup 39 (.map (some b)) (.agg #[.int .i64 T.A.x, .int .i64 T.A.y, .int .i64 T.B.x, .int .i64 T.B.y]) true).run Tryz.prog (grow (redrawn W4 d) os) = .ok (.tuple #[.agg #[.int .i64 0, .int .i64 0, .int .i64 0, .int .i64 0, .int .i64 0, .int .i64 0], .bool false]) (grow (redrawn W4 d) os) := fun d os => ((Hm.ee hw).ext (below_regrown W4 d os) rfl).look_none kvR zAo (okT_w hk).1 hg0
 clear hg0
 have gt := Bt.cells
 have ge := Be.cells
 have gM := BM.cells
 refine zA3 11 7 25 [.int .i64 0, .int .i64 0, .int .i64 0, .int .i64 0, .int .i64 0, .int .i64 0] (zs := [.int .i64 0, .int .i64 0, .int .i64 0, .int .i64 0, .int .i64 0, .int .i64 0]) (eff := eff6 (.int .i64 0) (.int .i64 0) (.int .i64 0) (.int .i64 0) (.int .i64 0) (.int .i64 0)) zAe rfl rfl rfl rfl rfl rfl rfl (by simp) (fun ρ W => by simp [execOp, go_sem]; rfl) (by kernel_rfl) (by as_aux_lemma => kernel_rfl) (C := fun w' => ∃ p : Regrown, w' = grow (redrawn W4 p.d) p.os) rgB ?_ (fun ρ W b e1 e2 hB => by obtain ⟨x, y, _, _⟩ := hB.f; simp [execOp, go_sem, e1, e2, x, y, eff6])
 simp only [tK1, tK0, dP1, dP0]
 repeat (first | (refine zA0 (Eq.refl false) ?_; simp only [Act.put, sT2, sT1, sT0]) | (refine rWalk_step (fun K hK => ?_); go_simp; first | (refine hK _ ?_; clear hK K) | (apply Exists.intro; refine ⟨fun _ => ?_, hK _ ?_⟩; (first | fail); clear hK K)))
 refine rWalk_nil ⟨rfl, ?_⟩
 intro w5 bks0 hb h1b h2b Bs0
 have lts0 := Bt.lt
 have les0 := Be.lt
 have lMs0 := BM.lt
 have hw0z := hw.size
 clear gt ge gM
 replace Bt := Bt.ee hb
 replace Be := Be.ee hb
 replace BM := BM.ee hb
 replace hw := upB hw hb
 have fs0 := h1b
 have hwz : w.heap.size ≤ W4.heap.size := hw0z
 clear hb h1b h2b hw0z
 simp only [Act.put]
 clear hl
 have Ft := Bt.f
 have Fe := Be.f
 have FM := BM.f
 have Fs0 := Bs0.f
 go_wp2_with fail
 clear Ft Fe FM Fs0
 clear Bs0
 try rw [rounds_succ]
 have Ft := Bt.f
 have Fe := Be.f
 have FM := BM.f
 go_wp2_with fail
 refine zA2 fun W6 hW => ?_
 replace hw : Below w.heap.size w W6 := by rw [hW]; exact hw
 replace Bt : Box W6 (w.heap.size) [.int .i64 T.A.x, .int .i64 T.A.y, .int .i64 T.B.x, .int .i64 T.B.y, .int .i64 T.C.x, .int .i64 T.C.y] 38 := by rw [hW]; exact Bt
 replace Be : Box W6 (bke) [.int .i64 T.A.x, .int .i64 T.A.y, .int .i64 T.B.x, .int .i64 T.B.y, .int .i64 T.B.x, .int .i64 T.B.y, .int .i64 T.C.x, .int .i64 T.C.y, .int .i64 T.C.x, .int .i64 T.C.y, .int .i64 T.A.x, .int .i64 T.A.y] 95 := by rw [hW]; exact Be
 replace BM : Box W6 (mb) [.map (some b)] 41 := by rw [hW]; exact BM
 clear hW
 clear Ft Fe FM
 have hl : ∀ d os, (Instr.lookup 39 (.map (some b)) (.agg #[.int .i64 T.B.x, .int .i64 T.B.y, .int .i64 T.C.x, .int .i64 T.C.y]) true).run Tryz.prog (grow (redrawn W6 d) os) = .ok (.tuple #[.agg #[.int .i64 S.A.x, .int .i64 S.A.y, .int .i64 S.B.x, .int .i64 S.B.y, .int .i64 S.C.x, .int .i64 S.C.y], .bool true]) (grow (redrawn W6 d) os) := fun d os => ((Hm.ee hw).ext (below_regrown W6 d os) rfl).look_some kvR zAo (okT_w hk).2.1 hg1
 clear hg1
 have gt := Bt.cells
 have ge := Be.cells
 have gM := BM.cells
 refine zA3 11 7 25 [.int .i64 S.A.x, .int .i64 S.A.y, .int .i64 S.B.x, .int .i64 S.B.y, .int .i64 S.C.x, .int .i64 S.C.y] (zs := [.int .i64 0, .int .i64 0, .int .i64 0, .int .i64 0, .int .i64 0, .int .i64 0]) (eff := eff6 (.int .i64 S.A.x) (.int .i64 S.A.y) (.int .i64 S.B.x) (.int .i64 S.B.y) (.int .i64 S.C.x) (.int .i64 S.C.y)) zAe rfl rfl rfl rfl rfl rfl rfl (by simp) (fun ρ W => by simp [execOp, go_sem]; rfl) (by kernel_rfl) (by as_aux_lemma => kernel_rfl) (C := fun w' => ∃ p : Regrown, w' = grow (redrawn W6 p.d) p.os) rgB ?_ (fun ρ W b e1 e2 hB => by obtain ⟨x, y, _, _⟩ := hB.f; simp [execOp, go_sem, e1, e2, x, y, eff6])
 simp only [tK1, tK0, dP1, dP0]
 repeat (first | (refine zA0 (Eq.refl false) ?_; simp only [Act.put, sT2, sT1, sT0]) | (refine rWalk_step (fun K hK => ?_); go_simp; first | (refine hK _ ?_; clear hK K) | (apply Exists.intro; refine ⟨fun _ => ?_, hK _ ?_⟩; (first | fail); clear hK K)))
 refine rWalk_nil ⟨rfl, ?_⟩
 intro w7 bks1 hb h1b h2b Bs1
 have lts1 := Bt.lt
 have les1 := Be.lt
 have lMs1 := BM.lt
 have hw0z := hw.size
 clear gt ge gM
 replace Bt := Bt.ee hb
 replace Be := Be.ee hb
 replace BM := BM.ee hb
 replace hw := upB hw hb
 have fs1 := h1b
 have hwz : w.heap.size ≤ W6.heap.size := hw0z
 clear hb h1b h2b hw0z
 simp only [Act.put]
 clear hl
 have Ft := Bt.f
 have Fe := Be.f
 have FM := BM.f
 have Fs1 := Bs1.f
 go_wp2
 go_ret
 exact ⟨rfl, hw⟩
theorem rput_2 (mb b : Nat) (E : Es) (T : Tri3) (S : Tri3) (hg0 : getE E (T.A, T.B) = none) (hg1 : getE E (T.B, T.C) = none) (hg2 : getE E (T.C, T.A) = some S) (hk : okT T) (w : World) (Bm : Box w mb [.map (some b)] 41) (Hm : HoldsMap eW eT okW w b E) :
    Calls Tryz.prog 86 #[.pointer (some ⟨mb, 0, none⟩), .agg #[.int .i64 T.A.x, .int .i64 T.A.y, .int .i64 T.B.x, .int .i64 T.B.y, .int .i64 T.C.x, .int .i64 T.C.y]] w fun e w' => e = .returned (.bool false) ∧ Below w.heap.size w w' := by
 have ce := zCi T
 go_enter Tryz.func86, Tryz.ntmps86
 go_wp2_with fail
 refine zA1 fun W1 hW => ?_
 have Bt : Box W1 (w.heap.size) [.int .i64 T.A.x, .int .i64 T.A.y, .int .i64 T.B.x, .int .i64 T.B.y, .int .i64 T.C.x, .int .i64 T.C.y] 38 := by rw [hW]; exact Box.new rfl
 have hw : Below w.heap.size w W1 := by rw [hW]; go_grown
 clear hW
 refine (ce _).mono ?_
 rintro e w2 ⟨rfl, hb⟩
 replace Bt := Bt.ee hb
 replace hw := upB hw hb
 clear hb
 have Ft := Bt.f
 go_wp2_with fail
 refine zA2 fun W3 hW => ?_
 obtain ⟨bke, hbe⟩ : ∃ b, w2.heap.size = b := ⟨_, rfl⟩
 rw [hbe]
 have lte := Bt.lt
 rw [hbe] at lte
 have fe := hw.size
 rw [hbe] at fe
 have Be : Box W3 bke [.int .i64 T.A.x, .int .i64 T.A.y, .int .i64 T.B.x, .int .i64 T.B.y, .int .i64 T.B.x, .int .i64 T.B.y, .int .i64 T.C.x, .int .i64 T.C.y, .int .i64 T.C.x, .int .i64 T.C.y, .int .i64 T.A.x, .int .i64 T.A.y] 95 := by rw [hW]; exact Box.new hbe.symm
 replace Bt : Box W3 (w.heap.size) [.int .i64 T.A.x, .int .i64 T.A.y, .int .i64 T.B.x, .int .i64 T.B.y, .int .i64 T.C.x, .int .i64 T.C.y] 38 := by rw [hW]; exact Bt.old _
 replace hw : Below w.heap.size w W3 := by have hl := hw.size; rw [hW]; go_grown
 clear hW hbe
 have BM : Box W3 (mb) [.map (some b)] 41 := Bm.ee hw
 refine wp_loop_rounds 5 ?_
 try rw [rounds_succ]
 have Ft := Bt.f
 have Fe := Be.f
 have FM := BM.f
 go_wp2_with fail
 refine zA2 fun W4 hW => ?_
 replace hw : Below w.heap.size w W4 := by rw [hW]; exact hw
 replace Bt : Box W4 (w.heap.size) [.int .i64 T.A.x, .int .i64 T.A.y, .int .i64 T.B.x, .int .i64 T.B.y, .int .i64 T.C.x, .int .i64 T.C.y] 38 := by rw [hW]; exact Bt
 replace Be : Box W4 (bke) [.int .i64 T.A.x, .int .i64 T.A.y, .int .i64 T.B.x, .int .i64 T.B.y, .int .i64 T.B.x, .int .i64 T.B.y, .int .i64 T.C.x, .int .i64 T.C.y, .int .i64 T.C.x, .int .i64 T.C.y, .int .i64 T.A.x, .int .i64 T.A.y] 95 := by rw [hW]; exact Be
 replace BM : Box W4 (mb) [.map (some b)] 41 := by rw [hW]; exact BM
 clear hW
 clear Ft Fe FM
 have hl : ∀ d os, (Instr.lookup 39 (.map (some b)) (.agg #[.int .i64 T.A.x, .int .i64 T.A.y, .int .i64 T.B.x, .int .i64 T.B.y]) true).run Tryz.prog (grow (redrawn W4 d) os) = .ok (.tuple #[.agg #[.int .i64 0, .int .i64 0, .int .i64 0, .int .i64 0, .int .i64 0, .int .i64 0], .bool false]) (grow (redrawn W4 d) os) := fun d os => ((Hm.ee hw).ext (below_regrown W4 d os) rfl).look_none kvR zAo (okT_w hk).1 hg0
 clear hg0
 have gt := Bt.cells
 have ge := Be.cells
 have gM := BM.cells
 refine zA3 11 7 25 [.int .i64 0, .int .i64 0, .int .i64 0, .int .i64 0, .int .i64 0, .int .i64 0] (zs := [.int .i64 0, .int .i64 0, .int .i64 0, .int .i64 0, .int .i64 0, .int .i64 0]) (eff := eff6 (.int .i64 0) (.int .i64 0) (.int .i64 0) (.int .i64 0) (.int .i64 0) (.int .i64 0)) zAe rfl rfl rfl rfl rfl rfl rfl (by simp) (fun ρ W => by simp [execOp, go_sem]; rfl) (by kernel_rfl) (by as_aux_lemma => kernel_rfl) (C := fun w' => ∃ p : Regrown, w' = grow (redrawn W4 p.d) p.os) rgB ?_ (fun ρ W b e1 e2 hB => by obtain ⟨x, y, _, _⟩ := hB.f; simp [execOp, go_sem, e1, e2, x, y, eff6])
 simp only [tK1, tK0, dP1, dP0]
 repeat (first | (refine zA0 (Eq.refl false) ?_; simp only [Act.put, sT2, sT1, sT0]) | (refine rWalk_step (fun K hK => ?_); go_simp; first | (refine hK _ ?_; clear hK K) | (apply Exists.intro; refine ⟨fun _ => ?_, hK _ ?_⟩; (first | fail); clear hK K)))
 refine rWalk_nil ⟨rfl, ?_⟩
 intro w5 bks0 hb h1b h2b Bs0
 have lts0 := Bt.lt
 have les0 := Be.lt
 have lMs0 := BM.lt
 have hw0z := hw.size
 clear gt ge gM
 replace Bt := Bt.ee hb
 replace Be := Be.ee hb
 replace BM := BM.ee hb
 replace hw := upB hw hb
 have fs0 := h1b
 have hwz : w.heap.size ≤ W4.heap.size := hw0z
 clear hb h1b h2b hw0z
 simp only [Act.put]
 clear hl
 have Ft := Bt.f
 have Fe := Be.f
 have FM := BM.f
 have Fs0 := Bs0.f
 go_wp2_with fail
 clear Ft Fe FM Fs0
 clear Bs0
 try rw [rounds_succ]
 have Ft := Bt.f
 have Fe := Be.f
 have FM := BM.f
 go_wp2_with fail
 refine zA2 fun W6 hW => ?_
 replace hw : Below w.heap.size w W6 := by rw [hW]; exact hw
 replace Bt : Box W6 (w.heap.size) [.int .i64 T.A.x, .int .i64 T.A.y, .int .i64 T.B.x, .int .i64 T.B.y, .int .i64 T.C.x, .int .i64 T.C.y] 38 := by rw [hW]; exact Bt
 replace Be : Box W6 (bke) [.int .i64 T.A.x, .int .i64 T.A.y, .int .i64 T.B.x, .int .i64 T.B.y, .int .i64 T.B.x, .int .i64 T.B.y, .int .i64 T.C.x, .int .i64 T.C.y, .int .i64 T.C.x, .int .i64 T.C.y, .int .i64 T.A.x, .int .i64 T.A.y] 95 := by rw [hW]; exact Be
 replace BM : Box W6 (mb) [.map (some b)] 41 := by rw [hW]; exact BM
 clear hW
 clear Ft Fe FM
 have hl : ∀ d os, (Instr.lookup 39 (.map (some b)) (.agg #[.int .i64 T.B.x, .int .i64 T.B.y, .int .i64 T.C.x, .int .i64 T.C.y]) true).run Tryz.prog (grow (redrawn W6 d) os) = .ok (.tuple #[.agg #[.int .i64 0, .int .i64 0, .int .i64 0, .int .i64 0, .int .i64 0, .int .i64 0], .bool false]) (grow (redrawn W6 d) os) := fun d os => ((Hm.ee hw).ext (below_regrown W6 d os) rfl).look_none kvR zAo (okT_w hk).2.1 hg1
 clear hg1
 have gt := Bt.cells
 have ge := Be.cells
 have gM := BM.cells
 refine zA3 11 7 25 [.int .i64 0, .int .i64 0, .int .i64 0, .int .i64 0, .int .i64 0, .int .i64 0] (zs := [.int .i64 0, .int .i64 0, .int .i64 0, .int .i64 0, .int .i64 0, .int .i64 0]) (eff := eff6 (.int .i64 0) (.int .i64 0) (.int .i64 0) (.int .i64 0) (.int .i64 0) (.int .i64 0)) zAe rfl rfl rfl rfl rfl rfl rfl (by simp) (fun ρ W => by simp [execOp, go_sem]; rfl) (by kernel_rfl) (by as_aux_lemma => kernel_rfl) (C := fun w' => ∃ p : Regrown, w' = grow (redrawn W6 p.d) p.os) rgB ?_ (fun ρ W b e1 e2 hB => by obtain ⟨x, y, _, _⟩ := hB.f; simp [execOp, go_sem, e1, e2, x, y, eff6])
 simp only [tK1, tK0, dP1, dP0]
 repeat (first | (refine zA0 (Eq.refl false) ?_; simp only [Act.put, sT2, sT1, sT0]) | (refine rWalk_step (fun K hK => ?_); go_simp; first | (refine hK _ ?_; clear hK K) | (apply Exists.intro; refine ⟨fun _ => ?_, hK _ ?_⟩; (first | fail); clear hK K)))
 refine rWalk_nil ⟨rfl, ?_⟩
 intro w7 bks1 hb h1b h2b Bs1
 have lts1 := Bt.lt
 have les1 := Be.lt
 have lMs1 := BM.lt
 have hw0z := hw.size
 clear gt ge gM
 replace Bt := Bt.ee hb
 replace Be := Be.ee hb
 replace BM := BM.ee hb
 replace hw := upB hw hb
 have fs1 := h1b
 have hwz : w.heap.size ≤ W6.heap.size := hw0z
 clear hb h1b h2b hw0z
 simp only [Act.put]
 clear hl
 have Ft := Bt.f
 have Fe := Be.f
 have FM := BM.f
 have Fs1 := Bs1.f
 go_wp2_with fail
 clear Ft Fe FM Fs1
 clear Bs1
 try rw [rounds_succ]
 have Ft := Bt.f
 have Fe := Be.f
 have FM := BM.f
 go_wp2_with fail
 refine zA2 fun W8 hW => ?_
 replace hw : Below w.heap.size w W8 := by rw [hW]; exact hw
 replace Bt : Box W8 (w.heap.size) [.int .i64 T.A.x, .int .i64 T.A.y, .int .i64 T.B.x, .int .i64 T.B.y, .int .i64 T.C.x, .int .i64 T.C.y] 38 := by rw [hW]; exact Bt
 replace Be : Box W8 (bke) [.int .i64 T.A.x, .int .i64 T.A.y, .int .i64 T.B.x, .int .i64 T.B.y, .int .i64 T.B.x, .int .i64 T.B.y, .int .i64 T.C.x, .int .i64 T.C.y, .int .i64 T.C.x, .int .i64 T.C.y, .int .i64 T.A.x, .int .i64 T.A.y] 95 := by rw [hW]; exact Be
 replace BM : Box W8 (mb) [.map (some b)] 41 := by rw [hW]; exact BM
 clear hW
 clear Ft Fe FM
 have hl : ∀ d os, (Instr.lookup 39 (.map (some b)) (.agg #[.int .i64 T.C.x, .int .i64 T.C.y, .int .i64 T.A.x, .int .i64 T.A.y]) true).run Tryz.prog (grow (redrawn W8 d) os) = .ok (.tuple #[.agg #[.int .i64 S.A.x, .int .i64 S.A.y, .int .i64 S.B.x, .int .i64 S.B.y, .int .i64 S.C.x, .int .i64 S.C.y], .bool true]) (grow (redrawn W8 d) os) := fun d os => ((Hm.ee hw).ext (below_regrown W8 d os) rfl).look_some kvR zAo (okT_w hk).2.2 hg2
 clear hg2
 have gt := Bt.cells
 have ge := Be.cells
 have gM := BM.cells
 refine zA3 11 7 25 [.int .i64 S.A.x, .int .i64 S.A.y, .int .i64 S.B.x, .int .i64 S.B.y, .int .i64 S.C.x, .int .i64 S.C.y] (zs := [.int .i64 0, .int .i64 0, .int .i64 0, .int .i64 0, .int .i64 0, .int .i64 0]) (eff := eff6 (.int .i64 S.A.x) (.int .i64 S.A.y) (.int .i64 S.B.x) (.int .i64 S.B.y) (.int .i64 S.C.x) (.int .i64 S.C.y)) zAe rfl rfl rfl rfl rfl rfl rfl (by simp) (fun ρ W => by simp [execOp, go_sem]; rfl) (by kernel_rfl) (by as_aux_lemma => kernel_rfl) (C := fun w' => ∃ p : Regrown, w' = grow (redrawn W8 p.d) p.os) rgB ?_ (fun ρ W b e1 e2 hB => by obtain ⟨x, y, _, _⟩ := hB.f; simp [execOp, go_sem, e1, e2, x, y, eff6])
 simp only [tK1, tK0, dP1, dP0]
 repeat (first | (refine zA0 (Eq.refl false) ?_; simp only [Act.put, sT2, sT1, sT0]) | (refine rWalk_step (fun K hK => ?_); go_simp; first | (refine hK _ ?_; clear hK K) | (apply Exists.intro; refine ⟨fun _ => ?_, hK _ ?_⟩; (first | fail); clear hK K)))
 refine rWalk_nil ⟨rfl, ?_⟩
 intro w9 bks2 hb h1b h2b Bs2
 have lts2 := Bt.lt
 have les2 := Be.lt
 have lMs2 := BM.lt
 have hw0z := hw.size
 clear gt ge gM
 replace Bt := Bt.ee hb
 replace Be := Be.ee hb
 replace BM := BM.ee hb
 replace hw := upB hw hb
 have fs2 := h1b
 have hwz : w.heap.size ≤ W8.heap.size := hw0z
 clear hb h1b h2b hw0z
 simp only [Act.put]
 clear hl
 have Ft := Bt.f
 have Fe := Be.f
 have FM := BM.f
 have Fs2 := Bs2.f
 go_wp2
 go_ret
 exact ⟨rfl, hw⟩
theorem rput_3 (mb b : Nat) (E : Es) (T : Tri3) (hg0 : getE E (T.A, T.B) = none) (hg1 : getE E (T.B, T.C) = none) (hg2 : getE E (T.C, T.A) = none) (hk : okT T) (w : World) (Bm : Box w mb [.map (some b)] 41) (Hm : HoldsMap eW eT okW w b E) :
    Calls Tryz.prog 86 #[.pointer (some ⟨mb, 0, none⟩), .agg #[.int .i64 T.A.x, .int .i64 T.A.y, .int .i64 T.B.x, .int .i64 T.B.y, .int .i64 T.C.x, .int .i64 T.C.y]] w fun e w' => e = .returned (.bool true) ∧ w.grownBy w' (some b) ∧ HoldsMap eW eT okW w' b (putT E T) := by
 have ce := zCi T
 go_enter Tryz.func86, Tryz.ntmps86
 go_wp2_with fail
 refine zA1 fun W1 hW => ?_
 have Bt : Box W1 (w.heap.size) [.int .i64 T.A.x, .int .i64 T.A.y, .int .i64 T.B.x, .int .i64 T.B.y, .int .i64 T.C.x, .int .i64 T.C.y] 38 := by rw [hW]; exact Box.new rfl
 have hw : Below w.heap.size w W1 := by rw [hW]; go_grown
 clear hW
 refine (ce _).mono ?_
 rintro e w2 ⟨rfl, hb⟩
 replace Bt := Bt.ee hb
 replace hw := upB hw hb
 clear hb
 have Ft := Bt.f
 go_wp2_with fail
 refine zA2 fun W3 hW => ?_
 obtain ⟨bke, hbe⟩ : ∃ b, w2.heap.size = b := ⟨_, rfl⟩
 rw [hbe]
 have lte := Bt.lt
 rw [hbe] at lte
 have fe := hw.size
 rw [hbe] at fe
 have Be : Box W3 bke [.int .i64 T.A.x, .int .i64 T.A.y, .int .i64 T.B.x, .int .i64 T.B.y, .int .i64 T.B.x, .int .i64 T.B.y, .int .i64 T.C.x, .int .i64 T.C.y, .int .i64 T.C.x, .int .i64 T.C.y, .int .i64 T.A.x, .int .i64 T.A.y] 95 := by rw [hW]; exact Box.new hbe.symm
 replace Bt : Box W3 (w.heap.size) [.int .i64 T.A.x, .int .i64 T.A.y, .int .i64 T.B.x, .int .i64 T.B.y, .int .i64 T.C.x, .int .i64 T.C.y] 38 := by rw [hW]; exact Bt.old _
 replace hw : Below w.heap.size w W3 := by have hl := hw.size; rw [hW]; go_grown
 clear hW hbe
 have BM : Box W3 (mb) [.map (some b)] 41 := Bm.ee hw
 refine wp_loop_rounds 5 ?_
 try rw [rounds_succ]
 have Ft := Bt.f
 have Fe := Be.f
 have FM := BM.f
 go_wp2_with fail
 refine zA2 fun W4 hW => ?_
 replace hw : Below w.heap.size w W4 := by rw [hW]; exact hw
 replace Bt : Box W4 (w.heap.size) [.int .i64 T.A.x, .int .i64 T.A.y, .int .i64 T.B.x, .int .i64 T.B.y, .int .i64 T.C.x, .int .i64 T.C.y] 38 := by rw [hW]; exact Bt
 replace Be : Box W4 (bke) [.int .i64 T.A.x, .int .i64 T.A.y, .int .i64 T.B.x, .int .i64 T.B.y, .int .i64 T.B.x, .int .i64 T.B.y, .int .i64 T.C.x, .int .i64 T.C.y, .int .i64 T.C.x, .int .i64 T.C.y, .int .i64 T.A.x, .int .i64 T.A.y] 95 := by rw [hW]; exact Be
 replace BM : Box W4 (mb) [.map (some b)] 41 := by rw [hW]; exact BM
 clear hW
 clear Ft Fe FM
 have hl : ∀ d os, (Instr.lookup 39 (.map (some b)) (.agg #[.int .i64 T.A.x, .int .i64 T.A.y, .int .i64 T.B.x, .int .i64 T.B.y]) true).run Tryz.prog (grow (redrawn W4 d) os) = .ok (.tuple #[.agg #[.int .i64 0, .int .i64 0, .int .i64 0, .int .i64 0, .int .i64 0, .int .i64 0], .bool false]) (grow (redrawn W4 d) os) := fun d os => ((Hm.ee hw).ext (below_regrown W4 d os) rfl).look_none kvR zAo (okT_w hk).1 hg0
 clear hg0
 have gt := Bt.cells
 have ge := Be.cells
 have gM := BM.cells
 refine zA3 11 7 25 [.int .i64 0, .int .i64 0, .int .i64 0, .int .i64 0, .int .i64 0, .int .i64 0] (zs := [.int .i64 0, .int .i64 0, .int .i64 0, .int .i64 0, .int .i64 0, .int .i64 0]) (eff := eff6 (.int .i64 0) (.int .i64 0) (.int .i64 0) (.int .i64 0) (.int .i64 0) (.int .i64 0)) zAe rfl rfl rfl rfl rfl rfl rfl (by simp) (fun ρ W => by simp [execOp, go_sem]; rfl) (by kernel_rfl) (by as_aux_lemma => kernel_rfl) (C := fun w' => ∃ p : Regrown, w' = grow (redrawn W4 p.d) p.os) rgB ?_ (fun ρ W b e1 e2 hB => by obtain ⟨x, y, _, _⟩ := hB.f; simp [execOp, go_sem, e1, e2, x, y, eff6])
 simp only [tK1, tK0, dP1, dP0]
 repeat (first | (refine zA0 (Eq.refl false) ?_; simp only [Act.put, sT2, sT1, sT0]) | (refine rWalk_step (fun K hK => ?_); go_simp; first | (refine hK _ ?_; clear hK K) | (apply Exists.intro; refine ⟨fun _ => ?_, hK _ ?_⟩; (first | fail); clear hK K)))
 refine rWalk_nil ⟨rfl, ?_⟩
 intro w5 bks0 hb h1b h2b Bs0
 have lts0 := Bt.lt
 have les0 := Be.lt
 have lMs0 := BM.lt
 have hw0z := hw.size
 clear gt ge gM
 replace Bt := Bt.ee hb
 replace Be := Be.ee hb
 replace BM := BM.ee hb
 replace hw := upB hw hb
 have fs0 := h1b
 have hwz : w.heap.size ≤ W4.heap.size := hw0z
 clear hb h1b h2b hw0z
 simp only [Act.put]
 clear hl
 have Ft := Bt.f
 have Fe := Be.f
 have FM := BM.f
 have Fs0 := Bs0.f
 go_wp2_with fail
 clear Ft Fe FM Fs0
 clear Bs0
 try rw [rounds_succ]
 have Ft := Bt.f
 have Fe := Be.f
 have FM := BM.f
 go_wp2_with fail
 refine zA2 fun W6 hW => ?_
 replace hw : Below w.heap.size w W6 := by rw [hW]; exact hw
 replace Bt : Box W6 (w.heap.size) [.int .i64 T.A.x, .int .i64 T.A.y, .int .i64 T.B.x, .int .i64 T.B.y, .int .i64 T.C.x, .int .i64 T.C.y] 38 := by rw [hW]; exact Bt
 replace Be : Box W6 (bke) [.int .i64 T.A.x, .int .i64 T.A.y, .int .i64 T.B.x, .int .i64 T.B.y, .int .i64 T.B.x, .int .i64 T.B.y, .int .i64 T.C.x, .int .i64 T.C.y, .int .i64 T.C.x, .int .i64 T.C.y, .int .i64 T.A.x, .int .i64 T.A.y] 95 := by rw [hW]; exact Be
 replace BM : Box W6 (mb) [.map (some b)] 41 := by rw [hW]; exact BM
 clear hW
 clear Ft Fe FM
 have hl : ∀ d os, (Instr.lookup 39 (.map (some b)) (.agg #[.int .i64 T.B.x, .int .i64 T.B.y, .int .i64 T.C.x, .int .i64 T.C.y]) true).run Tryz.prog (grow (redrawn W6 d) os) = .ok (.tuple #[.agg #[.int .i64 0, .int .i64 0, .int .i64 0, .int .i64 0, .int .i64 0, .int .i64 0], .bool false]) (grow (redrawn W6 d) os) := fun d os => ((Hm.ee hw).ext (below_regrown W6 d os) rfl).look_none kvR zAo (okT_w hk).2.1 hg1
 clear hg1
 have gt := Bt.cells
 have ge := Be.cells
 have gM := BM.cells
 refine zA3 11 7 25 [.int .i64 0, .int .i64 0, .int .i64 0, .int .i64 0, .int .i64 0, .int .i64 0] (zs := [.int .i64 0, .int .i64 0, .int .i64 0, .int .i64 0, .int .i64 0, .int .i64 0]) (eff := eff6 (.int .i64 0) (.int .i64 0) (.int .i64 0) (.int .i64 0) (.int .i64 0) (.int .i64 0)) zAe rfl rfl rfl rfl rfl rfl rfl (by simp) (fun ρ W => by simp [execOp, go_sem]; rfl) (by kernel_rfl) (by as_aux_lemma => kernel_rfl) (C := fun w' => ∃ p : Regrown, w' = grow (redrawn W6 p.d) p.os) rgB ?_ (fun ρ W b e1 e2 hB => by obtain ⟨x, y, _, _⟩ := hB.f; simp [execOp, go_sem, e1, e2, x, y, eff6])
 simp only [tK1, tK0, dP1, dP0]
 repeat (first | (refine zA0 (Eq.refl false) ?_; simp only [Act.put, sT2, sT1, sT0]) | (refine rWalk_step (fun K hK => ?_); go_simp; first | (refine hK _ ?_; clear hK K) | (apply Exists.intro; refine ⟨fun _ => ?_, hK _ ?_⟩; (first | fail); clear hK K)))
 refine rWalk_nil ⟨rfl, ?_⟩
 intro w7 bks1 hb h1b h2b Bs1
 have lts1 := Bt.lt
 have les1 := Be.lt
 have lMs1 := BM.lt
 have hw0z := hw.size
 clear gt ge gM
 replace Bt := Bt.ee hb
 replace Be := Be.ee hb
 replace BM := BM.ee hb
 replace hw := upB hw hb
 have fs1 := h1b
 have hwz : w.heap.size ≤ W6.heap.size := hw0z
 clear hb h1b h2b hw0z
 simp only [Act.put]
 clear hl
 have Ft := Bt.f
 have Fe := Be.f
 have FM := BM.f
 have Fs1 := Bs1.f
 go_wp2_with fail
 clear Ft Fe FM Fs1
 clear Bs1
 try rw [rounds_succ]
 have Ft := Bt.f
 have Fe := Be.f
 have FM := BM.f
 go_wp2_with fail
 refine zA2 fun W8 hW => ?_
 replace hw : Below w.heap.size w W8 := by rw [hW]; exact hw
 replace Bt : Box W8 (w.heap.size) [.int .i64 T.A.x, .int .i64 T.A.y, .int .i64 T.B.x, .int .i64 T.B.y, .int .i64 T.C.x, .int .i64 T.C.y] 38 := by rw [hW]; exact Bt
 replace Be : Box W8 (bke) [.int .i64 T.A.x, .int .i64 T.A.y, .int .i64 T.B.x, .int .i64 T.B.y, .int .i64 T.B.x, .int .i64 T.B.y, .int .i64 T.C.x, .int .i64 T.C.y, .int .i64 T.C.x, .int .i64 T.C.y, .int .i64 T.A.x, .int .i64 T.A.y] 95 := by rw [hW]; exact Be
 replace BM : Box W8 (mb) [.map (some b)] 41 := by rw [hW]; exact BM
 clear hW
 clear Ft Fe FM
 have hl : ∀ d os, (Instr.lookup 39 (.map (some b)) (.agg #[.int .i64 T.C.x, .int .i64 T.C.y, .int .i64 T.A.x, .int .i64 T.A.y]) true).run Tryz.prog (grow (redrawn W8 d) os) = .ok (.tuple #[.agg #[.int .i64 0, .int .i64 0, .int .i64 0, .int .i64 0, .int .i64 0, .int .i64 0], .bool false]) (grow (redrawn W8 d) os) := fun d os => ((Hm.ee hw).ext (below_regrown W8 d os) rfl).look_none kvR zAo (okT_w hk).2.2 hg2
 clear hg2
 have gt := Bt.cells
 have ge := Be.cells
 have gM := BM.cells
 refine zA3 11 7 25 [.int .i64 0, .int .i64 0, .int .i64 0, .int .i64 0, .int .i64 0, .int .i64 0] (zs := [.int .i64 0, .int .i64 0, .int .i64 0, .int .i64 0, .int .i64 0, .int .i64 0]) (eff := eff6 (.int .i64 0) (.int .i64 0) (.int .i64 0) (.int .i64 0) (.int .i64 0) (.int .i64 0)) zAe rfl rfl rfl rfl rfl rfl rfl (by simp) (fun ρ W => by simp [execOp, go_sem]; rfl) (by kernel_rfl) (by as_aux_lemma => kernel_rfl) (C := fun w' => ∃ p : Regrown, w' = grow (redrawn W8 p.d) p.os) rgB ?_ (fun ρ W b e1 e2 hB => by obtain ⟨x, y, _, _⟩ := hB.f; simp [execOp, go_sem, e1, e2, x, y, eff6])
 simp only [tK1, tK0, dP1, dP0]
 repeat (first | (refine zA0 (Eq.refl false) ?_; simp only [Act.put, sT2, sT1, sT0]) | (refine rWalk_step (fun K hK => ?_); go_simp; first | (refine hK _ ?_; clear hK K) | (apply Exists.intro; refine ⟨fun _ => ?_, hK _ ?_⟩; (first | fail); clear hK K)))
 refine rWalk_nil ⟨rfl, ?_⟩
 intro w9 bks2 hb h1b h2b Bs2
 have lts2 := Bt.lt
 have les2 := Be.lt
 have lMs2 := BM.lt
 have hw0z := hw.size
 clear gt ge gM
 replace Bt := Bt.ee hb
 replace Be := Be.ee hb
 replace BM := BM.ee hb
 replace hw := upB hw hb
 have fs2 := h1b
 have hwz : w.heap.size ≤ W8.heap.size := hw0z
 clear hb h1b h2b hw0z
 simp only [Act.put]
 clear hl
 have Ft := Bt.f
 have Fe := Be.f
 have FM := BM.f
 have Fs2 := Bs2.f
 go_wp2_with fail
 clear Ft Fe FM Fs2
 clear Bs2
 try rw [rounds_succ]
 have Ft := Bt.f
 have Fe := Be.f
 have FM := BM.f
 go_wp2_with fail
 refine zA2 fun W10 hW => ?_
 replace hw : Below w.heap.size w W10 := by rw [hW]; exact hw
 replace Bt : Box W10 (w.heap.size) [.int .i64 T.A.x, .int .i64 T.A.y, .int .i64 T.B.x, .int .i64 T.B.y, .int .i64 T.C.x, .int .i64 T.C.y] 38 := by rw [hW]; exact Bt
 replace Be : Box W10 (bke) [.int .i64 T.A.x, .int .i64 T.A.y, .int .i64 T.B.x, .int .i64 T.B.y, .int .i64 T.B.x, .int .i64 T.B.y, .int .i64 T.C.x, .int .i64 T.C.y, .int .i64 T.C.x, .int .i64 T.C.y, .int .i64 T.A.x, .int .i64 T.A.y] 95 := by rw [hW]; exact Be
 replace BM : Box W10 (mb) [.map (some b)] 41 := by rw [hW]; exact BM
 clear hW
 clear Ft Fe FM
 refine wp_loop_rounds 5 ?_
 have HF := Hm.ee hw
 have hg : w.grownBy W10 (some b) := zA6 hw _
 clear hw
 try rw [rounds_succ]
 have Ft := Bt.f
 have Fe := Be.f
 have FM := BM.f
 go_wp2_with fail
 have hw : Below W10.heap.size W10 W10 := Below.refl _ _
 have gt := Bt.cells
 have ge := Be.cells
 have gM := BM.cells
 refine wp_region_tail 8 (by kernel_rfl) (by kernel_rfl) (C := fun w' => ∃ p : Regrown, w' = grow (redrawn W10 p.d) p.os) rgB ?_
 simp only [tK1, tK0, dP1, dP0]
 repeat (first | (refine zA0 (Eq.refl false) ?_; simp only [Act.put, sT2, sT1, sT0]) | (refine rWalk_step (fun K hK => ?_); go_simp; first | (refine hK _ ?_; clear hK K) | (apply Exists.intro; refine ⟨fun _ => ?_, hK _ ?_⟩; (first | fail); clear hK K)))
 refine rWalk_nil ?_
 intro w11 hb
 clear gt ge gM
 clear Ft Fe FM
 replace Bt := Bt.ee hb
 replace Be := Be.ee hb
 replace BM := BM.ee hb
 replace hw := upB hw hb
 replace HF := HF.ee hw
 replace hg := zAa hg hw
 clear hw
 refine zBg _ rfl _ _ _ rfl kvR rfl HF (T.A, T.B) T rfl rfl (okT_w hk).1 ?_
 intro c0 HG hh hs
 replace Bt := Bt.turn HF hh
 replace Be := Be.turn HF hh
 replace BM := BM.turn HF hh
 replace hg := zA9 hg hh
 clear HF hh hs
 have HF := HG
 clear HG
 have Ft := Bt.f
 have Fe := Be.f
 have FM := BM.f
 go_wp2_with fail
 clear Ft Fe FM
 try rw [rounds_succ]
 have Ft := Bt.f
 have Fe := Be.f
 have FM := BM.f
 go_wp2_with fail
 have hw : Below c0.heap.size c0 c0 := Below.refl _ _
 have gt := Bt.cells
 have ge := Be.cells
 have gM := BM.cells
 refine wp_region_tail 8 (by kernel_rfl) (by kernel_rfl) (C := fun w' => ∃ p : Regrown, w' = grow (redrawn c0 p.d) p.os) rgB ?_
 simp only [tK1, tK0, dP1, dP0]
 repeat (first | (refine zA0 (Eq.refl false) ?_; simp only [Act.put, sT2, sT1, sT0]) | (refine rWalk_step (fun K hK => ?_); go_simp; first | (refine hK _ ?_; clear hK K) | (apply Exists.intro; refine ⟨fun _ => ?_, hK _ ?_⟩; (first | fail); clear hK K)))
 refine rWalk_nil ?_
 intro w12 hb
 clear gt ge gM
 clear Ft Fe FM
 replace Bt := Bt.ee hb
 replace Be := Be.ee hb
 replace BM := BM.ee hb
 replace hw := upB hw hb
 replace HF := HF.ee hw
 replace hg := zAa hg hw
 clear hw
 refine zBg _ rfl _ _ _ rfl kvR rfl HF (T.B, T.C) T rfl rfl (okT_w hk).2.1 ?_
 intro c1 HG hh hs
 replace Bt := Bt.turn HF hh
 replace Be := Be.turn HF hh
 replace BM := BM.turn HF hh
 replace hg := zA9 hg hh
 clear HF hh hs
 have HF := HG
 clear HG
 have Ft := Bt.f
 have Fe := Be.f
 have FM := BM.f
 go_wp2_with fail
 clear Ft Fe FM
 try rw [rounds_succ]
 have Ft := Bt.f
 have Fe := Be.f
 have FM := BM.f
 go_wp2_with fail
 have hw : Below c1.heap.size c1 c1 := Below.refl _ _
 have gt := Bt.cells
 have ge := Be.cells
 have gM := BM.cells
 refine wp_region_tail 8 (by kernel_rfl) (by kernel_rfl) (C := fun w' => ∃ p : Regrown, w' = grow (redrawn c1 p.d) p.os) rgB ?_
 simp only [tK1, tK0, dP1, dP0]
 repeat (first | (refine zA0 (Eq.refl false) ?_; simp only [Act.put, sT2, sT1, sT0]) | (refine rWalk_step (fun K hK => ?_); go_simp; first | (refine hK _ ?_; clear hK K) | (apply Exists.intro; refine ⟨fun _ => ?_, hK _ ?_⟩; (first | fail); clear hK K)))
 refine rWalk_nil ?_
 intro w13 hb
 clear gt ge gM
 clear Ft Fe FM
 replace Bt := Bt.ee hb
 replace Be := Be.ee hb
 replace BM := BM.ee hb
 replace hw := upB hw hb
 replace HF := HF.ee hw
 replace hg := zAa hg hw
 clear hw
 refine zBg _ rfl _ _ _ rfl kvR rfl HF (T.C, T.A) T rfl rfl (okT_w hk).2.2 ?_
 intro c2 HG hh hs
 replace Bt := Bt.turn HF hh
 replace Be := Be.turn HF hh
 replace BM := BM.turn HF hh
 replace hg := zA9 hg hh
 clear HF hh hs
 have HF := HG
 clear HG
 have Ft := Bt.f
 have Fe := Be.f
 have FM := BM.f
 go_wp2_with fail
 clear Ft Fe FM
 try rw [rounds_succ]
 have Ft := Bt.f
 have Fe := Be.f
 have FM := BM.f
 go_wp2
 go_ret
 exact ⟨rfl, hg, HF⟩
def freeE (E : Es) (T : Tri3) : Bool := (getE E (T.A, T.B)).isNone && ((getE E (T.B, T.C)).isNone && (getE E (T.C, T.A)).isNone)
theorem zGd (E : Es) (T : Tri3) : fitsE E T = (freeE E T && valT T) := by unfold fitsE freeE; simp only [Bool.and_assoc]
theorem zJq (mb b : Nat) (E : Es) (T : Tri3) (hf : freeE E T = false) (hk : okT T) (w : World) (Bm : Box w mb [.map (some b)] 41) (Hm : HoldsMap eW eT okW w b E) :
    Calls Tryz.prog 86 #[.pointer (some ⟨mb, 0, none⟩), .agg #[.int .i64 T.A.x, .int .i64 T.A.y, .int .i64 T.B.x, .int .i64 T.B.y, .int .i64 T.C.x, .int .i64 T.C.y]] w fun e w' => e = .returned (.bool false) ∧ Below w.heap.size w w' := by
 unfold freeE at hf
 cases h0 : getE E (T.A, T.B) with
 | some S => exact rput_0 mb b E T S h0 hk w Bm Hm
 | none =>
  cases h1 : getE E (T.B, T.C) with
  | some S => exact rput_1 mb b E T S h0 h1 hk w Bm Hm
  | none =>
   cases h2 : getE E (T.C, T.A) with
   | some S => exact rput_2 mb b E T S h0 h1 h2 hk w Bm Hm
   | none => rw [h0, h1, h2] at hf; simp at hf
theorem zFy (mb b : Nat) (E : Es) (T : Tri3) (hf : freeE E T = true) (hk : okT T) (w : World) (Bm : Box w mb [.map (some b)] 41) (Hm : HoldsMap eW eT okW w b E) :
    Calls Tryz.prog 86 #[.pointer (some ⟨mb, 0, none⟩), .agg #[.int .i64 T.A.x, .int .i64 T.A.y, .int .i64 T.B.x, .int .i64 T.B.y, .int .i64 T.C.x, .int .i64 T.C.y]] w fun e w' => e = .returned (.bool true) ∧ w.grownBy w' (some b) ∧ HoldsMap eW eT okW w' b (putT E T) := by
 unfold freeE at hf
 simp only [Bool.and_eq_true, Option.isNone_iff_eq_none] at hf
 exact rput_3 mb b E T hf.1 hf.2.1 hf.2.2 hk w Bm Hm
end Go.Proofs.YtmobnmjjmafibaaGreat
namespace Go.Proofs.YtmobnmjjmafibaaGreat
open Go.RowKit Go.Sort
attribute [local go_sem] rOper rAt rUpon cell_set sg_i64 sg_u64 alloc_cell alloc_frozen
attribute [local go_sem 10000] pt_eql pt_neq tri_eql
attribute [local irreducible] rWalk
attribute [local go_sem] rmap_nil run_makeMap
def Six (w : World) (A : Addr) (T : Tri3) : Prop := A.block < w.heap.size ∧ (w.cell? A = some (.int .i64 T.A.x) ∧ w.cell? ⟨A.block, A.off + 1, none⟩ = some (.int .i64 T.A.y) ∧ w.cell? ⟨A.block, A.off + 2, none⟩ = some (.int .i64 T.B.x) ∧
      w.cell? ⟨A.block, A.off + 3, none⟩ = some (.int .i64 T.B.y) ∧ w.cell? ⟨A.block, A.off + 4, none⟩ = some (.int .i64 T.C.x) ∧ w.cell? ⟨A.block, A.off + 5, none⟩ = some (.int .i64 T.C.y))
theorem RowAt.six {w : World} {a : Option Addr} {L : List Tri3} (h : RowAt cT 6 w a L) {j : Nat} (hj : j < L.length) : ∃ ad A, a = some ad ∧ ad.add (j * 6) = A ∧ Six w A L[j] := by
 obtain ⟨ad, A, h1, h2, _, h4, h5⟩ := h.tri hj
 exact ⟨ad, A, h1, h2, h4, h5⟩
theorem Six.ext {w w' : World} {A : Addr} {T : Tri3} {n : Nat} (h : Six w A T) (hb : Below n w w') (hn : n = w.heap.size) : Six w' A T := by
 obtain ⟨h0, h1, h2, h3, h4, h5, h6⟩ := h
 have e : ∀ p : Addr, p.block = A.block → w'.cell? p = w.cell? p := fun p hp => hb.cell (by rw [hp, hn]; exact h0)
 exact ⟨Nat.lt_of_lt_of_le h0 hb.size, (e A rfl).trans h1, (e ⟨A.block, A.off + 1, none⟩ rfl).trans h2, (e ⟨A.block, A.off + 2, none⟩ rfl).trans h3, (e ⟨A.block, A.off + 3, none⟩ rfl).trans h4, (e ⟨A.block, A.off + 4, none⟩ rfl).trans h5, (e ⟨A.block, A.off + 5, none⟩ rfl).trans h6⟩
theorem Six.ee {w w' : World} {A : Addr} {T : Tri3} (h : Six w A T) (hb : Below w.heap.size w w') : Six w' A T := h.ext hb rfl
theorem Six.f {w : World} {A : Addr} {T : Tri3} (h : Six w A T) : (A.block = w.heap.size) = False ∧ w.cell? A = some (.int .i64 T.A.x) ∧ w.cell? ⟨A.block, A.off + 1, none⟩ = some (.int .i64 T.A.y) ∧ w.cell? ⟨A.block, A.off + 2, none⟩ = some (.int .i64 T.B.x) ∧
      w.cell? ⟨A.block, A.off + 3, none⟩ = some (.int .i64 T.B.y) ∧ w.cell? ⟨A.block, A.off + 4, none⟩ = some (.int .i64 T.C.x) ∧ w.cell? ⟨A.block, A.off + 5, none⟩ = some (.int .i64 T.C.y) := ⟨by simp; have := h.1; omega, h.2⟩
def RNewPost (w : World) (n : Nat) (L : List Tri3) (e : Ending) (w' : World) : Prop :=
 (∃ mb b, e = .returned (.pointer (some ⟨mb, 0, none⟩)) ∧ Box w' mb [.map (some b)] 41 ∧ HoldsMap eW eT okW w' b (putRun [] L).2 ∧ w.heap.size ≤ b ∧ w.heap.size ≤ mb ∧ Below w.heap.size w w' ∧ (putRun [] L).1 = n) ∨
 (e = .returned (.pointer none) ∧ Below w.heap.size w w' ∧ (putRun [] L).1 < n)
theorem rnew_any (a : Option Addr) (cap n : Nat) (L : List Tri3) (hn : Hid (L.length = n)) (hn1 : n ≤ 1000000) (hok : ∀ T ∈ L, okT T) (w : World) (Hr : RowAt cT 6 w a L) :
    Calls Tryz.prog 68 #[.slice a n cap] w (RNewPost w n L) := by
 go_enter Tryz.func68, Tryz.ntmps68
 go_wp2_with fail
 refine zA2 fun W1 hW => ?_
 have BM : Box W1 (w.heap.size + 1) [.map (some w.heap.size)] 41 := by rw [hW]; exact Box.new (by simp)
 have HM : HoldsMap eW eT okW W1 w.heap.size ([] : Es) := by rw [hW]; exact (HoldsMap.made w).alloc _
 have hw : Below w.heap.size w W1 := by rw [hW]; go_grown
 clear hW
 go_loopw [4] (fun i wr => ∃ (k : Nat) (F : Es), k ≤ n ∧ i = .int .i64 k ∧ Hid (putRun [] L = (k + (putRun F (L.drop k)).1, (putRun F (L.drop k)).2)) ∧ Box wr (w.heap.size + 1) [.map (some w.heap.size)] 41 ∧ HoldsMap eW eT okW wr w.heap.size F ∧ Below w.heap.size w wr) (fun i _ => n - (intOf i).toNat)
 case atStart => exact ⟨0, [], Nat.zero_le _, rfl, Lib.hid (by simp), BM, HM, hw⟩
 case round =>
  clear BM HM hw
  obtain ⟨k, F, hk, rfl, hR, BM, HF, hw⟩ := hrel
  by_cases hlt : k < n
  ·have hlk : k < L.length := hn.out ▸ hlt
   have hokk := hok L[k] (List.getElem_mem hlk)
   have hst := fun hf => zFi hlk hR.out hf
   have hsp := fun hf => zFh hlk hR.out hf
   obtain ⟨ad, A, ea, eA, hA⟩ := (Hr.ee hw).six hlk
   generalize L[k] = T at *
   have cv := zC5 T
   cases hv : valT T with
   | false =>
    have HP := Lib.hid (hsp (by rw [zGd, hv, Bool.and_false]))
    rw [hv] at cv
    clear hst hsp hv
    obtain ⟨zA, q0, q1, q2, q3, q4, q5⟩ := hA.f
    go_wp2_with fail
    refine (cv _).mono ?_
    rintro e w2 ⟨rfl, hb⟩
    clear zA q0 q1 q2 q3 q4 q5
    go_wp2
    go_ret
    exact .inr ⟨rfl, (upB hw hb), by rw [HP.out]; exact hlt⟩
   | true =>
    rw [hv] at cv
    cases hf : freeE F T with
    | false =>
     have HP := Lib.hid (hsp (by rw [zGd, hf, Bool.false_and]))
     have cp := zJq (w.heap.size + 1) w.heap.size F T hf hokk
     clear hst hsp hv hf
     obtain ⟨zA, q0, q1, q2, q3, q4, q5⟩ := hA.f
     go_wp2_with fail
     refine (cv _).mono ?_
     rintro e w2 ⟨rfl, hb⟩
     clear zA q0 q1 q2 q3 q4 q5
     obtain ⟨zA, q0, q1, q2, q3, q4, q5⟩ := (hA.ee hb).f
     replace hw := upB hw hb
     go_wp2_with fail
     refine (cp _ (BM.ee hb) (HF.ee hb)).mono ?_
     rintro e w3 ⟨rfl, hb2⟩
     clear zA q0 q1 q2 q3 q4 q5
     go_wp2
     go_ret
     exact .inr ⟨rfl, (upB hw hb2), by rw [HP.out]; exact hlt⟩
    | true =>
     have HP := Lib.hid (hst (by rw [zGd, hf, hv]; rfl))
     have cp := zFy (w.heap.size + 1) w.heap.size F T hf hokk
     clear hst hsp hv hf
     obtain ⟨zA, q0, q1, q2, q3, q4, q5⟩ := hA.f
     go_wp2_with fail
     refine (cv _).mono ?_
     rintro e w2 ⟨rfl, hb⟩
     clear zA q0 q1 q2 q3 q4 q5
     obtain ⟨zA, q0, q1, q2, q3, q4, q5⟩ := (hA.ee hb).f
     replace hw := upB hw hb
     replace BM := BM.ee hb
     replace HF := HF.ee hb
     go_wp2_with fail
     refine (cp _ BM HF).mono ?_
     rintro e w3 ⟨rfl, hg, HG⟩
     clear zA q0 q1 q2 q3 q4 q5
     replace BM := BM.turn HF hg
     replace hw := zBr hw hg hw.size (Nat.le_refl _)
     clear HF hg hb hA
     go_wp2
     rw [← ea]
     go_roundw
     case rel => exact ⟨k + 1, putT F T, by omega, by go_num, HP, BM, HG, hw⟩
     case measure => simp [intOf]; omega
  ·have HP := Lib.hid (zGv (by rw [hn.out]; omega) hR.out)
   go_wp2
   go_ret
   exact .inl ⟨_, _, rfl, BM, by rw [HP.out]; exact HF, Nat.le_refl _, by omega, hw, by rw [HP.out]; omega⟩
end Go.Proofs.YtmobnmjjmafibaaGreat
namespace Go.Proofs.YtmobnmjjmafibaaGreat
open Go.RowKit Go.Sort Go.Lib Go.Shelf
theorem zGk (x : Tri3) : (cT x).length = 6 := rfl
theorem zCr (x : Pt) : (cP x).length = 2 := rfl
theorem zKg (x : Tri3) : ∀ v ∈ cT x, v.oneCell' = true := by intro v hv; simp [cT] at hv; rcases hv with rfl | rfl | rfl | rfl | rfl | rfl <;> rfl
theorem cP_one (x : Pt) : ∀ v ∈ cP x, v.oneCell' = true := by intro v hv; simp [cP] at hv; rcases hv with rfl | rfl <;> rfl
theorem cmpLaysT (blk off size : Nat) (w : World) : CmpLays Tryz.prog 93 #[] cT 6 cmpT blk off size w := fun _ _ _ _ x y =>
 (dcmpT_any x y _).mono fun _ _ ⟨he, hx⟩ => ⟨he, hx.grown⟩
theorem cmpLaysP (blk off size : Nat) (w : World) : CmpLays Tryz.prog 81 #[] cP 2 cmpP blk off size w := fun _ _ _ _ x y =>
 (zIa x y _).mono fun _ _ ⟨he, hx⟩ => ⟨he, hx.grown⟩
theorem enterT : ∀ args w, (callFunc 93 args).run Tryz.prog w = .ok (.enter 93 args) w := enters_of Tryz.func93 (by kernel_rfl) rfl
theorem enterP : ∀ args w, (callFunc 81 args).run Tryz.prog w = .ok (.enter 81 args) w := enters_of Tryz.func81 (by kernel_rfl) rfl
theorem sortT_any (B : Nat) (v : Value) (L : List Tri3) (hL : L.length ≤ 3000000) (w : World) (h : w.ownsRow B 38 6 v L.length (L.flatMap cT)) :
    Calls Tryz.prog 92 #[v, .func (.func 93) #[] #[]] w fun e w' => e = .returned (.tuple #[]) ∧ w.grownBy w' v.ownBlock ∧ ∃ a cap, v = .slice a L.length cap ∧ RowAt cT 6 w' a (srt cmpT L) := by
 have h2 := h.2
 rcases h2 with ⟨rfl, h0⟩ | ⟨g, cap, cur, rfl, hB, hb, h1, h2, h3, h4⟩
 ·have : L = [] := List.eq_nil_of_length_eq_zero h0
  subst this
  have hc := AnyF.slices_SortFunc_none { sortTri with } none 0 (.func (.func 93) #[] #[]) w
  change Calls Tryz.prog 92 _ _ _ at hc
  exact hc.mono fun e w' ⟨he, hw⟩ => ⟨he, hw ▸ zC1 _ _, none, 0, rfl, by rw [show srt cmpT ([] : List Tri3) = [] by simp [srt]]; exact RowAt.nil⟩
 ·obtain ⟨hH, hg⟩ := zDq zGk h
  have hc := AnyQ.slices_SortFunc_total sortTri 6 Tryz.isAgg38 Tryz.sizeOf38 cT zGk zKg cmpT wholeT.swo 93 #[] g 0 cap L.toArray w enterT (cmpLaysT g 0 _ w) hH hg (by simp; omega) wholeT.one
  change Calls Tryz.prog 92 _ _ _ at hc
  rw [show L.toArray.size = L.length by simp] at hc
  refine hc.mono fun e w' ⟨he, n, os, hw⟩ => ⟨he, ?_, _, cap, rfl, ?_⟩
  ·rw [hw]; exact zBy _
  ·rw [hw]
   exact zD2 zGk (zF0 hH hg (by simp)) (Nat.lt_of_lt_of_le hg (zBy (c := cT) (k := 6) _).size)
end Go.Proofs.YtmobnmjjmafibaaGreat
namespace Go.Proofs.YtmobnmjjmafibaaGreat
open Go.RowKit Go.Sort
attribute [local go_sem] rOper rAt rUpon cell_set sg_i64 sg_u64 alloc_cell alloc_frozen
attribute [local go_sem 10000] pt_eql pt_neq tri_eql
attribute [local irreducible] rWalk
theorem info_tri : (Tryz.prog.info? 38).map (fun i => (i.zero, i.size, i.bytes)) = some (some (.agg #[.int .i64 0, .int .i64 0, .int .i64 0, .int .i64 0, .int .i64 0, .int .i64 0]), 6, 48) := by kernel_rfl
theorem zAz {w : World} {ops : Array Oper} {rest : List Oper} {o : Oper} {a : Act} {Q : Exit → Act → World → Prop} (hgd : o.guard = none) (s x : Operand)
    (ho : o.op = .call { callee := .builtin .append, args := #[s, x], argTypes := #[32, 32] })
    (B : Nat) (v : Value) (L : List Tri3) (hs : a.eval s = v) (hown : w.ownsRow B 38 6 v L.length (L.flatMap cT))
    (bx : Nat) (T : Tri3) (hx : a.eval x = .slice (some ⟨bx, 0, none⟩) 1 1) (hbx : Box w bx (cT T) 38) (hn : L.length ≤ 1000000) (hbase : B ≤ w.heap.size)
    (h : ∀ w' v', w'.ownsRow B 38 6 v' (L ++ [T]).length ((L ++ [T]).flatMap cT) → w.grownBy w' v.ownBlock → wpList Tryz.prog ops Q rest (a.put o.dst v') w') : wpList Tryz.prog ops Q (o :: rest) a w := by
 obtain ⟨i0, hi, hz0, hz1, hz2⟩ := info_parts info_tri
 refine wpList_append_own w hgd s x 32 ho B 38 i0 _ 6 48 Tryz.underlying32 hi hz0 hz1 hz2 rfl (by decide) v L.length _ hs hown ⟨bx, 0, none⟩ 1 1 (cT T) hx rfl ?_ (zKg T) ?_ ?_ hbase ?_
 ·intro j u hj
  have := hbx.f.1 j
  rw [hj] at this
  rw [Addr.add_lit, Nat.zero_add]
  exact this
 ·unfold maxLen; omega
 ·omega
 ·intro v' w' hown' hg _
  refine h w' v' ?_ hg
  rw [List.length_append, List.length_singleton, List.flatMap_append]
  simpa using hown'
def heads (p : Tri3 → Bool) (E : Es) : List Tri3 := (E.filter fun e => decide (e.1.1 = e.2.A) && p e.2).map (·.2)
theorem zCp {p : Tri3 → Bool} {E F : Es} (h : E.Perm F) : (heads p E).Perm (heads p F) := (h.filter _).map _
theorem zAt (p : Tri3 → Bool) (E F : Es) : heads p (E ++ F) = heads p E ++ heads p F := by unfold heads; rw [List.filter_append, List.map_append]
theorem zCx (p : Tri3 → Bool) (E : Es) : (heads p E).length ≤ E.length := by unfold heads; rw [List.length_map]; exact List.length_filter_le _ _
theorem zG9 {p : Tri3 → Bool} {e : (Pt × Pt) × Tri3} (h : e.1.1 = e.2.A) (hp : p e.2 = true) : heads p [e] = [e.2] := by simp [heads, h, hp]
theorem zF1 {p : Tri3 → Bool} {e : (Pt × Pt) × Tri3} (h : ¬ (e.1.1 = e.2.A ∧ p e.2 = true)) : heads p [e] = [] := by
 unfold heads
 rw [List.filter_cons_of_neg]
 ·rfl
 ·simpa using h
theorem zFk {w : World} {B k : Nat} {T : TypeId} {v : Value} {n : Nat} {xs : List Value} (h : w.ownsRow B T k v n xs) : ∀ g, v.ownBlock = some g → ∃ cs T', w.heap[g]? = some (.cells cs T' (0, 0)) := fun g hg => by
 rcases h.2 with ⟨rfl, _⟩ | ⟨g', cap, cur, rfl, _, hb, _⟩
 ·simp [Value.ownBlock] at hg
 ·simp [Value.ownBlock] at hg
  subst hg
  exact ⟨_, _, hb⟩
theorem zC0 {w : World} {B k b : Nat} {T : TypeId} {v : Value} {n : Nat} {xs : List Value} {E : Es} (h : w.ownsRow B T k v n xs) (H : HoldsMap eW eT okW w b E) : some b ≠ v.ownBlock := fun e => by
 obtain ⟨cs, T', hc⟩ := zFk h b e.symm
 obtain ⟨es, clock, hb, _⟩ := H
 rw [hb] at hc; cases hc
theorem zAu {w : World} {B k b r : Nat} {T : TypeId} {v : Value} {n : Nat} {xs : List Value} {E R : Es} (h : w.ownsRow B T k v n xs) (H : Ranging eW eT okW w b r E R) : some r ≠ v.ownBlock := fun e => by
 obtain ⟨cs, T', hc⟩ := zFk h r e.symm
 obtain ⟨es, clock, _, _, _, _, _, _, _, _, hr, _⟩ := H
 rw [hr] at hc; cases hc
theorem zAf {w : World} {b r : Nat} {E R : Es} (H : Ranging eW eT okW w b r E R) : w.rangeLeft b r = R.length := by
 obtain ⟨es, clock, since, seen, c0, hb, _, _, _, _, hr, _, hl, _⟩ := H
 simp only [World.rangeLeft, hb, hr]
 have := hl.length_eq
 simpa using this
theorem those_any (mb b : Nat) (E : Es) (g : FuncId) (cb : Array Value) (p : Tri3 → Bool) (hE : E.length ≤ 1000000) (w : World) (Bm : Box w mb [.map (some b)] 89) (Hm : HoldsMap eW eT okW w b E)
    (eg : ∀ args w, (callFunc g args).run Tryz.prog w = .ok (.enter g args) w)
    (hp : ∀ (T : Tri3) (W : World), Below w.heap.size w W → Calls Tryz.prog g (#[.agg #[.int .i64 T.A.x, .int .i64 T.A.y, .int .i64 T.B.x, .int .i64 T.B.y, .int .i64 T.C.x, .int .i64 T.C.y]] ++ cb) W fun e w' => e = .returned (.bool (p T)) ∧ Below W.heap.size W w') :
    Calls Tryz.prog 53 #[.pointer (some ⟨mb, 0, none⟩), .func (.func g) #[] cb] w fun e w' => ∃ a cap, e = .returned (.slice a (srt cmpT (heads p E)).length cap) ∧ RowAt cT 6 w' a (srt cmpT (heads p E)) ∧ Below w.heap.size w w' := by
 obtain ⟨xm, ym, zm, vm⟩ := Bm.f
 go_enter Tryz.func53, Tryz.ntmps53
 go_wp2_with (at_range; refine zB7 _ rfl _ rfl kvM rfl Hm ?_)
 intro w0 HR0 hw0 _
 clear xm ym zm vm
 go_wp2
 go_loopw [5] (fun v wr => ∃ D R : Es, Hid ((D ++ R).Perm E) ∧ wr.ownsRow w.heap.size 38 6 v (heads p D).length ((heads p D).flatMap cT) ∧ Ranging eW eT okW wr b w.heap.size E R ∧ Below w.heap.size w wr) (fun _ wr => wr.rangeLeft b w.heap.size)
 case atStart => exact ⟨[], E, Lib.hid (by simp), World.ownsRow_nil _ _ _ _, HR0, hw0⟩
 case round =>
  clear HR0 hw0
  obtain ⟨D, R, hD, hown, HR, hw⟩ := hrel
  go_wp2_with (at_next; refine zBh _ rfl _ rfl rfl HR ?_ ?_)
  ·intro hR
   subst hR
   have hp0 : (heads p D).Perm (heads p E) := zCp (by simpa using hD.out)
   have hle : (heads p D).length ≤ 3000000 := by have := hp0.length_eq; have := zCx p E; omega
   have HS := Lib.hid (wholeT.srt_of_perm hp0)
   go_wp2_with fail
   refine (sortT_any _ _ _ hle _ hown).mono ?_
   rintro e w2 ⟨rfl, hg2, a, cap, rfl, hr⟩
   go_wp2
   go_ret
   have hlen : (heads p D).length = (srt cmpT (heads p E)).length := by rw [← HS.out]; exact (zAp _).length_eq.symm
   rw [HS.out] at hr
   refine ⟨a, cap, by rw [hlen]; rfl, hr, hw.grown hg2 hw.size (fun k hk => ?_)⟩
   exact (hown.lt k hk).1
  ·intro u x T R' w1 hperm HR1 hg1 hs1 hen
   have hD2 := Lib.hid (show ((D ++ [((u, x), T)]) ++ R').Perm E by have := (hperm.append_left D).symm.trans hD.out; simpa using this)
   have own1 := hown.kept hg1 (.inr (fun e => zAu hown HR e.symm))
   have hw1 := hw.grown hg1 hw.size (fun k hk => by cases hk; exact Nat.le_refl _)
   have HL := Lib.hid (show w1.rangeLeft b w.heap.size < wr.rangeLeft b w.heap.size by rw [zAf HR1, zAf HR, hperm.length_eq]; simp)
   have hen2 : (Instr.entry (.pointer (some ⟨w.heap.size, 0, none⟩))).run Tryz.prog w1 = .ok (.tuple #[.agg #[.int .i64 u.x, .int .i64 u.y, .int .i64 x.x, .int .i64 x.y], .agg #[.int .i64 T.A.x, .int .i64 T.A.y, .int .i64 T.B.x, .int .i64 T.B.y, .int .i64 T.C.x, .int .i64 T.C.y]]) w1 := hen
   have hle : (heads p D).length ≤ 1000000 := by have := hD2.out.length_eq; have := zCx p D; simp at *; omega
   clear hown HR hg1 hs1 hen hperm hw
   have hnx : Hid (∀ W : World, Below w1.heap.size w1 W → (W.rangeLeft b w.heap.size < wr.rangeLeft b w.heap.size)) := Lib.hid (fun W hW => by
    rw [zAf (HR1.ee hW), ← zAf HR1]; exact HL.out)
   by_cases hA : u = T.A
   ·have hd : peqI u.x u.y T.A.x T.A.y = true := zBf.2 hA
    cases hT : p T with
    | false =>
     have HH := Lib.hid (show heads p (D ++ [((u, x), T)]) = heads p D by rw [zAt, zF1 (by simp [hT])]; simp)
     have cp := fun W hW => hp T W hW
     rw [hT] at cp
     clear hA hT
     go_wp2_with fail
     refine zA1 fun W2 hW => ?_
     have hb2 : Below w1.heap.size w1 W2 := by rw [hW]; go_grown
     clear hW
     refine (cp _ ((upB hw1 hb2))).mono ?_
     rintro e w3 ⟨rfl, hb⟩
     have hb3 := (upB hb2 hb)
     clear hb hb2
     go_wp2
     go_roundw
     case rel => exact ⟨D ++ [((u, x), T)], R', hD2, by rw [HH.out]; exact own1.kept (zA6 hb3 none) (by cases u5.ownBlock <;> simp), HR1.ee hb3, (upB hw1 hb3)⟩
     case measure => exact hnx.out _ hb3
    | true =>
     have HH := Lib.hid (show heads p (D ++ [((u, x), T)]) = heads p D ++ [T] by rw [zAt, zG9 hA hT])
     have cp := fun W hW => hp T W hW
     rw [hT] at cp
     clear hA hT
     go_wp2_with fail
     refine zA1 fun W2 hW => ?_
     have hb2 : Below w1.heap.size w1 W2 := by rw [hW]; go_grown
     have Bt : Box W2 (w1.heap.size + 1) (cT T) 38 := by rw [hW]; exact Box.new (by simp)
     clear hW
     refine (cp _ ((upB hw1 hb2))).mono ?_
     rintro e w3 ⟨rfl, hb⟩
     have hb3 := (upB hb2 hb)
     replace Bt := Bt.ee hb
     have own3 := own1.kept (zA6 hb3 none) (by cases u5.ownBlock <;> simp)
     have HB := Lib.hid (Nat.le_trans hw1.size hb3.size)
     clear hb hb2
     obtain ⟨xt, yt, zt, vt⟩ := Bt.f
     unfold cT at xt
     go_wp2_with (at_builtin; refine zAz rfl _ _ rfl w.heap.size _ (heads p D) rfl (own3.alloc _) w3.heap.size T rfl (Box.new rfl) hle (by have := HB.out; simp; omega) ?_; intro w4 v4 hown4 hg4)
     have hR3 := (HR1.ee hb3).kept (World.grownBy_alloc w3 (.cells (cT T).toArray 38) none) (by simp) (by simp)
     have hR4 := hR3.kept hg4 (zC0 (own3.alloc _) hR3.holds) (zAu (own3.alloc _) hR3)
     have hw4 := ((((upB hw1 hb3)).alloc (by have := HB.out; omega) (.cells (cT T).toArray 38))).grown hg4 (by have := HB.out; simp; omega) (fun k hk => ((own3.alloc (.cells (cT T).toArray 38)).lt k hk).1)
     go_roundw
     case rel => exact ⟨D ++ [((u, x), T)], R', hD2, by rw [HH.out]; exact hown4, hR4, hw4⟩
     case measure => rw [zAf hR4, ← zAf HR1]; exact HL.out
   ·have hd : peqI u.x u.y T.A.x T.A.y = false := by rw [← Bool.not_eq_true, zBf]; exact hA
    have HH := Lib.hid (show heads p (D ++ [((u, x), T)]) = heads p D by rw [zAt, zF1 (by simp [hA])]; simp)
    clear hA
    go_wp2
    go_roundw
    case rel => exact ⟨D ++ [((u, x), T)], R', hD2, by rw [HH.out]; exact (own1.alloc _).alloc _, HR1.ext (by go_grown) rfl, by have := hw1.size; go_grown⟩
    case measure => exact hnx.out _ (by go_grown)
theorem trueCl (T : Tri3) (w : World) : Calls Tryz.prog 75 #[.agg #[.int .i64 T.A.x, .int .i64 T.A.y, .int .i64 T.B.x, .int .i64 T.B.y, .int .i64 T.C.x, .int .i64 T.C.y]] w fun e w' => e = .returned (.bool true) ∧ Below w.heap.size w w' := by
 go_enter Tryz.func75, Tryz.ntmps75
 go_wp2
 go_ret
 exact ⟨rfl, by go_grown⟩
theorem enterCl : ∀ args w, (callFunc 75 args).run Tryz.prog w = .ok (.enter 75 args) w := enters_of Tryz.func75 (by kernel_rfl) rfl
theorem zDk (mb b : Nat) (E : Es) (hE : E.length ≤ 1000000) (w : World) (Bm : Box w mb [.map (some b)] 89) (Hm : HoldsMap eW eT okW w b E) :
    Calls Tryz.prog 36 #[.pointer (some ⟨mb, 0, none⟩)] w fun e w' => ∃ a cap, e = .returned (.slice a (srt cmpT (heads (fun _ => true) E)).length cap) ∧ RowAt cT 6 w' a (srt cmpT (heads (fun _ => true) E)) ∧ Below w.heap.size w w' := by
 have ct := those_any mb b E 75 #[] (fun _ => true) hE w Bm Hm enterCl (fun T W _ => trueCl T W)
 go_enter Tryz.func36, Tryz.ntmps36
 go_wp2_with fail
 refine ct.mono ?_
 rintro e w1 ⟨a, cap, rfl, hr, hb⟩
 go_wp2
 go_ret
 exact ⟨a, cap, rfl, hr, hb⟩
theorem RowAt.part {α : Type} {c : α → List Value} {k : Nat} {w : World} {a : Option Addr} {L : List α} (h : RowAt c k w a L) (lo m cap : Nat) (hcap : L.length ≤ cap) :
    RowAt c k w (if cap = lo then a else a.map fun x => x.add (lo * k)) ((L.drop lo).take m) := fun j x hj => by
 have hj2 : L[lo + j]? = some x := by
  rw [List.getElem?_take] at hj
  split at hj
  ·rwa [List.getElem?_drop] at hj
  ·cases hj
 obtain ⟨ad, h1, h2, h3⟩ := h (lo + j) x hj2
 have hl := (List.getElem?_eq_some_iff.1 hj2).1
 refine ⟨ad.add (lo * k), ?_, by rw [zAn]; exact h2, fun i u hu => ?_⟩
 ·rw [if_neg (by omega), h1]; rfl
 ·rw [show (ad.add (lo * k)).add (j * k) = ad.add ((lo + j) * k) by rw [Go.Deep.add_add, ← Nat.add_mul]]
  exact h3 i u hu
theorem zEx (a : Option Addr) (n cap lo hi : Nat) (h1 : lo ≤ hi) (h2 : hi ≤ cap) (w : World) : (Instr.slice 32 (.slice a n cap) (some (.int .i64 lo)) (some (.int .i64 hi)) none).run Tryz.prog w = .ok (.slice (if cap = lo then a else a.map fun x => x.add (lo * 6)) (hi - lo) (cap - lo)) w := by
 simp [Instr.slice, Instr.sliceBounds, Instr.sliceBound, asIntOf, run_underlying Tryz.underlying32, go_sem, h1, h2]
theorem run_from_tri (a : Option Addr) (n cap lo : Nat) (h1 : lo ≤ n) (w : World) : (Instr.slice 32 (.slice a n cap) (some (.int .i64 lo)) none none).run Tryz.prog w = .ok (.slice (if cap = lo then a else a.map fun x => x.add (lo * 6)) (n - lo) (cap - lo)) w := by
 simp [Instr.slice, Instr.sliceBounds, Instr.sliceBound, asIntOf, run_underlying Tryz.underlying32, go_sem, h1]
theorem run_upto_tri (a : Option Addr) (n cap hi : Nat) (h1 : hi ≤ cap) (w : World) : (Instr.slice 32 (.slice a n cap) none (some (.int .i64 hi)) none).run Tryz.prog w = .ok (.slice a hi cap) w := by
 cases a <;> simp [Instr.slice, Instr.sliceBounds, Instr.sliceBound, asIntOf, run_underlying Tryz.underlying32, go_sem, h1, Addr.add]
theorem zFe (a : Option Addr) (n cap lo : Nat) (h1 : lo ≤ n) (w : World) : (Instr.slice 52 (.slice a n cap) (some (.int .i64 lo)) none none).run Tryz.prog w = .ok (.slice (if cap = lo then a else a.map fun x => x.add (lo * 2)) (n - lo) (cap - lo)) w := by
 simp [Instr.slice, Instr.sliceBounds, Instr.sliceBound, asIntOf, run_underlying Tryz.underlying52, go_sem, h1]
theorem run_upto_pt (a : Option Addr) (n cap hi : Nat) (h1 : hi ≤ cap) (w : World) : (Instr.slice 52 (.slice a n cap) none (some (.int .i64 hi)) none).run Tryz.prog w = .ok (.slice a hi cap) w := by
 cases a <;> simp [Instr.slice, Instr.sliceBounds, Instr.sliceBound, asIntOf, run_underlying Tryz.underlying52, go_sem, h1, Addr.add]
end Go.Proofs.YtmobnmjjmafibaaGreat
namespace Go.Proofs.YtmobnmjjmafibaaGreat
section
variable {α : Type} {c : α → α → Int}
def Blocks (c : α → α → Int) (n : Nat) (L : List α) : Prop := ∀ i j (hi : i < L.length) (hj : j < L.length), i < j → i / n = j / n → c L[i] L[j] ≤ 0
theorem blocks_one (L : List α) : Blocks c 1 L := fun i j _ _ h e => by rw [Nat.div_one, Nat.div_one] at e; omega
theorem blocks_all {n : Nat} {L : List α} (h : Blocks c n L) (hn : L.length ≤ n) : InOrder c L := by
 unfold InOrder
 rw [List.pairwise_iff_getElem]
 intro i j hi hj hij
 exact h i j hi hj hij (by rw [Nat.div_eq_of_lt (by omega), Nat.div_eq_of_lt (by omega)])
theorem zFs {n m : Nat} {L : List α} (h : Blocks c n L) : InOrder c ((L.drop (n * m)).take n) := by
 unfold InOrder
 rw [List.pairwise_iff_getElem]
 intro i j hi hj hij
 simp only [List.length_take, List.length_drop] at hi hj
 simp only [List.getElem_take, List.getElem_drop]
 have h0 : 0 < n := by omega
 refine h _ _ (by omega) (by omega) (by omega) ?_
 rw [Nat.mul_add_div h0, Nat.mul_add_div h0, Nat.div_eq_of_lt (by omega), Nat.div_eq_of_lt (by omega)]
theorem blocks_append {n m : Nat} {O M : List α} (h : Blocks c n O) (hl : O.length = n * m) (hM : InOrder c M) : Blocks c n (O ++ M) := by
 intro i j hi hj hij e
 rw [List.length_append] at hi hj
 by_cases h1 : j < O.length
 ·rw [List.getElem_append_left h1, List.getElem_append_left (by omega)]
  exact h i j (by omega) h1 hij e
 ·by_cases h2 : i < O.length
  ·exfalso
   have h0 : 0 < n := by rcases Nat.eq_zero_or_pos n with h | h; · subst h; rw [Nat.zero_mul] at hl; omega
                         ·exact h
   have e1 : i / n < m := by rw [Nat.div_lt_iff_lt_mul h0, Nat.mul_comm]; omega
   have e2 : m ≤ j / n := by rw [Nat.le_div_iff_mul_le h0, Nat.mul_comm]; omega
   omega
  ·rw [List.getElem_append_right (by omega), List.getElem_append_right (by omega)]
   unfold InOrder at hM
   rw [List.pairwise_iff_getElem] at hM
   exact hM (i - O.length) (j - O.length) (by omega) (by omega) (by omega)
structure Mrg (c : α → α → Int) (X M A B : List α) : Prop where
 perm : (M ++ (A ++ B)).Perm X
 m : InOrder c M
 a : InOrder c A
 b : InOrder c B
 le : ∀ x ∈ M, ∀ y ∈ A ++ B, c x y ≤ 0
theorem Mrg.start {A B : List α} (ha : InOrder c A) (hb : InOrder c B) : Mrg c (A ++ B) [] A B := ⟨by simp, by simp [InOrder], ha, hb, by simp⟩
theorem inOrder_snoc {M : List α} {x : α} (h : InOrder c M) (hx : ∀ y ∈ M, c y x ≤ 0) : InOrder c (M ++ [x]) := by
 unfold InOrder at *
 rw [List.pairwise_append]
 exact ⟨h, by simp, fun a ha b hb => by simp at hb; subst hb; exact hx a ha⟩
theorem Mrg.left (W : Whole c) {X M A B : List α} {x : α} (h : Mrg c X M (x :: A) B) (hx : ∀ y, B.head? = some y → c x y ≤ 0) : Mrg c X (M ++ [x]) A B := by
 have hA := h.a
 unfold InOrder at hA
 rw [List.pairwise_cons] at hA
 have hxB : ∀ y ∈ B, c x y ≤ 0 := fun y hy => by
  cases B with
  | nil => simp at hy
  | cons z B =>
   have hb := h.b
   unfold InOrder at hb
   rw [List.pairwise_cons] at hb
   rcases List.mem_cons.1 hy with rfl | hy
   ·exact hx _ rfl
   ·exact W.le_trans (hx _ rfl) (hb.1 y hy)
 refine ⟨by simpa using h.perm, inOrder_snoc h.m (fun y hy => h.le y hy x (by simp)), hA.2, h.b, fun z hz y hy => ?_⟩
 rcases List.mem_append.1 hz with hz | hz
 ·exact h.le z hz y (by simp at hy ⊢; exact .inr hy)
 ·simp at hz; subst hz
  rcases List.mem_append.1 hy with hy | hy
  ·exact hA.1 y hy
  ·exact hxB y hy
theorem Mrg.right (W : Whole c) {X M A B : List α} {x : α} (h : Mrg c X M A (x :: B)) (hx : ∀ y, A.head? = some y → c x y ≤ 0) : Mrg c X (M ++ [x]) A B := by
 have h2 : Mrg c X M (x :: B) A := ⟨((List.perm_append_comm).append_left M).trans h.perm, h.m, h.b, h.a, fun z hz y hy => h.le z hz y (by simp at hy ⊢; rcases hy with h | h | h <;> simp [h])⟩
 have h3 := h2.left W hx
 exact ⟨((List.perm_append_comm).append_left _).trans h3.perm, h3.m, h3.b, h3.a, fun z hz y hy => h3.le z hz y (by simp at hy ⊢; exact hy.symm)⟩
theorem Mrg.done {X M : List α} (h : Mrg c X M [] []) : M.Perm X := by simpa using h.perm
theorem two_blocks (L : List α) (at_ n : Nat) : (L.drop at_).take n ++ (L.drop (at_ + n)).take n = (L.drop at_).take (2 * n) := by
 rw [← List.drop_drop, Nat.two_mul, List.take_add]
end
end Go.Proofs.YtmobnmjjmafibaaGreat
