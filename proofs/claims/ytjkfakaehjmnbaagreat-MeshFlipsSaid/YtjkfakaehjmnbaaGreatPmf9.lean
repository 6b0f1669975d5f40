/- Put together: TrE, TrM, Ord, RowK, Wal, WalB, Shelf, WalC, WalD, Rise, WalM, WalF, WalG, DocA. -/
import Derived.Test.YtjkfakaehjmnbaaGreatRows
import Derived.Test.YtjkfakaehjmnbaaGreatPmf8
import Derived.Test.YtjkfakaehjmnbaaGreatPmf1
import Derived.WalkKit
import Derived.WalkSpells
import Derived.WalkLawsBesides
import Derived.Laws.Externs
import Derived.Deep.QuietTactic
import Derived.BigQuiet
import Derived.Lib.Hide
import Derived.Handy
import Derived.Test.YtjkfakaehjmnbaaGreatPmf6
import Derived.Shelf.SlSortCmp.NoneTotal
import Derived.Laws.AppendOwn
import Derived.BigCall
import Derived.Test.YtjkfakaehjmnbaaGreatPmf2
import Derived.Test.YtjkfakaehjmnbaaGreatPmf3
import Derived.LoopN
import Derived.RegionTactic
import Derived.Shelf.SlicesQ.IndexFunc
import Derived.Shelf.SlicesE.Clone
import Derived.Ground.SlsfProg
import Derived.Ground.SlgfProg
import Derived.Ground.SlgnProg
import Derived.Test.YtjkfakaehjmnbaaGreatProg
import Derived.OwnWalk
set_option maxRecDepth 100000
set_option maxHeartbeats 8000000
namespace Go.Proofs.YtjkfakaehjmnbaaGreat
open Go.RowKit Go.Sort
attribute [local go_sem] rOper rAt rUpon cell_set sg_i64 sg_u64 alloc_cell alloc_frozen
attribute [local go_sem 10000] pt_eql pt_neq
attribute [local irreducible] rWalk
theorem zKm {p q : Pt} : leq p q = true ↔ p.x < q.x ∨ (p.x = q.x ∧ p.y ≤ q.y) := by
 unfold leq cmpP cmpN sgn;rw [decide_eq_true_eq]
 (repeat' split) <;> omega
theorem zKn {T : Tri3} : lds T = true ↔ (T.A.x < T.B.x ∨ (T.A.x = T.B.x ∧ T.A.y ≤ T.B.y)) ∧ (T.A.x < T.C.x ∨ (T.A.x = T.C.x ∧ T.A.y ≤ T.C.y)) := by
 unfold lds; rw [Bool.and_eq_true, zKm, zKm]
theorem lead_some (a b c : Pt) (h1 : lds ⟨a, b, c⟩ = false) (h2 : lds ⟨b, c, a⟩ = false) : lds ⟨c, a, b⟩ = true := by
 rw [← Bool.not_eq_true, zKn] at h1 h2;rw [zKn];simp only at h1 h2 ⊢;omega
theorem zKj {x y z : Pt} (hx : vld x = true) (hy : vld y = true) (hz : vld z = true) (n1 : key x ≠ key y) (n2 : key x ≠ key z) (n3 : key y ≠ key z) : mkT y z x = mkT x y z := by
 rcases zDu hx hy hz n1 n2 n3 with ⟨u1, u2, e⟩ | ⟨u1, u2, e⟩ | ⟨u1, u2, e⟩ <;> rcases zDu hy hz hx n3 n1.symm n2.symm with ⟨v1, v2, f⟩ | ⟨v1, v2, f⟩ | ⟨v1, v2, f⟩ <;> first | (exfalso; omega) | rw [e, f]
theorem zIg {a b c : Pt} (h : ori a b c = 0) : mk a b c = ⟨⟨0, 0⟩, ⟨0, 0⟩, ⟨0, 0⟩⟩ := by unfold mk; rw [if_pos h]
theorem zJl {a b c : Pt} (h0 : ¬ ori a b c = 0) : vld a = true ∧ vld b = true ∧ vld c = true ∧ key a ≠ key b ∧ key a ≠ key c ∧ key b ≠ key c := by
 obtain ⟨va, vb, vc⟩ := zCl h0;obtain ⟨d1, d2, d3⟩ := zBf h0;exact ⟨va, vb, vc, fun h => d1 (zBo va vb h).symm, fun h => d2 (zBo va vc h).symm, fun h => d3 (zBo vb vc h).symm⟩
theorem zJm (a b c : Pt) : mk b c a = mk a b c := by
 by_cases h0 : ori a b c = 0
 ·rw [zIg h0, zIg (by rw [zBg]; exact h0)]
 ·obtain ⟨va, vb, vc, n1, n2, n3⟩ := zJl h0;unfold mk;rw [zBg, if_neg h0, if_neg h0, zKj va vb vc n1 n2 n3, zKj vb va vc n1.symm n3 n2]
theorem mk_swap (a b c : Pt) : mk a c b = mk a b c := by
 have hb := zC4 a b c;unfold mk;rw [zDt];by_cases h0 : ori a b c = 0
 ·simp [h0]
 ·rw [if_neg h0, if_neg (by omega)];by_cases h1 : ori a b c = 1
  ·rw [if_pos h1, if_neg (by omega)]
  ·rw [if_neg h1, if_pos (by omega)]
theorem val_mk {x y z : Pt} (h : valT ⟨x, y, z⟩ = true) : mk x y z = ⟨x, y, z⟩ := by
 unfold valT at h;simp only [Bool.and_eq_true, zCn] at h;exact h.2
theorem val_of {x y z : Pt} (ho : 0 < ori x y z) (hl : lds ⟨x, y, z⟩ = true) : valT ⟨x, y, z⟩ = true := by
 rw [zJ2]; unfold valS; simp [ho, hl]
theorem val_none {x y z : Pt} (ho : ori x y z = 0) : valT ⟨x, y, z⟩ = false := by
 rw [zJ2]; unfold valS; simp [ho]
theorem lds_swap {x y z : Pt} (hl : lds ⟨x, y, z⟩ = true) : lds ⟨x, z, y⟩ = true := by
 unfold lds at hl ⊢; simp only at hl ⊢; rw [Bool.and_comm]; exact hl
theorem ori_swap2' (x y z : Pt) : ori x z y = -ori x y z := zDt x y z
theorem zEr (a b c : Pt) (w : World) :
    Calls Tryz.prog 56 #[.agg #[.int .i64 a.x, .int .i64 a.y], .agg #[.int .i64 b.x, .int .i64 b.y], .agg #[.int .i64 c.x, .int .i64 c.y]] w fun e w' => e = .returned (.tuple #[.agg #[.int .i64 (mk a b c).A.x, .int .i64 (mk a b c).A.y, .int .i64 (mk a b c).B.x, .int .i64 (mk a b c).B.y, .int .i64 (mk a b c).C.x, .int .i64 (mk a b c).C.y], .bool (!decide (ori a b c = 0))]) ∧ Below w.heap.size w w' := by
 have main : ∀ {x y z : Pt}, ori x y z = ori a b c → mk x y z = mk a b c → lds ⟨x, y, z⟩ = true →
     (ori x y z = 0 ∧ decide (ori x y z < 0) = false ∧ valT ⟨x, y, z⟩ = false ∧ mk a b c = ⟨⟨0, 0⟩, ⟨0, 0⟩, ⟨0, 0⟩⟩ ∧ (!decide (ori a b c = 0)) = false) ∨
     (decide (ori x y z < 0) = false ∧ valT ⟨x, y, z⟩ = true ∧ mk a b c = ⟨x, y, z⟩ ∧ (!decide (ori a b c = 0)) = true) ∨
     (decide (ori x y z < 0) = true ∧ valT ⟨x, z, y⟩ = true ∧ mk a b c = ⟨x, z, y⟩ ∧ (!decide (ori a b c = 0)) = true) := by
  intro x y z e1 e2 hl;by_cases h0 : ori x y z = 0
  ·left
   exact ⟨h0, by simp [h0], val_none h0, by rw [← e2]; exact zIg h0, by rw [← e1]; simp [h0]⟩
  ·right
   by_cases h1 : ori x y z < 0
   ·right
    have hv : valT ⟨x, z, y⟩ = true := val_of (by rw [ori_swap2']; omega) (lds_swap hl);exact ⟨by simp [h1], hv, by rw [← e2, ← mk_swap]; exact val_mk hv, by rw [← e1]; simp [h0]⟩
   ·left
    have hv : valT ⟨x, y, z⟩ = true := val_of (by omega) hl;exact ⟨by simp; omega, hv, by rw [← e2]; exact val_mk hv, by rw [← e1]; simp [h0]⟩
 cases l0 : lds ⟨a, b, c⟩ with
 | true =>
  rcases main (x := a) (y := b) (z := c) rfl rfl l0 with ⟨_, p, q, e, f⟩ | ⟨p, q, e, f⟩ | ⟨p, q, e, f⟩ <;> rw [e, f]
  ·exact tmake_z0 a b c l0 p q w
  ·exact tmake_p0 a b c l0 p q w
  ·exact tmake_n0 a b c l0 p q w
 | false => cases l1 : lds ⟨b, c, a⟩ with
  | true =>
   rcases main (x := b) (y := c) (z := a) (zBg a b c) (zJm a b c) l1 with ⟨_, p, q, e, f⟩ | ⟨p, q, e, f⟩ | ⟨p, q, e, f⟩ <;> rw [e, f]
   ·exact tmake_z1 a b c l0 l1 p q w
   ·exact tmake_p1 a b c l0 l1 p q w
   ·exact tmake_n1 a b c l0 l1 p q w
  | false =>
   have l2 := lead_some a b c l0 l1;rcases main (x := c) (y := a) (z := b) (by rw [zBg, zBg]) (by rw [zJm, zJm]) l2 with ⟨_, p, q, e, f⟩ | ⟨p, q, e, f⟩ | ⟨p, q, e, f⟩ <;> rw [e, f]
   ·exact tmake_z2 a b c l0 l1 l2 p q w
   ·exact tmake_p2 a b c l0 l1 l2 p q w
   ·exact tmake_n2 a b c l0 l1 l2 p q w
end Go.Proofs.YtjkfakaehjmnbaaGreat
namespace Go.Proofs.YtjkfakaehjmnbaaGreat
open Go.RowKit
theorem mk_ok {a b c : Pt} (h0 : ¬ ori a b c = 0) : valT (mk a b c) = true ∧
    (mk a b c = ⟨a, b, c⟩ ∨ mk a b c = ⟨b, c, a⟩ ∨ mk a b c = ⟨c, a, b⟩ ∨ mk a b c = ⟨a, c, b⟩ ∨ mk a b c = ⟨c, b, a⟩ ∨ mk a b c = ⟨b, a, c⟩) := by
 obtain ⟨va, vb, vc, n1, n2, n3⟩ := zJl h0;have hb := zC4 a b c;rw [zJ2]; unfold valS lds;by_cases h1 : ori a b c = 1
 ·have e0 : mk a b c = mkT a b c := by unfold mk; rw [if_neg h0, if_pos h1]
  rw [e0];rcases zDu va vb vc n1 n2 n3 with ⟨x1, x2, e⟩ | ⟨x1, x2, e⟩ | ⟨x1, x2, e⟩ <;> rw [e] <;> simp only
  ·rw [zC0 va vb, zC0 va vc]; refine ⟨?_, by simp⟩; simp only [Bool.and_eq_true, decide_eq_true_eq]; omega
  ·rw [zBg, zC0 vb vc, zC0 vb va]; refine ⟨?_, by simp⟩; simp only [Bool.and_eq_true, decide_eq_true_eq]; omega
  ·rw [zBg, zBg, zC0 vc va, zC0 vc vb]; refine ⟨?_, by simp⟩; simp only [Bool.and_eq_true, decide_eq_true_eq]; omega
 ·have e0 : mk a b c = mkT a c b := by unfold mk; rw [if_neg h0, if_neg h1]
  have h2 : ori a c b = 1 := by rw [zDt]; omega
  rw [e0];rcases zDu va vc vb n2 n1 n3.symm with ⟨x1, x2, e⟩ | ⟨x1, x2, e⟩ | ⟨x1, x2, e⟩ <;> rw [e] <;> simp only
  ·rw [zC0 va vb, zC0 va vc]; refine ⟨?_, by simp⟩; simp only [Bool.and_eq_true, decide_eq_true_eq]; omega
  ·rw [zBg, zC0 vc vb, zC0 vc va]; refine ⟨?_, by simp⟩; simp only [Bool.and_eq_true, decide_eq_true_eq]; omega
  ·rw [zBg, zBg, zC0 vb va, zC0 vb vc]; refine ⟨?_, by simp⟩; simp only [Bool.and_eq_true, decide_eq_true_eq]; omega
theorem zGg {T : Tri3} (h : valT T = true) : vld T.A = true ∧ vld T.B = true ∧ vld T.C = true ∧ 0 < det T.A T.B T.C := by
 obtain ⟨va, vb, vc⟩ := valT_vld h;rw [zJ2] at h;unfold valS at h;simp only [Bool.and_eq_true, decide_eq_true_eq] at h;have h1 := h.1;rw [ori_v va vb vc] at h1;have := zAa (det T.A T.B T.C);exact ⟨va, vb, vc, by omega⟩
theorem zEn (a b c p : Pt) : det a b p + det b c p + det c a p = det a b c := by unfold det; grind
theorem corner0 {a b c : Pt} (p : Pt) (hD : 0 < det a b c) : p = a ↔ det a b p = 0 ∧ det c a p = 0 := by
 constructor
 ·intro h; subst h; constructor <;> (unfold det; grind)
 ·intro ⟨h1, h2⟩;have e1 : det a b c * (p.x - a.x) = det c a p * (b.x - a.x) + det a b p * (c.x - a.x) := by unfold det; grind
  have e2 : det a b c * (p.y - a.y) = det c a p * (b.y - a.y) + det a b p * (c.y - a.y) := by unfold det; grind
  rw [h1, h2] at e1 e2;simp only [Int.zero_mul, Int.add_zero] at e1 e2;rw [Pt.eq_iff];rcases Int.mul_eq_zero.1 e1 with h | h
  ·omega
  ·rcases Int.mul_eq_zero.1 e2 with h' | h'
   ·omega
   ·omega
theorem zHp {a b c : Pt} (ha : vld a = true) (hb : vld b = true) (hc : vld c = true) : -562949886312450 ≤ det a b c ∧ det a b c ≤ 562949886312450 := by
 have := cr_bd (zEp ha hb) (zEp ha hc);exact this
theorem zL0 {a b p : Pt} (va : vld a = true) (vb : vld b = true) (vp : vld p = true) : (0 < ori a b p ↔ 0 < det a b p) ∧ (0 ≤ ori a b p ↔ 0 ≤ det a b p) ∧ (ori a b p = 0 ↔ det a b p = 0) := by
 rw [ori_v va vb vp];have := zAa (det a b p);omega
end Go.Proofs.YtjkfakaehjmnbaaGreat
namespace Go.Proofs.YtjkfakaehjmnbaaGreat
open Go.RowKit Go.Sort
theorem zFo (p q : Pt) : cmpP q p = -cmpP p q := by
 unfold cmpP cmpN sgn; (repeat' split) <;> omega
theorem zCj {p q : Pt} : cmpP p q = 0 ↔ p = q := by
 rw [Pt.eq_iff]; unfold cmpP cmpN sgn; (repeat' split) <;> omega
theorem cmpP_lt {p q : Pt} : cmpP p q < 0 ↔ p.x < q.x ∨ (p.x = q.x ∧ p.y < q.y) := by
 unfold cmpP cmpN sgn; (repeat' split) <;> omega
theorem zE2 {p q r : Pt} (h1 : cmpP p q < 0) (h2 : cmpP q r < 0) : cmpP p r < 0 := by
 rw [cmpP_lt] at *; omega
theorem zK3 (S T : Tri3) : cmpT T S = -cmpT S T := by
 unfold cmpT; rw [zFo S.A T.A, zFo S.B T.B, zFo S.C T.C]; (repeat' split) <;> omega
theorem cmpT_eq0 {S T : Tri3} : cmpT S T = 0 ↔ S = T := by
 rw [Tri3.eq_iff, ← zCj, ← zCj (p := S.B), ← zCj (p := S.C)];unfold cmpT; (repeat' split) <;> omega
theorem cmpT_lt {S T : Tri3} : cmpT S T < 0 ↔ cmpP S.A T.A < 0 ∨ (S.A = T.A ∧ (cmpP S.B T.B < 0 ∨ (S.B = T.B ∧ cmpP S.C T.C < 0))) := by
 rw [← zCj (p := S.A), ← zCj (p := S.B)];unfold cmpT; (repeat' split) <;> omega
theorem cmpT_trans {S T U : Tri3} (h1 : cmpT S T < 0) (h2 : cmpT T U < 0) : cmpT S U < 0 := by
 rw [cmpT_lt] at *;rcases h1 with h1 | ⟨e1, h1⟩ <;> rcases h2 with h2 | ⟨e2, h2⟩
 ·exact .inl (zE2 h1 h2)
 ·exact .inl (e2 ▸ h1)
 ·exact .inl (e1 ▸ h2)
 ·refine .inr ⟨e1.trans e2, ?_⟩;rcases h1 with h1 | ⟨f1, h1⟩ <;> rcases h2 with h2 | ⟨f2, h2⟩
  ·exact .inl (zE2 h1 h2)
  ·exact .inl (f2 ▸ h1)
  ·exact .inl (f1 ▸ h2)
  ·exact .inr ⟨f1.trans f2, zE2 h1 h2⟩
structure Whole {α : Type} (c : α → α → Int) : Prop where
 neg : ∀ x y, c y x = -c x y
 eq0 : ∀ {x y}, c x y = 0 ↔ x = y
 trans : ∀ {x y z}, c x y < 0 → c y z < 0 → c x z < 0
theorem wholeP : Whole cmpP := ⟨zFo, zCj, zE2⟩
theorem wholeT : Whole cmpT := ⟨zK3, cmpT_eq0, cmpT_trans⟩
section
variable {α : Type} {c : α → α → Int}
theorem Whole.swo (W : Whole c) : SWO (ltOf c) where
 irrefl x := by unfold ltOf; have := (W.eq0 (x := x) (y := x)).2 rfl; simp; omega
 trans x y z h1 h2 := by unfold ltOf at *; simp at *; exact W.trans h1 h2
 ntrans x y z h1 h2 := by
  unfold ltOf at *; simp at *;rcases Int.lt_or_le (c x z) 0 with h | h
  ·exfalso
   have n1 := W.neg x y;have n2 := W.neg y z;rcases Int.lt_or_eq_of_le h1 with g1 | g1
   ·have := W.trans (x := y) (y := x) (z := z) (by omega) h;omega
   ·have e := W.eq0.1 g1.symm;subst e; omega
  ·exact h
theorem Whole.one (W : Whole c) : ∀ x y, ltOf c x y = false → ltOf c y x = false → x = y := fun x y h1 h2 => by
 unfold ltOf at *;simp at h1 h2;rw [W.neg x y] at h2;exact W.eq0.1 (by omega)
def srt (c : α → α → Int) (L : List α) : List α := L.mergeSort fun x y => !(ltOf c) y x
def InOrder (c : α → α → Int) (L : List α) : Prop := L.Pairwise fun x y => c x y ≤ 0
theorem zAo (L : List α) : (srt c L).Perm L := List.mergeSort_perm _ _
theorem Whole.le_trans (W : Whole c) {x y z : α} (h1 : c x y ≤ 0) (h2 : c y z ≤ 0) : c x z ≤ 0 := by
 rcases Int.lt_or_eq_of_le h1 with g1 | g1
 ·rcases Int.lt_or_eq_of_le h2 with g2 | g2
  ·have := W.trans g1 g2; omega
  ·have e := W.eq0.1 g2; subst e; exact h1
 ·have e := W.eq0.1 g1; subst e; exact h2
theorem Whole.srt_order (W : Whole c) (L : List α) : InOrder c (srt c L) := by
 have h := List.pairwise_mergeSort (le := fun x y => !(ltOf c) y x) (fun a b d h1 h2 => by
  unfold ltOf at *;simp at *;have n1 := W.neg a b;have n2 := W.neg b d;have n3 := W.neg a d;have := W.le_trans (x := a) (y := b) (z := d) (by omega) (by omega);omega) (fun a b => by
  unfold ltOf;have := W.neg a b;simp;omega) L
 refine h.imp fun {a b} h1 => ?_;unfold ltOf at h1;simp at h1;have := W.neg a b;omega
theorem Whole.unique (W : Whole c) : ∀ {L M : List α}, L.Perm M → InOrder c L → InOrder c M → L = M
 | [], M, hp, _, _ => by rw [List.nil_perm.1 hp]
 | x :: L, M, hp, h1, h2 => by
  cases M with
  | nil => exact absurd hp.length_eq (by simp)
  | cons y M =>
   unfold InOrder at *;rw [List.pairwise_cons] at h1 h2;have e : x = y := by
    rcases List.mem_cons.1 (hp.mem_iff.1 (List.mem_cons_self)) with e | hx
    ·exact e
    ·rcases List.mem_cons.1 (hp.mem_iff.2 (List.mem_cons_self)) with e | hy
     ·exact e.symm
     ·have a1 := h1.1 y hy;have a2 := h2.1 x hx;have := W.neg x y;exact W.eq0.1 (by omega)
   subst e;rw [Whole.unique W (hp.cons_inv) h1.2 h2.2]
theorem Whole.srt_eq (W : Whole c) {L M : List α} (hp : M.Perm L) (ho : InOrder c M) : M = srt c L :=
 W.unique (hp.trans (zAo L).symm) ho (W.srt_order L)
theorem Whole.srt_of_perm (W : Whole c) {L M : List α} (hp : M.Perm L) : srt c M = srt c L := W.srt_eq ((zAo M).trans hp) (W.srt_order M)
end
end Go.Proofs.YtjkfakaehjmnbaaGreat
namespace Go.Proofs.YtjkfakaehjmnbaaGreat
open Go.RowKit Go.Sort Go.Lib Go.Shelf
section
variable {α : Type} {c : α → List Value} {k : Nat}
theorem zB4 (hc : ∀ x, (c x).length = k) : ∀ L : List α, (L.flatMap c).length = L.length * k
 | [] => by simp
 | x :: L => by rw [List.flatMap_cons, List.length_append, hc, zB4 hc L, List.length_cons, Nat.add_mul]; omega
theorem zBb (hc : ∀ x, (c x).length = k) : ∀ (L : List α) (j i : Nat) (x : α), L[j]? = some x → i < k → (L.flatMap c)[j * k + i]? = (c x)[i]?
 | [], j, i, x, h, _ => by simp at h
 | y :: L, 0, i, x, h, hi => by
  simp at h; subst h;rw [List.flatMap_cons, Nat.zero_mul, Nat.zero_add, List.getElem?_append_left (by rw [hc]; exact hi)]
 | y :: L, j + 1, i, x, h, hi => by
  rw [List.flatMap_cons, List.getElem?_append_right (by rw [hc, Nat.add_mul]; omega), hc];rw [show (j + 1) * k + i - k = j * k + i by rw [Nat.add_mul]; omega];exact zBb hc L j i x (by simpa using h) hi
theorem zEh {w : World} {B : Nat} {T : TypeId} {v : Value} {L : List α} (hc : ∀ x, (c x).length = k) (h : w.ownsRow B T k v L.length (L.flatMap c)) :
    ∃ a cap, v = .slice a L.length cap ∧ RowAt c k w a L := by
 rcases h.2 with ⟨rfl, h0⟩ | ⟨g, cap, cur, rfl, hB, hb, h1, h2, h3, h4⟩
 ·have : L = [] := List.eq_nil_of_length_eq_zero h0;subst this;exact ⟨none, 0, rfl, RowAt.nil⟩
 ·refine ⟨some ⟨g, 0, none⟩, cap, rfl, fun j x hj => ⟨_, rfl, (Array.getElem?_eq_some_iff.1 hb).1, fun i u hu => ?_⟩⟩;have hi : i < k := by rw [← hc x]; exact (List.getElem?_eq_some_iff.1 hu).1
  have e := zBb hc L j i x hj hi;rw [hu, ← h4, List.getElem?_take] at e;split at e
  ·rw [Addr.add_lit, Addr.add_lit];simp only [World.cell?, hb, Nat.zero_add]
   simpa using e
  ·cases e
end
section
variable {α : Type} [Inhabited α] {c : α → List Value} {k : Nat}
theorem zDx {w : World} {B g cap n : Nat} {T : TypeId} {L : List α} (hc : ∀ x, (c x).length = k) (h : w.ownsRow B T k (.slice (some ⟨g, 0, none⟩) n cap) L.length (L.flatMap c)) : HoldsK c k w g 0 L.toArray ∧ g < w.heap.size := by
 rcases h.2 with ⟨h0, _⟩ | ⟨g', cap', cur, h0, hB, hb, h1, h2, h3, h4⟩
 ·cases h0
 ·simp only [Value.slice.injEq, Option.some.injEq, Addr.mk.injEq, and_true] at h0;obtain ⟨e1, e2, e3⟩ := h0;subst e1 e3;refine ⟨fun t ht => ⟨?_, by simp [World.frozen?, hb]⟩, (Array.getElem?_eq_some_iff.1 hb).1⟩;have ht' : t < L.length * k := by simpa using ht
  rw [get_flatK _ _ _ _ (by simpa using ht')]
  have k0 : 0 < k := by rcases Nat.eq_zero_or_pos k with h | h; · subst h; simp at ht'
                        ·exact h
  have hj : t / k < L.length := by rwa [Nat.div_lt_iff_lt_mul k0]
  have hi : t % k < k := Nat.mod_lt _ k0;have e := zBb hc L (t / k) (t % k) L[t / k] (List.getElem?_eq_getElem hj) hi;rw [show t / k * k + t % k = t by rw [Nat.mul_comm]; exact Nat.div_add_mod t k, ← h4, List.getElem?_take] at e;split at e
  ·simp only [World.cell?, hb, Nat.zero_add];simp only [Option.isSome_none, Bool.false_eq_true, if_false];rw [← Array.getElem?_toList, e];simp [hj, hc, hi]
  ·rename_i hh; exact absurd ht' hh
theorem zDc {w : World} {g : Nat} {L : List α} (hc : ∀ x, (c x).length = k) (h : HoldsK c k w g 0 L.toArray) (hg : g < w.heap.size) : RowAt c k w (some ⟨g, 0, none⟩) L := fun j x hj => by
 refine ⟨_, rfl, hg, fun i u hu => ?_⟩;have hi : i < k := by rw [← hc x]; exact (List.getElem?_eq_some_iff.1 hu).1
 have hjl : j < L.length := (List.getElem?_eq_some_iff.1 hj).1;have e := (h.cell (i := j) (c := i) (by simpa using hjl) hi).1;rw [Addr.add_lit, Addr.add_lit, e];have e2 : L.toArray[j]! = x := by
  rw [getElem!_pos _ j (by simpa using hjl)]
  simpa using (List.getElem?_eq_some_iff.1 hj).2
 rw [e2, ← hu, List.getElem!_eq_getElem?_getD, List.getElem?_eq_getElem (by rw [hc]; exact hi)];rfl
theorem zC1 {w : World} {g n : Nat} {os : Array Obj} (d : Array α) : w.grownBy (sortWorldK c k w g 0 n d os) (some g) := by
 refine ⟨rfl, rfl, rfl, by simp [sortWorldK, putRowK], fun i hi hne => ?_⟩;unfold sortWorldK putRowK;rw [heap_grow_old _ _ (by simpa using hi)];have : g ≠ i := fun e => hne (by rw [e]);simp [putRow, mapBlock, Sort.ahead, Array.getElem?_modify, this]
theorem zFh {w : World} {g n : Nat} {os : Array Obj} {d d' : Array α} (h : HoldsK c k w g 0 d) (hg : g < w.heap.size) (hs : d'.size = d.size) : HoldsK c k (sortWorldK c k w g 0 n d' os) g 0 d' := by
 unfold sortWorldK;refine holdsK_grow c k _ os g 0 d' (by simp [putRowK, Sort.ahead]; exact hg) ?_;exact holdsK_putRowK c k _ g 0 d d' (holdsK_ahead c k w n g 0 d h) hs
end
theorem zEo (b : Nat) : ∀ (l : List Value) (o : Nat) (w : World) (i : Nat), i < o → (w.setCells b o l).cell? ⟨b, i, none⟩ = w.cell? ⟨b, i, none⟩
 | [], _, _, _, _ => rfl
 | v :: l, o, w, i, h => by
  rw [World.setCells, zEo b l (o + 1) _ i (by omega), World.cell?_setCell_other (h := fun e => by have := congrArg Addr.off e; simp at this; omega)]
theorem zEg (b : Nat) : ∀ (l : List Value) (o : Nat) (w : World), (w.setCells b o l).heap.size = w.heap.size
 | [], _, _ => rfl
 | v :: l, o, w => by rw [World.setCells, zEg b l]; simp
end Go.Proofs.YtjkfakaehjmnbaaGreat
namespace Go.Proofs.YtjkfakaehjmnbaaGreat
open Go.RowKit
attribute [local go_sem 10000] pt_eql pt_neq
structure Wl where
 A : Pt
 B : Pt
 K : Int
theorem Wl.eq_iff {p q : Wl} : p = q ↔ p.A = q.A ∧ p.B = q.B ∧ p.K = q.K := by
 cases p; cases q; simp
instance : DecidableEq Pt := fun p q => decidable_of_iff (p.x = q.x ∧ p.y = q.y) Pt.eq_iff.symm
instance : DecidableEq Wl := fun p q => decidable_of_iff (p.A = q.A ∧ p.B = q.B ∧ p.K = q.K) Wl.eq_iff.symm
instance : Inhabited Wl := ⟨⟨⟨0, 0⟩, ⟨0, 0⟩, 0⟩⟩
def cW (t : Wl) : List Value := [.int .i64 t.A.x, .int .i64 t.A.y, .int .i64 t.B.x, .int .i64 t.B.y, .int .i64 t.K]
theorem zK4 (x : Wl) : (cW x).length = 5 := rfl
theorem cW_one (x : Wl) : ∀ v ∈ cW x, v.oneCell' = true := by intro v hv; simp [cW] at hv; rcases hv with rfl | rfl | rfl | rfl | rfl <;> rfl
def weqI (a b c d k e f g h l : Int) : Bool := decide (a = e) && (decide (b = f) && (decide (c = g) && (decide (d = h) && decide (k = l))))
theorem wal_eql (a b c d k e f g h l : Int) (w : World) : (binOp .eql 77 (.agg #[.int .i64 a, .int .i64 b, .int .i64 c, .int .i64 d, .int .i64 k]) (.agg #[.int .i64 e, .int .i64 f, .int .i64 g, .int .i64 h, .int .i64 l])).run Tryz.prog w = .ok (.bool (weqI a b c d k e f g h l)) w := by
 unfold weqI;by_cases h1 : a = e
 case neg => simp [go_sem, h1]
 case pos =>
 by_cases h2 : b = f
 case neg => simp [go_sem, h1, h2]
 case pos =>
 by_cases h3 : c = g
 case neg => simp [go_sem, h1, h2, h3]
 case pos =>
 by_cases h4 : d = h
 case neg => simp [go_sem, h1, h2, h3, h4]
 case pos => by_cases h5 : k = l <;> simp [go_sem, h1, h2, h3, h4, h5]
theorem wal_neq (a b c d k e f g h l : Int) (w : World) : (binOp .neq 77 (.agg #[.int .i64 a, .int .i64 b, .int .i64 c, .int .i64 d, .int .i64 k]) (.agg #[.int .i64 e, .int .i64 f, .int .i64 g, .int .i64 h, .int .i64 l])).run Tryz.prog w = .ok (.bool (!weqI a b c d k e f g h l)) w := by
 unfold weqI;by_cases h1 : a = e
 case neg => simp [go_sem, h1]
 case pos =>
 by_cases h2 : b = f
 case neg => simp [go_sem, h1, h2]
 case pos =>
 by_cases h3 : c = g
 case neg => simp [go_sem, h1, h2, h3]
 case pos =>
 by_cases h4 : d = h
 case neg => simp [go_sem, h1, h2, h3, h4]
 case pos => by_cases h5 : k = l <;> simp [go_sem, h1, h2, h3, h4, h5]
theorem zBy (p q : Pt) : peqI p.x p.y q.x q.y = decide (p = q) := by rw [Bool.eq_iff_iff, zBx, ← Pt.eq_iff]; simp
theorem RowAt.wal {w : World} {a : Option Addr} {L : List Wl} (h : RowAt cW 5 w a L) {j : Nat} (hj : j < L.length) :
    ∃ ad A, a = some ad ∧ ad.add (j * 5) = A ∧ (A.block = w.heap.size) = False ∧ A.block < w.heap.size ∧ (w.cell? A = some (.int .i64 L[j].A.x) ∧ w.cell? ⟨A.block, A.off + 1, none⟩ = some (.int .i64 L[j].A.y) ∧ w.cell? ⟨A.block, A.off + 2, none⟩ = some (.int .i64 L[j].B.x) ∧
     w.cell? ⟨A.block, A.off + 3, none⟩ = some (.int .i64 L[j].B.y) ∧ w.cell? ⟨A.block, A.off + 4, none⟩ = some (.int .i64 L[j].K)) := by
 obtain ⟨ad, h1, h2, h3⟩ := h j L[j] (List.getElem?_eq_getElem hj);have hb : (ad.add (j * 5)).block = ad.block := zAk _ _;refine ⟨ad, _, h1, rfl, by rw [hb]; simp; omega, by rw [hb]; exact h2, ?_⟩;have e0 := h3 0 _ rfl;have e1 := h3 1 _ rfl;have e2 := h3 2 _ rfl;have e3 := h3 3 _ rfl;have e4 := h3 4 _ rfl;simp only [Addr.add_zero', Addr.add_succ'] at e0 e1 e2 e3 e4;exact ⟨e0, e1, e2, e3, e4⟩
def mkK (k : Int) : Bool := decide (k = 1) || decide (k = 2)
def mkOk (a b : Pt) (k : Int) : Bool := mkK k && (!decide (a = b) && (vld a && vld b))
def mkW (a b : Pt) (k : Int) : Wl := if mkOk a b k then ⟨lo2 a b, hi2 a b, k⟩ else ⟨⟨0, 0⟩, ⟨0, 0⟩, 0⟩
end Go.Proofs.YtjkfakaehjmnbaaGreat
namespace Go.Proofs.YtjkfakaehjmnbaaGreat
open Go.RowKit Go.Sort
attribute [local go_sem] Dr.rOper Dr.rAt Dr.rUpon cell_set sg_i64 sg_u64 alloc_cell alloc_frozen
attribute [local go_sem 10000] pt_eql pt_neq wal_eql wal_neq
attribute [local irreducible] Dr.rWalk
def cmpW (S T : Wl) : Int := if cmpP S.A T.A ≠ 0 then cmpP S.A T.A else if cmpP S.B T.B ≠ 0 then cmpP S.B T.B else cmpN S.K T.K
end Go.Proofs.YtjkfakaehjmnbaaGreat
namespace Go.Proofs.YtjkfakaehjmnbaaGreat
open Go.Shelf Go.Proofs
def sortTri_ren : Go.Shelf.Ren := ⟨fun | 6 => 115 | 15 => 120 | 14 => 138 | 28 => 148 | 29 => 149 | 20 => 163 | 21 => 164 | 22 => 165 | 23 => 166 | 24 => 167 | 25 => 168 | 26 => 169 | 27 => 170 | 46 => 182 | 47 => 174 | 48 => 175 | 49 => 183 | 50 => 184 | 57 => 191 | n => n, fun | 22 => 24 | 24 => 43 | 25 => 143 | 3 => 3 | 39 => 156 | 0 => 0 | 53 => 178 | 55 => 127 | 4 => 4 | 46 => 172 | 45 => 171 | 50 => 134 | 5 => 5 | 9 => 9 | 66 => 193 | 70 => 197 | 76 => 207 | 77 => 208 | n => n, fun | n => n⟩
theorem sortTri : Go.Proofs.SlLaysF0.n6 Tryz.prog sortTri_ren := {
 mixed := by kernel_rfl
 f6 := ⟨Tryz.f115.name, by decide, Tryz.func115.trans (congrArg some (by kernel_rfl))⟩
 f14 := ⟨Tryz.f138.name, by decide, Tryz.func138.trans (congrArg some (by kernel_rfl))⟩
 f15 := Tryz.func120.trans (congrArg some (by kernel_rfl))
 f20 := ⟨Tryz.f163.name, by decide, Tryz.func163.trans (congrArg some (by kernel_rfl))⟩
 f21 := ⟨Tryz.f164.name, by decide, Tryz.func164.trans (congrArg some (by kernel_rfl))⟩
 f22 := ⟨Tryz.f165.name, by decide, Tryz.func165.trans (congrArg some (by kernel_rfl))⟩
 f23 := ⟨Tryz.f166.name, by decide, Tryz.func166.trans (congrArg some (by kernel_rfl))⟩
 f24 := ⟨Tryz.f167.name, by decide, Tryz.func167.trans (congrArg some (by kernel_rfl))⟩
 f25 := ⟨Tryz.f168.name, by decide, Tryz.func168.trans (congrArg some (by kernel_rfl))⟩
 f26 := ⟨Tryz.f169.name, by decide, Tryz.func169.trans (congrArg some (by kernel_rfl))⟩
 f27 := ⟨Tryz.f170.name, by decide, Tryz.func170.trans (congrArg some (by kernel_rfl))⟩
 f28 := Tryz.func148.trans (congrArg some (by kernel_rfl))
 f29 := Tryz.func149.trans (congrArg some (by kernel_rfl))
 f46 := ⟨Tryz.f182.name, by decide, Tryz.func182.trans (congrArg some (by kernel_rfl))⟩
 f47 := Tryz.func174.trans (congrArg some (by kernel_rfl))
 f48 := Tryz.func175.trans (congrArg some (by kernel_rfl))
 f49 := ⟨Tryz.f183.name, by decide, Tryz.func183.trans (congrArg some (by kernel_rfl))⟩
 f50 := ⟨Tryz.f184.name, by decide, Tryz.func184.trans (congrArg some (by kernel_rfl))⟩
 f57 := ⟨Tryz.f191.name, by decide, Tryz.func191.trans (congrArg some (by kernel_rfl))⟩
 t0 := Tryz.underlying0
 a0 := Tryz.isAgg0
 z0 := Tryz.sizeOf0
 v0 := Tryz.zeroValue0
 t3 := Tryz.underlying3
 a3 := Tryz.isAgg3
 z3 := Tryz.sizeOf3
 v3 := Tryz.zeroValue3
 t4 := Tryz.underlying4
 a4 := Tryz.isAgg4
 z4 := Tryz.sizeOf4
 v4 := Tryz.zeroValue4
 t5 := Tryz.underlying5
 a5 := Tryz.isAgg5
 z5 := Tryz.sizeOf5
 v5 := Tryz.zeroValue5
 t9 := Tryz.underlying9
 a9 := Tryz.isAgg9
 z9 := Tryz.sizeOf9
 v9 := Tryz.zeroValue9
 t22 := Tryz.underlying24
 a22 := Tryz.isAgg24
 z22 := Tryz.sizeOf24
 v22 := Tryz.zeroValue24
 t25 := Tryz.underlying143
 a25 := Tryz.isAgg143
 z25 := Tryz.sizeOf143
 v25 := Tryz.zeroValue143
 t39 := Tryz.underlying156
 a39 := Tryz.isAgg156
 z39 := Tryz.sizeOf156
 v39 := Tryz.zeroValue156
 t45 := Tryz.underlying171
 a45 := Tryz.isAgg171
 z45 := Tryz.sizeOf171
 v45 := Tryz.zeroValue171
 t46 := Tryz.underlying172
 a46 := Tryz.isAgg172
 z46 := Tryz.sizeOf172
 v46 := Tryz.zeroValue172
 t50 := Tryz.underlying134
 a50 := Tryz.isAgg134
 z50 := Tryz.sizeOf134
 v50 := Tryz.zeroValue134
 t53 := Tryz.underlying178
 a53 := Tryz.isAgg178
 z53 := Tryz.sizeOf178
 v53 := Tryz.zeroValue178
 t55 := Tryz.underlying127
 a55 := Tryz.isAgg127
 z55 := Tryz.sizeOf127
 v55 := Tryz.zeroValue127
 t66 := Tryz.underlying193
 a66 := Tryz.isAgg193
 z66 := Tryz.sizeOf193
 v66 := Tryz.zeroValue193
 t70 := Tryz.underlying197
 a70 := Tryz.isAgg197
 z70 := Tryz.sizeOf197
 v70 := Tryz.zeroValue197
 t76 := Tryz.underlying207
 a76 := Tryz.isAgg207
 z76 := Tryz.sizeOf207
 v76 := Tryz.zeroValue207
 t77 := Tryz.underlying208
 a77 := Tryz.isAgg208
 z77 := Tryz.sizeOf208
 v77 := Tryz.zeroValue208 }
def sortPt_ren : Go.Shelf.Ren := ⟨fun | 6 => 80 | 15 => 120 | 14 => 123 | 28 => 148 | 29 => 149 | 20 => 151 | 21 => 152 | 22 => 153 | 23 => 154 | 24 => 155 | 25 => 156 | 26 => 157 | 27 => 158 | 46 => 178 | 47 => 174 | 48 => 175 | 49 => 179 | 50 => 180 | 57 => 190 | n => n, fun | 22 => 79 | 24 => 30 | 25 => 48 | 3 => 3 | 39 => 156 | 0 => 0 | 53 => 178 | 55 => 127 | 4 => 4 | 46 => 172 | 45 => 171 | 50 => 134 | 5 => 5 | 9 => 9 | 66 => 193 | 70 => 197 | 76 => 207 | 77 => 208 | n => n, fun | n => n⟩
theorem sortPt : Go.Proofs.SlLaysF0.n6 Tryz.prog sortPt_ren := {
 mixed := by kernel_rfl
 f6 := ⟨Tryz.f80.name, by decide, Tryz.func80.trans (congrArg some (by kernel_rfl))⟩
 f14 := ⟨Tryz.f123.name, by decide, Tryz.func123.trans (congrArg some (by kernel_rfl))⟩
 f15 := Tryz.func120.trans (congrArg some (by kernel_rfl))
 f20 := ⟨Tryz.f151.name, by decide, Tryz.func151.trans (congrArg some (by kernel_rfl))⟩
 f21 := ⟨Tryz.f152.name, by decide, Tryz.func152.trans (congrArg some (by kernel_rfl))⟩
 f22 := ⟨Tryz.f153.name, by decide, Tryz.func153.trans (congrArg some (by kernel_rfl))⟩
 f23 := ⟨Tryz.f154.name, by decide, Tryz.func154.trans (congrArg some (by kernel_rfl))⟩
 f24 := ⟨Tryz.f155.name, by decide, Tryz.func155.trans (congrArg some (by kernel_rfl))⟩
 f25 := ⟨Tryz.f156.name, by decide, Tryz.func156.trans (congrArg some (by kernel_rfl))⟩
 f26 := ⟨Tryz.f157.name, by decide, Tryz.func157.trans (congrArg some (by kernel_rfl))⟩
 f27 := ⟨Tryz.f158.name, by decide, Tryz.func158.trans (congrArg some (by kernel_rfl))⟩
 f28 := Tryz.func148.trans (congrArg some (by kernel_rfl))
 f29 := Tryz.func149.trans (congrArg some (by kernel_rfl))
 f46 := ⟨Tryz.f178.name, by decide, Tryz.func178.trans (congrArg some (by kernel_rfl))⟩
 f47 := Tryz.func174.trans (congrArg some (by kernel_rfl))
 f48 := Tryz.func175.trans (congrArg some (by kernel_rfl))
 f49 := ⟨Tryz.f179.name, by decide, Tryz.func179.trans (congrArg some (by kernel_rfl))⟩
 f50 := ⟨Tryz.f180.name, by decide, Tryz.func180.trans (congrArg some (by kernel_rfl))⟩
 f57 := ⟨Tryz.f190.name, by decide, Tryz.func190.trans (congrArg some (by kernel_rfl))⟩
 t0 := Tryz.underlying0
 a0 := Tryz.isAgg0
 z0 := Tryz.sizeOf0
 v0 := Tryz.zeroValue0
 t3 := Tryz.underlying3
 a3 := Tryz.isAgg3
 z3 := Tryz.sizeOf3
 v3 := Tryz.zeroValue3
 t4 := Tryz.underlying4
 a4 := Tryz.isAgg4
 z4 := Tryz.sizeOf4
 v4 := Tryz.zeroValue4
 t5 := Tryz.underlying5
 a5 := Tryz.isAgg5
 z5 := Tryz.sizeOf5
 v5 := Tryz.zeroValue5
 t9 := Tryz.underlying9
 a9 := Tryz.isAgg9
 z9 := Tryz.sizeOf9
 v9 := Tryz.zeroValue9
 t22 := Tryz.underlying79
 a22 := Tryz.isAgg79
 z22 := Tryz.sizeOf79
 v22 := Tryz.zeroValue79
 t25 := Tryz.underlying48
 a25 := Tryz.isAgg48
 z25 := Tryz.sizeOf48
 v25 := Tryz.zeroValue48
 t39 := Tryz.underlying156
 a39 := Tryz.isAgg156
 z39 := Tryz.sizeOf156
 v39 := Tryz.zeroValue156
 t45 := Tryz.underlying171
 a45 := Tryz.isAgg171
 z45 := Tryz.sizeOf171
 v45 := Tryz.zeroValue171
 t46 := Tryz.underlying172
 a46 := Tryz.isAgg172
 z46 := Tryz.sizeOf172
 v46 := Tryz.zeroValue172
 t50 := Tryz.underlying134
 a50 := Tryz.isAgg134
 z50 := Tryz.sizeOf134
 v50 := Tryz.zeroValue134
 t53 := Tryz.underlying178
 a53 := Tryz.isAgg178
 z53 := Tryz.sizeOf178
 v53 := Tryz.zeroValue178
 t55 := Tryz.underlying127
 a55 := Tryz.isAgg127
 z55 := Tryz.sizeOf127
 v55 := Tryz.zeroValue127
 t66 := Tryz.underlying193
 a66 := Tryz.isAgg193
 z66 := Tryz.sizeOf193
 v66 := Tryz.zeroValue193
 t70 := Tryz.underlying197
 a70 := Tryz.isAgg197
 z70 := Tryz.sizeOf197
 v70 := Tryz.zeroValue197
 t76 := Tryz.underlying207
 a76 := Tryz.isAgg207
 z76 := Tryz.sizeOf207
 v76 := Tryz.zeroValue207
 t77 := Tryz.underlying208
 a77 := Tryz.isAgg208
 z77 := Tryz.sizeOf208
 v77 := Tryz.zeroValue208 }
end Go.Proofs.YtjkfakaehjmnbaaGreat
namespace Go.Proofs.YtjkfakaehjmnbaaGreat
open Go.RowKit Go.Sort Go.Lib Go.Shelf
def WRow (w : World) (B : Nat) (v : Value) (L : List Wl) : Prop := w.ownsRow B 77 5 v L.length (L.flatMap cW)
def Flat (a : Option Addr) : Prop := ∀ ad, a = some ad → ad.spot = none
theorem WRow.row {w : World} {B : Nat} {v : Value} {L : List Wl} (h : WRow w B v L) : ∃ a cap, v = .slice a L.length cap ∧ RowAt cW 5 w a L ∧ Flat a := by
 obtain ⟨a, cap, h1, h2⟩ := zEh zK4 h;refine ⟨a, cap, h1, h2, fun ad ha => ?_⟩;rcases h.2 with ⟨h0, _⟩ | ⟨g, cap', cur, h0, _⟩
 ·rw [h1] at h0; simp at h0; rw [h0.1] at ha; cases ha
 ·rw [h1] at h0; simp at h0; rw [h0.1] at ha; cases ha; rfl
theorem WRow.nil0 (w : World) (B : Nat) : WRow w B (.slice none 0 0) [] := World.ownsRow_nil _ _ _ _
theorem WRow.kept {w w' : World} {B : Nat} {v : Value} {L : List Wl} {row : Option Nat} (h : WRow w B v L) (hg : w.grownBy w' row) (hne : v.ownBlock = none ∨ v.ownBlock ≠ row) : WRow w' B v L := World.ownsRow.kept h hg hne
theorem WRow.lt {w : World} {B : Nat} {v : Value} {L : List Wl} (h : WRow w B v L) : ∀ k, v.ownBlock = some k → B ≤ k ∧ k < w.heap.size := World.ownsRow.lt h
theorem WRow.base {w : World} {B B' : Nat} {v : Value} {L : List Wl} (h : WRow w B v L) (hb : B' ≤ B) : WRow w B' v L := by
 refine ⟨h.1, ?_⟩;rcases h.2 with h | ⟨g, cap, cur, h0, h1, h2⟩
 ·exact .inl h
 ·exact .inr ⟨g, cap, cur, h0, Nat.le_trans hb h1, h2⟩
theorem WRow.ext {w w' : World} {B n : Nat} {v : Value} {L : List Wl} (h : WRow w B v L) (hb : Below n w w') (hn : n = w.heap.size) : WRow w' B v L := by
 refine ⟨h.1, ?_⟩;rcases h.2 with h | ⟨g, cap, cur, h0, h1, h2, h3⟩
 ·exact .inl h
 ·refine .inr ⟨g, cap, cur, h0, h1, ?_, h3⟩;have hl : g < w.heap.size := (Array.getElem?_eq_some_iff.1 h2).1;rw [hb.block g (by omega)]; exact h2
theorem WRow.ee {w w' : World} {B : Nat} {v : Value} {L : List Wl} (h : WRow w B v L) (hb : Below w.heap.size w w') : WRow w' B v L := h.ext hb rfl
theorem WRow.box {w : World} {B : Nat} {v : Value} {L : List Wl} (h : WRow w B v L) : (v = .slice none 0 0 ∧ L = []) ∨ ∃ g cap tl, v = .slice (some ⟨g, 0, none⟩) L.length cap ∧ B ≤ g ∧ Box w g (L.flatMap cW ++ tl) 77 ∧ L.length ≤ cap ∧ cap ≤ maxLen ∧ tl.length = (cap - L.length) * 5 := by
 rcases h.2 with ⟨h0, h1⟩ | ⟨g, cap, cur, h0, h1, h2, h3, h4, h5, h6⟩
 ·exact .inl ⟨h0, List.eq_nil_of_length_eq_zero h1⟩
 ·refine .inr ⟨g, cap, cur.toList.drop (L.length * 5), h0, h1, ?_, h3, h4, ?_⟩
  ·rw [← h6, List.take_append_drop]; exact h2
  ·rw [List.length_drop, Array.length_toList, h5]; omega
theorem info_wall : (Tryz.prog.info? 77).map (fun i => (i.zero, i.size, i.bytes)) = some (some (.agg #[.int .i64 0, .int .i64 0, .int .i64 0, .int .i64 0, .int .i64 0]), 5, 40) := by kernel_rfl
theorem RowAt.flat {w : World} {b off : Nat} {L : List Wl} (h : RowAt cW 5 w (some ⟨b, off, none⟩) L) : ∀ t u, (L.flatMap cW)[t]? = some u → b < w.heap.size ∧ w.cell? ⟨b, off + t, none⟩ = some u := fun t u hu => by
 have ht : t < L.length * 5 := by have := (List.getElem?_eq_some_iff.1 hu).1; rwa [zB4 zK4] at this
 have hj : t / 5 < L.length := by omega
 have e := zBb zK4 L (t / 5) (t % 5) L[t / 5] (List.getElem?_eq_getElem hj) (by omega);rw [show t / 5 * 5 + t % 5 = t by omega, hu] at e;obtain ⟨ad, h1, h2, h3⟩ := h (t / 5) L[t / 5] (List.getElem?_eq_getElem hj);cases h1
 have h4 := h3 (t % 5) u e.symm;simp only [Addr.add_lit] at h4;rw [show off + t / 5 * 5 + t % 5 = off + t by omega] at h4;exact ⟨h2, h4⟩
end Go.Proofs.YtjkfakaehjmnbaaGreat
namespace Go.Proofs.YtjkfakaehjmnbaaGreat
open Go.RowKit Go.Sort
attribute [local go_sem] rOper rAt rUpon cell_set sg_i64 sg_u64 alloc_cell alloc_frozen
attribute [local go_sem 10000] pt_eql pt_neq wal_eql wal_neq
attribute [local irreducible] rWalk
def Five (w : World) (A : Addr) (p : Wl) : Prop := A.block < w.heap.size ∧ w.cell? A = some (.int .i64 p.A.x) ∧ w.cell? ⟨A.block, A.off + 1, none⟩ = some (.int .i64 p.A.y) ∧ w.cell? ⟨A.block, A.off + 2, none⟩ = some (.int .i64 p.B.x) ∧ w.cell? ⟨A.block, A.off + 3, none⟩ = some (.int .i64 p.B.y) ∧ w.cell? ⟨A.block, A.off + 4, none⟩ = some (.int .i64 p.K)
theorem RowAt.five {w : World} {a : Option Addr} {L : List Wl} (h : RowAt cW 5 w a L) {j : Nat} (hj : j < L.length) : ∃ ad A, a = some ad ∧ ad.add (j * 5) = A ∧ Five w A L[j] := by
 obtain ⟨ad, A, h1, h2, _, h4, h5⟩ := h.wal hj;exact ⟨ad, A, h1, h2, h4, h5⟩
theorem Five.ext {w w' : World} {A : Addr} {p : Wl} {n : Nat} (h : Five w A p) (hb : Below n w w') (hn : n = w.heap.size) : Five w' A p := by
 obtain ⟨h0, h1, h2, h3, h4, h5⟩ := h;have e : ∀ q : Addr, q.block = A.block → w'.cell? q = w.cell? q := fun q hq => hb.cell (by rw [hq, hn]; exact h0);exact ⟨Nat.lt_of_lt_of_le h0 hb.size, (e A rfl).trans h1, (e ⟨A.block, A.off + 1, none⟩ rfl).trans h2, (e ⟨A.block, A.off + 2, none⟩ rfl).trans h3, (e ⟨A.block, A.off + 3, none⟩ rfl).trans h4, (e ⟨A.block, A.off + 4, none⟩ rfl).trans h5⟩
theorem Five.ee {w w' : World} {A : Addr} {p : Wl} (h : Five w A p) (hb : Below w.heap.size w w') : Five w' A p := h.ext hb rfl
theorem Five.f {w : World} {A : Addr} {p : Wl} (h : Five w A p) : (A.block = w.heap.size) = False ∧ w.cell? A = some (.int .i64 p.A.x) ∧ w.cell? ⟨A.block, A.off + 1, none⟩ = some (.int .i64 p.A.y) ∧ w.cell? ⟨A.block, A.off + 2, none⟩ = some (.int .i64 p.B.x) ∧ w.cell? ⟨A.block, A.off + 3, none⟩ = some (.int .i64 p.B.y) ∧ w.cell? ⟨A.block, A.off + 4, none⟩ = some (.int .i64 p.K) := ⟨by simp; have := h.1; omega, h.2⟩
theorem Five.cells {w : World} {A : Addr} {p : Wl} (h : Five w A p) : (∀ d os, (grow (redrawn w d) os).cell? A = some (.int .i64 p.A.x)) ∧ (∀ d os, (grow (redrawn w d) os).cell? ⟨A.block, A.off + 1, none⟩ = some (.int .i64 p.A.y)) ∧ (∀ d os, (grow (redrawn w d) os).cell? ⟨A.block, A.off + 2, none⟩ = some (.int .i64 p.B.x)) ∧ (∀ d os, (grow (redrawn w d) os).cell? ⟨A.block, A.off + 3, none⟩ = some (.int .i64 p.B.y)) ∧ (∀ d os, (grow (redrawn w d) os).cell? ⟨A.block, A.off + 4, none⟩ = some (.int .i64 p.K)) := by
 have e := fun d os => (h.ext (below_regrown w d os) rfl).2;exact ⟨fun d os => (e d os).1, fun d os => (e d os).2.1, fun d os => (e d os).2.2.1, fun d os => (e d os).2.2.2.1, fun d os => (e d os).2.2.2.2⟩
end Go.Proofs.YtjkfakaehjmnbaaGreat
namespace Go.Proofs.YtjkfakaehjmnbaaGreat
section
variable {α : Type} {c : α → α → Int}
def Rising (c : α → α → Int) (L : List α) : Prop := L.Pairwise fun x y => c x y < 0
theorem zCq (W : Whole c) : ∀ {L M : List α}, Rising c L → Rising c M → (∀ p, p ∈ L ↔ p ∈ M) → L = M
 | [], M, _, _, h => by
  cases M with
  | nil => rfl
  | cons y M => exact absurd ((h y).2 (by simp)) (by simp)
 | x :: L, M, h1, h2, h => by
  cases M with
  | nil => exact absurd ((h x).1 (by simp)) (by simp)
  | cons y M =>
   unfold Rising at h1 h2;rw [List.pairwise_cons] at h1 h2;have irr : ∀ z, ¬ c z z < 0 := fun z => by have := (W.eq0 (x := z) (y := z)).2 rfl; omega
   have e : x = y := by
    rcases List.mem_cons.1 ((h x).1 (by simp)) with e | hx
    ·exact e
    ·rcases List.mem_cons.1 ((h y).2 (by simp)) with e | hy
     ·exact e.symm
     ·exact absurd (W.trans (h1.1 y hy) (h2.1 x hx)) (irr _)
   subst e;rw [zCq W h1.2 h2.2 (fun p => ⟨fun hp => ?_, fun hp => ?_⟩)]
   ·rcases List.mem_cons.1 ((h p).1 (by simp [hp])) with e | h'
    ·subst e; exact absurd (h1.1 p hp) (irr p)
    ·exact h'
   ·rcases List.mem_cons.1 ((h p).2 (by simp [hp])) with e | h'
    ·subst e; exact absurd (h2.1 p hp) (irr p)
    ·exact h'
theorem zEi (W : Whole c) {M : List α} {x : α} {k : Nat} (h : Rising c M) (hk : k ≤ M.length) (hlo : ∀ (i : Nat) (hi : i < k), c (M[i]'(by omega)) x < 0) (hhi : ∀ (i : Nat) (_ : k ≤ i) (h2 : i < M.length), 0 < c (M[i]'h2) x) :
    Rising c (M.take k ++ x :: M.drop k) ∧ ∀ p, p ∈ M.take k ++ x :: M.drop k ↔ p ∈ M ∨ p = x := by
 unfold Rising at *;have hs : M.take k ++ M.drop k = M := List.take_append_drop k M;rw [← hs, List.pairwise_append] at h;have g1 : ∀ y ∈ M.take k, c y x < 0 := fun y hy => by
  obtain ⟨i, hi, e⟩ := List.getElem_of_mem hy;simp only [List.length_take] at hi;rw [← e, List.getElem_take];exact hlo i (by omega)
 have g2 : ∀ y ∈ M.drop k, c x y < 0 := fun y hy => by
  obtain ⟨i, hi, e⟩ := List.getElem_of_mem hy;simp only [List.length_drop] at hi;rw [← e, List.getElem_drop];have := hhi (k + i) (by omega) (by omega);have := W.neg (M[k + i]'(by omega)) x;omega
 refine ⟨?_, fun p => ?_⟩
 ·rw [List.pairwise_append, List.pairwise_cons];exact ⟨h.1, ⟨g2, h.2.1⟩, fun a ha b hb => by
   rcases List.mem_cons.1 hb with rfl | hb
   ·exact g1 a ha
   ·exact h.2.2 a ha b hb⟩
 ·constructor
  ·intro hp;rcases List.mem_append.1 hp with hp | hp
   ·exact .inl (List.mem_of_mem_take hp)
   ·rcases List.mem_cons.1 hp with rfl | hp
    ·exact .inr rfl
    ·exact .inl (List.mem_of_mem_drop hp)
  ·rintro (hp | rfl)
   ·rw [← hs] at hp;rcases List.mem_append.1 hp with hp | hp
    ·exact List.mem_append.2 (.inl hp)
    ·exact List.mem_append.2 (.inr (List.mem_cons_of_mem _ hp))
   ·exact List.mem_append.2 (.inr List.mem_cons_self)
theorem rising_lt {M : List α} (h : Rising c M) {i j : Nat} (hi : i < M.length) (hj : j < M.length) (hij : i < j) : c M[i] M[j] < 0 := by
 unfold Rising at h;rw [List.pairwise_iff_getElem] at h;exact h i j hi hj hij
theorem rising_below (W : Whole c) {M : List α} {x : α} {k : Nat} (h : Rising c M) (hk : k < M.length) (hx : c M[k] x < 0) : ∀ (i : Nat) (hi : i < k + 1), c (M[i]'(by omega)) x < 0 := fun i hi => by
 by_cases e : i = k
 ·subst e; exact hx
 ·exact W.trans (rising_lt h (by omega) hk (by omega)) hx
structure Moved (M S : List α) (k : Nat) : Prop where
 len : S.length = M.length + 1
 lo : S.take k = M.take k
 hi : S.drop (k + 1) = M.drop k
theorem zG7 (M : List α) (x : α) : Moved M (M ++ [x]) M.length := ⟨by simp, by simp, by simp⟩
theorem Moved.get {M S : List α} {k : Nat} (h : Moved M S (k + 1)) (hk : k < M.length) : S[k]'(by rw [h.len]; omega) = M[k] := by
 have := congrArg (fun l => l[k]?) h.lo;simp only [List.getElem?_take, show k < k + 1 by omega, if_true] at this;rw [List.getElem?_eq_getElem (by rw [h.len]; omega), List.getElem?_eq_getElem hk] at this;exact Option.some.inj this
theorem Moved.step {M S : List α} {k : Nat} (h : Moved M S (k + 1)) (hk : k < M.length) : Moved M (S.set (k + 1) M[k]) k := by
 refine ⟨by simp [h.len], ?_, ?_⟩
 ·rw [List.take_set_of_le (by omega)];have := congrArg (List.take k) h.lo
  simpa [List.take_take, Nat.min_eq_left (Nat.le_succ k)] using this
 ·rw [List.drop_set, if_neg (by omega), Nat.sub_self, List.drop_eq_getElem_cons (by rw [h.len]; omega), List.set_cons_zero, h.hi];exact (List.drop_eq_getElem_cons hk).symm
theorem Moved.done {M S : List α} {k : Nat} (h : Moved M S k) (hk : k ≤ M.length) (x : α) : S.set k x = M.take k ++ x :: M.drop k := by
 rw [List.set_eq_take_append_cons_drop, if_pos (by rw [h.len]; omega), h.lo, h.hi]
end
abbrev Ris (L : List Wl) : Prop := Rising cmpW L
def isW (p q : Pt) (x : Wl) : Bool := decide (x.A = p) && decide (x.B = q)
structure GoodW (x : Wl) : Prop where
 va : vld x.A = true
 vb : vld x.B = true
 ab : cmpP x.A x.B < 0
 k : x.K = 1 ∨ x.K = 2
open Go.RowKit Go.Sort
attribute [local go_sem] rOper rAt rUpon cell_set sg_i64 sg_u64 alloc_cell alloc_frozen
attribute [local go_sem 10000] pt_eql pt_neq wal_eql wal_neq
attribute [local irreducible] rWalk
theorem RowAt.take {α : Type} {c : α → List Value} {k : Nat} {w : World} {a : Option Addr} {L : List α} (h : RowAt c k w a L) (m : Nat) : RowAt c k w a (L.take m) := fun j x hx => h j x (by
 rw [List.getElem?_take] at hx;split at hx
 ·exact hx
 ·cases hx)
structure SetRd (w : World) (sb : Nat) (a0 : Option Addr) (c n : Nat) (L : List Wl) : Prop where
 box : Box w sb [.slice a0 n c] 121
 row : RowAt cW 5 w a0 L
 len : L.length = n
 le : L.length ≤ 1000000
 nc : n ≤ c
 flat : Flat a0
 nil0 : a0 = none → L = []
 ris : Ris L
 good : ∀ x ∈ L, GoodW x
theorem SetRd.ext {w w' : World} {sb c n m : Nat} {a0 : Option Addr} {L : List Wl} (S : SetRd w sb a0 c n L) (hb : Below m w w') (hm : m = w.heap.size) : SetRd w' sb a0 c n L :=
 ⟨S.box.ext hb hm, S.row.ext hb hm, S.len, S.le, S.nc, S.flat, S.nil0, S.ris, S.good⟩
theorem SetRd.ee {w w' : World} {sb c n : Nat} {a0 : Option Addr} {L : List Wl} (S : SetRd w sb a0 c n L) (hb : Below w.heap.size w w') : SetRd w' sb a0 c n L := S.ext hb rfl
theorem SetRd.pos {w : World} {sb c n : Nat} {a0 : Option Addr} {L : List Wl} (S : SetRd w sb a0 c n L) : ∀ x ∈ L, 0 < x.K := fun x hx => by have := (S.good x hx).k; omega
theorem Box.grownBy {w w' : World} {b : Nat} {cs : List Value} {T : TypeId} {row : Option Nat} (h : Box w b cs T) (hg : w.grownBy w' row) (hne : some b ≠ row) : Box w' b cs T := by
 have hl := h.lt;unfold Box at *;rw [hg.block b hl hne]; exact h
theorem WRow.ne {w : World} {B : Nat} {v : Value} {L : List Wl} (h : WRow w (B + 1) v L) : v.ownBlock ≠ some B := fun e => by have := (h.lt _ e).1; omega
theorem WRow.alloc {w : World} {B : Nat} {v : Value} {L : List Wl} (h : WRow w B v L) (o : Obj) : WRow (w.alloc o) B v L := World.ownsRow.alloc h o
def onV (o : Option Wl) : Value := match o with | some x => .tuple #[.agg #[.int .i64 x.A.x, .int .i64 x.A.y, .int .i64 x.B.x, .int .i64 x.B.y, .int .i64 x.K], .bool true] | none => .tuple #[.agg #[.int .i64 0, .int .i64 0, .int .i64 0, .int .i64 0, .int .i64 0], .bool false]
structure DocRd (w : World) (db : Nat) (a0 : Option Addr) (c n : Nat) (L : List Wl) : Prop where
 box : Box w db [.slice a0 n c] 71
 row : RowAt cW 5 w a0 L
 len : L.length = n
 le : L.length ≤ 1000000
 nc : n ≤ c
 flat : Flat a0
theorem DocRd.ext {w w' : World} {db c n m : Nat} {a0 : Option Addr} {L : List Wl} (S : DocRd w db a0 c n L) (hb : Below m w w') (hm : m = w.heap.size) : DocRd w' db a0 c n L :=
 ⟨S.box.ext hb hm, S.row.ext hb hm, S.len, S.le, S.nc, S.flat⟩
theorem DocRd.ee {w w' : World} {db c n : Nat} {a0 : Option Addr} {L : List Wl} (S : DocRd w db a0 c n L) (hb : Below w.heap.size w w') : DocRd w' db a0 c n L := S.ext hb rfl
def isE (p q : Pt) (x : Wl) : Bool := (decide (x.A = p) && decide (x.B = q)) || (decide (x.A = q) && decide (x.B = p))
theorem zHz (p q : Pt) (x : Wl) : isE p q x = ((peqI x.A.x x.A.y p.x p.y && peqI x.B.x x.B.y q.x q.y) || (peqI x.A.x x.A.y q.x q.y && peqI x.B.x x.B.y p.x p.y)) := by rw [zBy, zBy, zBy, zBy]; rfl
def kindD (L : List Wl) (p q : Pt) : Int := match L.find? (isE p q) with | some x => x.K | none => 0
theorem zIu {p : Wl → Bool} {L : List Wl} {k : Nat} (hk : k < L.length) (h0 : (L.take k).find? p = none) (h1 : p L[k] = true) : L.find? p = some L[k] := by
 refine List.find?_eq_some_iff_append.2 ⟨h1, L.take k, L.drop (k + 1), ?_, fun y hy => ?_⟩
 ·rw [List.getElem_cons_drop hk, List.take_append_drop]
 ·simpa using List.find?_eq_none.1 h0 y hy
theorem zCh {p : Wl → Bool} {L : List Wl} {k : Nat} (hk : k < L.length) (h0 : (L.take k).find? p = none) (h1 : p L[k] = false) : (L.take (k + 1)).find? p = none := by
 rw [List.take_succ_eq_append_getElem hk, List.find?_append, h0, List.find?_cons_of_neg (by rw [h1]; simp)]; rfl
theorem zJy {p : Wl → Bool} {L : List Wl} (h0 : (L.take L.length).find? p = none) : L.find? p = none := by rwa [List.take_of_length_le (Nat.le_refl _)] at h0
theorem zEv (db : Nat) (a0 : Option Addr) (c n : Nat) (L : List Wl) (a b : Pt) (w : World) (D : DocRd w db a0 c n L) :
    Calls Tryz.prog 69 #[.pointer (some ⟨db, 0, none⟩), .agg #[.int .i64 a.x, .int .i64 a.y], .agg #[.int .i64 b.x, .int .i64 b.y]] w fun e w' => e = .returned (.int .i64 (kindD L a b)) ∧ Below w.heap.size w w' := by
 have hdb := D.box.lt;have HM := Lib.hid D.len;have hn : n ≤ 1000000 := D.len ▸ D.le;have HD := Lib.hid D;clear D
 go_enter Tryz.func69, Tryz.ntmps69
 go_wp2;refine zA2 fun W1 hW => ?_;have BA : Box W1 w.heap.size [.int .i64 a.x, .int .i64 a.y] 30 := by rw [hW]; exact (Box.new rfl).old _
 have BB : Box W1 (w.heap.size + 1) [.int .i64 b.x, .int .i64 b.y] 30 := by rw [hW]; exact Box.new (by simp)
 have hw : Below w.heap.size w W1 := by rw [hW]; go_grown
 clear hW
 go_loopw [7] (fun vi wr => ∃ k : Nat, k ≤ n ∧ vi = .int .i64 k ∧ Hid ((L.take k).find? (isE a b) = none) ∧ Below w.heap.size w wr ∧ Box wr w.heap.size [.int .i64 a.x, .int .i64 a.y] 30 ∧ Box wr (w.heap.size + 1) [.int .i64 b.x, .int .i64 b.y] 30) (fun vi _ => n - (intOf vi).toNat)
 case atStart => exact ⟨0, Nat.zero_le _, rfl, Lib.hid rfl, hw, BA, BB⟩
 case round =>
  clear BA BB hw;obtain ⟨k, hk, rfl, HF, hwr, BA, BB⟩ := hrel;have BD := (HD.out.ee hwr).box;by_cases hlt : k < n
  ·have hkL : k < L.length := by rw [HM.out]; exact hlt
   obtain ⟨ad, A, ea, eA, hA⟩ := (HD.out.ee hwr).row.five (j := k) hkL;have HX : Hid (L[k] = L[k]) := Lib.hid rfl;generalize hX : L[k] = X at hA HX
   clear HX;have HX := Lib.hid hX;clear hX;obtain ⟨u0, u1, u2, u3, u4, u5⟩ := hA.f;obtain ⟨y0, y1, y2, y3⟩ := BA.f;obtain ⟨z0, z1, z2, z3⟩ := BB.f;obtain ⟨d0, d1, d2, d3⟩ := BD.f;subst ea;clear hA;cases e1 : peqI X.A.x X.A.y a.x a.y with
   | true =>
    cases e2 : peqI X.B.x X.B.y b.x b.y with
    | true =>
     have HE : Hid (isE a b X = true) := Lib.hid (by rw [zHz, e1, e2]; first | rfl | simp);have HK : Hid (kindD L a b = X.K) := Lib.hid (by unfold kindD; rw [zIu hkL HF.out (by rw [HX.out]; exact HE.out)]; show L[k].K = _; rw [HX.out]);have HW := Lib.hid hwr;clear HE HF HX hwr;go_wp2
     go_quiet (fail)
     go_wp2
     go_ret
     exact ⟨zAu HK.out.symm, HW.out.trans ⟨rfl, rfl, rfl, Nat.le_refl _, fun _ _ => rfl⟩⟩
    | false =>
     cases e3 : peqI X.A.x X.A.y b.x b.y with
     | true =>
      cases e4 : peqI X.B.x X.B.y a.x a.y with
      | true =>
       have HE : Hid (isE a b X = true) := Lib.hid (by rw [zHz, e1, e2, e3, e4]; first | rfl | simp);have HK : Hid (kindD L a b = X.K) := Lib.hid (by unfold kindD; rw [zIu hkL HF.out (by rw [HX.out]; exact HE.out)]; show L[k].K = _; rw [HX.out]);have HW := Lib.hid hwr;clear HE HF HX hwr;go_wp2
       go_quiet (fail)
       go_wp2
       go_ret
       exact ⟨zAu HK.out.symm, HW.out.trans ⟨rfl, rfl, rfl, Nat.le_refl _, fun _ _ => rfl⟩⟩
      | false =>
       have HE : Hid (isE a b X = false) := Lib.hid (by rw [zHz, e1, e2, e3, e4]; first | rfl | simp);have HG : Hid ((L.take (k + 1)).find? (isE a b) = none) := Lib.hid (zCh hkL HF.out (by rw [HX.out]; exact HE.out));have HW := Lib.hid hwr;have HA := Lib.hid BA;have HB := Lib.hid BB;clear HE HF HX hwr BA BB;go_wp2
       go_quiet (fail)
       go_wp2
       go_roundw
       case rel => exact ⟨k + 1, hlt, by go_num, HG, HW.out.trans ⟨rfl, rfl, rfl, Nat.le_refl _, fun _ _ => rfl⟩, by first | exact HA.out | exact HA.out.drew, by first | exact HB.out | exact HB.out.drew⟩
       case measure => simp [intOf]; omega
     | false =>
      have HE : Hid (isE a b X = false) := Lib.hid (by rw [zHz, e1, e2, e3]; first | rfl | simp);have HG : Hid ((L.take (k + 1)).find? (isE a b) = none) := Lib.hid (zCh hkL HF.out (by rw [HX.out]; exact HE.out));have HW := Lib.hid hwr;have HA := Lib.hid BA;have HB := Lib.hid BB;clear HE HF HX hwr BA BB;go_wp2
      go_quiet (fail)
      go_wp2
      go_roundw
      case rel => exact ⟨k + 1, hlt, by go_num, HG, HW.out.trans ⟨rfl, rfl, rfl, Nat.le_refl _, fun _ _ => rfl⟩, by first | exact HA.out | exact HA.out.drew, by first | exact HB.out | exact HB.out.drew⟩
      case measure => simp [intOf]; omega
   | false =>
    cases e3 : peqI X.A.x X.A.y b.x b.y with
    | true =>
     cases e4 : peqI X.B.x X.B.y a.x a.y with
     | true =>
      have HE : Hid (isE a b X = true) := Lib.hid (by rw [zHz, e1, e3, e4]; first | rfl | simp);have HK : Hid (kindD L a b = X.K) := Lib.hid (by unfold kindD; rw [zIu hkL HF.out (by rw [HX.out]; exact HE.out)]; show L[k].K = _; rw [HX.out]);have HW := Lib.hid hwr;clear HE HF HX hwr;go_wp2
      go_quiet (fail)
      go_wp2
      go_ret
      exact ⟨zAu HK.out.symm, HW.out.trans ⟨rfl, rfl, rfl, Nat.le_refl _, fun _ _ => rfl⟩⟩
     | false =>
      have HE : Hid (isE a b X = false) := Lib.hid (by rw [zHz, e1, e3, e4]; first | rfl | simp);have HG : Hid ((L.take (k + 1)).find? (isE a b) = none) := Lib.hid (zCh hkL HF.out (by rw [HX.out]; exact HE.out));have HW := Lib.hid hwr;have HA := Lib.hid BA;have HB := Lib.hid BB;clear HE HF HX hwr BA BB;go_wp2
      go_quiet (fail)
      go_wp2
      go_roundw
      case rel => exact ⟨k + 1, hlt, by go_num, HG, HW.out.trans ⟨rfl, rfl, rfl, Nat.le_refl _, fun _ _ => rfl⟩, by first | exact HA.out | exact HA.out.drew, by first | exact HB.out | exact HB.out.drew⟩
      case measure => simp [intOf]; omega
    | false =>
     have HE : Hid (isE a b X = false) := Lib.hid (by rw [zHz, e1, e3]; first | rfl | simp);have HG : Hid ((L.take (k + 1)).find? (isE a b) = none) := Lib.hid (zCh hkL HF.out (by rw [HX.out]; exact HE.out));have HW := Lib.hid hwr;have HA := Lib.hid BA;have HB := Lib.hid BB;clear HE HF HX hwr BA BB;go_wp2
     go_quiet (fail)
     go_wp2
     go_roundw
     case rel => exact ⟨k + 1, hlt, by go_num, HG, HW.out.trans ⟨rfl, rfl, rfl, Nat.le_refl _, fun _ _ => rfl⟩, by first | exact HA.out | exact HA.out.drew, by first | exact HB.out | exact HB.out.drew⟩
     case measure => simp [intOf]; omega
  ·obtain rfl : k = n := by omega
   have hK : kindD L a b = 0 := by
    unfold kindD;rw [zJy (by rw [HM.out]; exact HF.out)]
   obtain ⟨d0, d1, d2, d3⟩ := BD.f;have HK := Lib.hid hK;clear hK;go_wp2
   go_ret
   exact ⟨zAu HK.out.symm, hwr⟩
end Go.Proofs.YtjkfakaehjmnbaaGreat
