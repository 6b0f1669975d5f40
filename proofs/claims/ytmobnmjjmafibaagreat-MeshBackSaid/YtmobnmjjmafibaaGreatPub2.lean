/- Put together: ExN, ExK, ExL, ExU. -/
import Derived.Test.YtmobnmjjmafibaaGreatPub0
import Derived.Test.YtmobnmjjmafibaaGreatPub1
import Derived.Test.YtmobnmjjmafibaaGreatRows
import Derived.WalkKit
import Derived.WalkSpells
import Derived.WalkLawsBesides
import Derived.Laws.Externs
import Derived.Deep.QuietTactic
import Derived.BigQuiet
import Derived.Lib.Hide
import Derived.Handy
import Derived.LoopN
import Derived.RegionTactic
set_option maxRecDepth 100000
set_option maxHeartbeats 8000000
namespace Go.Proofs.YtmobnmjjmafibaaGreat
open Go.RowKit
theorem zGq (n : Int) : sgn (-n) = -sgn n := by unfold sgn; (repeat' split) <;> omega
theorem zBk {n : Int} : sgn n = 0 ↔ n = 0 := by unfold sgn; (repeat' split) <;> omega
theorem sgn_pos {n : Int} : sgn n = 1 ↔ 0 < n := by unfold sgn; (repeat' split) <;> omega
theorem zAg (n : Int) : sgn n = -1 ∧ n < 0 ∨ sgn n = 0 ∧ n = 0 ∨ sgn n = 1 ∧ 0 < n := by unfold sgn; (repeat' split) <;> omega
theorem ori_v {a b c : Pt} (ha : vld a = true) (hb : vld b = true) (hc : vld c = true) : ori a b c = sgn (det a b c) := by unfold ori; rw [if_pos ⟨ha, hb, hc⟩]
theorem zAv (a b c : Pt) : det b c a = det a b c := by unfold det; grind
theorem zBw (a b c : Pt) : det b a c = -det a b c := by unfold det; grind
theorem zB8 (a b c : Pt) : ori b c a = ori a b c := by
 unfold ori; rw [zAv]
 by_cases h : vld a = true ∧ vld b = true ∧ vld c = true
 ·rw [if_pos h, if_pos ⟨h.2.1, h.2.2, h.1⟩]
 ·rw [if_neg h, if_neg (fun k => h ⟨k.2.2, k.1, k.2.1⟩)]
theorem zCl (a b c : Pt) : ori b a c = -ori a b c := by
 unfold ori; rw [zBw, zGq]
 by_cases h : vld a = true ∧ vld b = true ∧ vld c = true
 ·rw [if_pos h, if_pos ⟨h.2.1, h.1, h.2.2⟩]
 ·rw [if_neg h, if_neg (fun k => h ⟨k.2.1, k.1, k.2.2⟩)]; rfl
theorem zDj (a b c : Pt) : ori a c b = -ori a b c := by
 rw [← zB8 a c b, zCl b c a, zB8 a b c]
theorem zEz (a b c d : Pt) : lft b c a d = lft a b c d := by unfold lft; omega
theorem lft_swap (a b c d : Pt) : lft b a c d = -lft a b c d := by unfold lft ht cr; grind
theorem lft_last (a b c d : Pt) : lft a b d c = -lft a b c d := by unfold lft ht cr way; grind
def key (p : Pt) : Int := p.x * 16777216 + p.y
theorem zDa {p q : Pt} (hp : vld p = true) (hq : vld q = true) : cmpP p q = sgn (key p - key q) := by
 rw [zAr] at hp hq
 unfold cmpP cmpN key
 unfold sgn
 (repeat' split) <;> omega
theorem zBj {p q : Pt} (hp : vld p = true) (hq : vld q = true) (h : key p = key q) : p = q := by
 rw [zAr] at hp hq
 rw [Pt.eq_iff]
 unfold key at h; omega
theorem zCd {p m : Pt} (hp : vld p = true) (hm : vld m = true) : vld (lsr p m) = true := by unfold lsr; split <;> assumption
theorem zFn {p m : Pt} (hp : vld p = true) (hm : vld m = true) : key (lsr p m) = min (key p) (key m) := by
 unfold lsr
 rw [zDa hp hm]
 have := zAg (key p - key m)
 split <;> omega
theorem zDi {p q : Pt} : peqI p.x p.y q.x q.y = true ↔ p = q := by rw [zBu, Pt.eq_iff]
theorem zBd {p q : Pt} : peqI p.x p.y q.x q.y = false ↔ p ≠ q := by rw [← Bool.not_eq_true, zDi]
theorem pp {p q : Pt} (h : p = q) : peqI p.x p.y q.x q.y = true := zDi.2 h
theorem np {p q : Pt} (h : ¬ p = q) : ¬ peqI p.x p.y q.x q.y = true := fun k => h (zDi.1 k)
theorem zKe (p m : Pt) : lsr p m = p ∨ lsr p m = m := by unfold lsr; split <;> simp
theorem zIx (a b c d : Pt) : min4 a b c d = a ∨ min4 a b c d = b ∨ min4 a b c d = c ∨ min4 a b c d = d := by
 unfold min4
 rcases zKe d (lsr c (lsr b a)) with h | h <;> rw [h]
 ·simp
 rcases zKe c (lsr b a) with h | h <;> rw [h]
 ·simp
 rcases zKe b a with h | h <;> rw [h] <;> simp
section
variable {a b c d : Pt} (ha : vld a = true) (hb : vld b = true) (hc : vld c = true) (hd : vld d = true)
include ha hb hc hd
theorem zD8 : vld (min4 a b c d) = true := zCd hd (zCd hc (zCd hb ha))
theorem zCm : key (min4 a b c d) = min (key d) (min (key c) (min (key b) (key a))) := by
 unfold min4; rw [zFn hd (zCd hc (zCd hb ha)), zFn hc (zCd hb ha), zFn hb ha]
theorem min4_r : lsr c (lsr b (lsr a d)) = min4 a b c d := by
 refine zBj (zCd hc (zCd hb (zCd ha hd))) (zD8 ha hb hc hd) ?_
 rw [zCm ha hb hc hd, zFn hc (zCd hb (zCd ha hd)), zFn hb (zCd ha hd), zFn ha hd]
 omega
theorem min4_swap : min4 b a c d = min4 a b c d := by
 refine zBj (zD8 hb ha hc hd) (zD8 ha hb hc hd) ?_
 rw [zCm ha hb hc hd, zCm hb ha hc hd]; omega
theorem min4_cyc : min4 b c a d = min4 a b c d := by
 refine zBj (zD8 hb hc ha hd) (zD8 ha hb hc hd) ?_
 rw [zCm ha hb hc hd, zCm hb hc ha hd]; omega
theorem min4_last : min4 a b d c = min4 a b c d := by
 refine zBj (zD8 ha hb hd hc) (zD8 ha hb hc hd) ?_
 rw [zCm ha hb hc hd, zCm ha hb hd hc]; omega
end
theorem zBi {a b c d : Pt} (h0 : ¬ ori a b c = 0) (hv : vld d = true) (e1 : d ≠ a) (e2 : d ≠ b) (e3 : d ≠ c) :
    circ a b c d = if ¬ sgn (lft a b c d) = 0 then sgn (lft a b c d) else tie a b c d (min4 a b c d) (ori a b c) := by
 unfold circ
 rw [if_neg h0, if_neg (by rw [hv]; simp), if_neg (np e1), if_neg (np e2), if_neg (np e3)]
theorem zAc {a b c d : Pt} (h : ori a b c = 0 ∨ vld d = false ∨ d = a ∨ d = b ∨ d = c) : circ a b c d = 0 := by
 unfold circ
 rcases h with h | h | h | h | h
 ·rw [if_pos h]
 ·simp [h]
 all_goals (have k := pp h; simp [k])
theorem zB6 {a b c : Pt} (h : ¬ ori a b c = 0) : b ≠ a ∧ c ≠ a ∧ c ≠ b := by
 refine ⟨?_, ?_, ?_⟩
 all_goals (rintro rfl; apply h; unfold ori; split)
 all_goals first | rfl | (rw [zBk]; unfold det; grind)
theorem tie_swap {a b c d m : Pt} {o : Int} (n1 : b ≠ a) : tie b a c d m (-o) = -tie a b c d m o := by
 unfold tie
 by_cases h1 : m = d
 ·rw [if_pos (pp h1), if_pos (pp h1)]
 rw [if_neg (np h1), if_neg (np h1)]
 by_cases h2 : m = a
 ·have h3 : ¬ m = b := by rw [h2]; exact n1.symm
  rw [if_neg (np h3), if_pos (pp h2), if_pos (pp h2)]
  rw [zCl d b c]
 ·rw [if_neg (np h2) (c := peqI m.x m.y a.x a.y = true) (e := if peqI m.x m.y b.x b.y = true then -ori a d c else -ori a b d)]
  by_cases h3 : m = b
  ·rw [if_pos (pp h3), if_pos (pp h3), zCl a d c]
  ·rw [if_neg (np h3), if_neg (np h2), if_neg (np h3), zCl a b d]
theorem tie_cyc {a b c d m : Pt} {o : Int} (hm : m = a ∨ m = b ∨ m = c ∨ m = d) (n1 : b ≠ a) (n2 : c ≠ a) (n3 : c ≠ b) : tie b c a d m o = tie a b c d m o := by
 unfold tie
 by_cases h1 : m = d
 ·rw [if_pos (pp h1), if_pos (pp h1)]
 rw [if_neg (np h1), if_neg (np h1)]
 rcases hm with h | h | h | h
 ·subst h; rw [if_neg (np n1.symm), if_neg (np n2.symm), if_pos (pp rfl)]
  rw [← zB8 d b c]
 ·subst h; rw [if_pos (pp rfl), if_neg (np n1), if_pos (pp rfl)]
  rw [zB8 a d c]
 ·subst h; rw [if_neg (np n3), if_pos (pp rfl), if_neg (np n2), if_neg (np n3)]
  rw [zB8 a b d]
 ·exact absurd h h1
theorem zIb (a b c d : Pt) : circ b a c d = -circ a b c d := by
 by_cases h0 : ori a b c = 0
 ·rw [zAc (.inl h0), zAc (.inl (by rw [zCl, h0]; rfl))]; rfl
 cases hv : vld d with
 | false => rw [zAc (.inr (.inl hv)), zAc (.inr (.inl hv))]; rfl
 | true =>
 by_cases e1 : d = a
 ·rw [zAc (.inr (.inr (.inl e1))), zAc (.inr (.inr (.inr (.inl e1))))]; rfl
 by_cases e2 : d = b
 ·rw [zAc (.inr (.inr (.inl e2))), zAc (.inr (.inr (.inr (.inl e2))))]; rfl
 by_cases e3 : d = c
 ·rw [zAc (.inr (.inr (.inr (.inr e3)))), zAc (.inr (.inr (.inr (.inr e3))))]; rfl
 obtain ⟨va, vb, vc⟩ := zCc h0
 obtain ⟨n1, n2, n3⟩ := zB6 h0
 rw [zBi h0 hv e1 e2 e3, zBi (by rw [zCl]; omega) hv e2 e1 e3, lft_swap, zGq, min4_swap va vb vc hv, zCl, tie_swap n1]
 split <;> split <;> omega
theorem zGj (a b c d : Pt) : circ b c a d = circ a b c d := by
 by_cases h0 : ori a b c = 0
 ·rw [zAc (.inl h0), zAc (.inl (by rw [zB8, h0]))]
 cases hv : vld d with
 | false => rw [zAc (.inr (.inl hv)), zAc (.inr (.inl hv))]
 | true =>
 by_cases e1 : d = a
 ·rw [zAc (.inr (.inr (.inl e1))), zAc (.inr (.inr (.inr (.inr e1))))]
 by_cases e2 : d = b
 ·rw [zAc (.inr (.inr (.inl e2))), zAc (.inr (.inr (.inr (.inl e2))))]
 by_cases e3 : d = c
 ·rw [zAc (.inr (.inr (.inr (.inl e3)))), zAc (.inr (.inr (.inr (.inr e3))))]
 obtain ⟨va, vb, vc⟩ := zCc h0
 obtain ⟨n1, n2, n3⟩ := zB6 h0
 rw [zBi h0 hv e1 e2 e3, zBi (by rw [zB8]; omega) hv e2 e3 e1, zEz, min4_cyc va vb vc hv, zB8, tie_cyc (zIx a b c d) n1 n2 n3]
theorem zE2 {a b c d : Pt} (hl : lft a b c d = 0) (h0 : det a b c ≠ 0) (e2 : d ≠ b) (e3 : d ≠ c) : det d b c ≠ 0 := by
 intro hd
 have e0 : det a b c = cr (way d b) (way d c) + cr (way d c) (way d a) + cr (way d a) (way d b) := by unfold det cr way; grind
 have ed : det d b c = cr (way d b) (way d c) := by unfold det cr way; grind
 have n2 : way d b ≠ ⟨0, 0⟩ := fun h => e2 (by rw [Pt.eq_iff] at h ⊢; unfold way at h; simp only at h; omega)
 have n3 : way d c ≠ ⟨0, 0⟩ := fun h => e3 (by rw [Pt.eq_iff] at h ⊢; unfold way at h; simp only at h; omega)
 rw [ed] at hd
 rw [e0] at h0
 unfold lft at hl
 generalize way d a = u at *
 generalize way d b = v at *
 generalize way d c = z at *
 have i1 : ht u * cr v z + ht v * cr z u + ht z * cr u v = ht u * cr v z + (v.x * z.x + v.y * z.y) * (cr v u + cr u z) - cr v z * (v.x * u.x + v.y * u.y + z.x * u.x + z.y * u.y) := by unfold ht cr; grind
 have i2 : cr v u + cr u z = -(cr z u + cr u v) := by unfold cr; grind
 have i3 : ht v * ht z = (v.x * z.x + v.y * z.y) * (v.x * z.x + v.y * z.y) + cr v z * cr v z := by unfold ht cr; grind
 rw [hl, i2, hd] at i1
 simp only [Int.mul_zero, Int.zero_mul, Int.zero_add, Int.sub_zero] at i1
 have h1 : (v.x * z.x + v.y * z.y) = 0 := by
  rcases Int.mul_eq_zero.1 i1.symm with h | h
  ·exact h
  ·exfalso; apply h0; omega
 rw [h1, hd] at i3
 simp only [Int.mul_zero, Int.zero_add] at i3
 have key0 : ∀ p : Pt, ht p = 0 → p = ⟨0, 0⟩ := fun p hp => by
  have a1 := zD1 p.x; have a2 := zD1 p.y
  unfold ht at hp
  have b1 : p.x * p.x = 0 := by omega
  have b2 : p.y * p.y = 0 := by omega
  rw [Pt.eq_iff]
  exact ⟨by rcases Int.mul_eq_zero.1 b1 with h | h <;> exact h, by rcases Int.mul_eq_zero.1 b2 with h | h <;> exact h⟩
 rcases Int.mul_eq_zero.1 i3 with h | h
 ·exact n2 (key0 v h)
 ·exact n3 (key0 z h)
theorem circ_sign {a b c d : Pt} (h0 : ¬ ori a b c = 0) (hv : vld d = true) (e1 : d ≠ a) (e2 : d ≠ b) (e3 : d ≠ c) : circ a b c d = 1 ∨ circ a b c d = -1 := by
 rw [zBi h0 hv e1 e2 e3]
 obtain ⟨va, vb, vc⟩ := zCc h0
 have o3 : ∀ p q r : Pt, vld p = true → vld q = true → vld r = true → det p q r ≠ 0 → ori p q r = 1 ∨ ori p q r = -1 := fun p q r hp hq hr h => by
  rw [ori_v hp hq hr]; have := zAg (det p q r); omega
 have hdet : det a b c ≠ 0 := fun h => h0 (by rw [ori_v va vb vc, h]; rfl)
 split
 ·rename_i h; have := zAg (lft a b c d); omega
 ·rename_i h
  have hl : lft a b c d = 0 := by rw [← zBk]; omega
  unfold tie
  split
  ·exact o3 _ _ _ va vb vc hdet
  split
  ·have := o3 d b c hv vb vc (zE2 hl hdet e2 e3); omega
  split
  ·have h3 := zE2 (a := b) (b := c) (c := a) (d := d) (by rw [zEz]; exact hl) (by rw [zAv]; exact hdet) e3 e1
   have := o3 a d c va hv vc (by rw [← zAv a d c]; exact h3); omega
  ·have h3 := zE2 (a := c) (b := a) (c := b) (d := d) (by rw [zEz b c a, zEz]; exact hl) (by rw [zAv b c a, zAv]; exact hdet) e1 e2
   have := o3 a b d va vb hv (by rw [← zAv a b d, ← zAv b d a]; exact h3); omega
theorem circ_last {a b c d : Pt} (h0 : ¬ ori a b c = 0) (h1 : ¬ ori a b d = 0) (e : d ≠ c) : circ a b d c = -circ a b c d := by
 obtain ⟨va, vb, vc⟩ := zCc h0
 obtain ⟨_, _, vd⟩ := zCc h1
 obtain ⟨n1, n2, n3⟩ := zB6 h0
 obtain ⟨_, k2, k3⟩ := zB6 h1
 rw [zBi h0 vd k2 k3 e, zBi h1 vc n2 n3 e.symm, lft_last, zGq, min4_last va vb vc vd]
 by_cases hs : sgn (lft a b c d) = 0
 ·rw [if_neg (by omega), if_neg (by omega)]
  unfold tie
  rcases zIx a b c d with h | h | h | h <;> rw [h]
  ·rw [if_neg (np n2.symm), if_pos (pp rfl), if_neg (np k2.symm), if_pos (pp rfl), zCl b c d, zB8 d b c]
  ·rw [if_neg (np n3.symm), if_neg (np n1), if_pos (pp rfl), if_neg (np k3.symm), if_neg (np n1), if_pos (pp rfl), zDj]
  ·rw [if_pos (pp rfl), if_neg (np e.symm), if_neg (np n2), if_neg (np n3)]; omega
  ·rw [if_neg (np e), if_neg (np k2), if_neg (np k3), if_pos (pp rfl)]
 ·rw [if_pos (by omega), if_pos hs]
end Go.Proofs.YtmobnmjjmafibaaGreat
namespace Go.Proofs.YtmobnmjjmafibaaGreat
open Go.RowKit Go.Sort
attribute [local go_sem] rOper rAt rUpon cell_set sg_i64 sg_u64 alloc_cell alloc_frozen
attribute [local go_sem 10000] pt_eql pt_neq
attribute [local irreducible] rWalk
theorem rcircle_0 (a b c d : Pt) (h0 : ori a b c = 0) (w : World) :
    Calls Tryz.prog 141 #[.agg #[.int .i64 a.x, .int .i64 a.y], .agg #[.int .i64 b.x, .int .i64 b.y], .agg #[.int .i64 c.x, .int .i64 c.y], .agg #[.int .i64 d.x, .int .i64 d.y]] w fun e w' => e = .returned (.int .i64 0) ∧ Below w.heap.size w w' := by
 have co := zA7 a b c
 rw [h0] at co
 clear h0
 go_enter Tryz.func141, Tryz.ntmps141
 go_wp2_with fail
 refine zA1 fun W1 hW => ?_
 have Ba : Box W1 (w.heap.size) [.int .i64 a.x, .int .i64 a.y] 30 := by rw [hW]; exact (((Box.new rfl).old _).old _).old _
 have Bb : Box W1 (w.heap.size + 1) [.int .i64 b.x, .int .i64 b.y] 30 := by rw [hW]; exact ((Box.new (by simp)).old _).old _
 have Bc : Box W1 (w.heap.size + 1 + 1) [.int .i64 c.x, .int .i64 c.y] 30 := by rw [hW]; exact (Box.new (by simp)).old _
 have Bd : Box W1 (w.heap.size + 1 + 1 + 1) [.int .i64 d.x, .int .i64 d.y] 30 := by rw [hW]; exact Box.new (by simp)
 have hw : Below w.heap.size w W1 := by rw [hW]; go_grown
 clear hW
 refine (co _).mono ?_
 rintro e w2 ⟨rfl, hb⟩
 replace Ba := Ba.ee hb
 replace Bb := Bb.ee hb
 replace Bc := Bc.ee hb
 replace Bd := Bd.ee hb
 replace hw := upB hw hb
 clear hb
 go_wp2
 go_ret
 exact ⟨rfl, hw⟩
theorem zHr (a b c d : Pt) (h0 : ¬ ori a b c = 0) (hv : vld d = false) (w : World) :
    Calls Tryz.prog 141 #[.agg #[.int .i64 a.x, .int .i64 a.y], .agg #[.int .i64 b.x, .int .i64 b.y], .agg #[.int .i64 c.x, .int .i64 c.y], .agg #[.int .i64 d.x, .int .i64 d.y]] w fun e w' => e = .returned (.int .i64 0) ∧ Below w.heap.size w w' := by
 have co := zA7 a b c
 have cv := zA5 d
 rw [hv] at cv
 clear hv
 have bo := zBz a b c
 generalize ori a b c = o at *
 have t0 : (o == 0) = false := by simpa using h0
 clear h0
 go_enter Tryz.func141, Tryz.ntmps141
 go_wp2_with fail
 refine zA1 fun W1 hW => ?_
 have Ba : Box W1 (w.heap.size) [.int .i64 a.x, .int .i64 a.y] 30 := by rw [hW]; exact (((Box.new rfl).old _).old _).old _
 have Bb : Box W1 (w.heap.size + 1) [.int .i64 b.x, .int .i64 b.y] 30 := by rw [hW]; exact ((Box.new (by simp)).old _).old _
 have Bc : Box W1 (w.heap.size + 1 + 1) [.int .i64 c.x, .int .i64 c.y] 30 := by rw [hW]; exact (Box.new (by simp)).old _
 have Bd : Box W1 (w.heap.size + 1 + 1 + 1) [.int .i64 d.x, .int .i64 d.y] 30 := by rw [hW]; exact Box.new (by simp)
 have hw : Below w.heap.size w W1 := by rw [hW]; go_grown
 clear hW
 refine (co _).mono ?_
 rintro e w2 ⟨rfl, hb⟩
 replace Ba := Ba.ee hb
 replace Bb := Bb.ee hb
 replace Bc := Bc.ee hb
 replace Bd := Bd.ee hb
 replace hw := upB hw hb
 clear hb
 have F_abcd := J4 Ba.f Bb.f Bc.f Bd.f
 go_wp2_with fail
 refine (cv _).mono ?_
 rintro e w3 ⟨rfl, hb⟩
 clear F_abcd
 replace Ba := Ba.ee hb
 replace Bb := Bb.ee hb
 replace Bc := Bc.ee hb
 replace Bd := Bd.ee hb
 replace hw := upB hw hb
 clear hb
 have F_abcd := J4 Ba.f Bb.f Bc.f Bd.f
 go_wp2
 go_ret
 exact ⟨rfl, hw⟩
theorem zHq (a b c d : Pt) (h0 : ¬ ori a b c = 0) (hv : vld d = true) (e1 : peqI d.x d.y a.x a.y = true) (w : World) :
    Calls Tryz.prog 141 #[.agg #[.int .i64 a.x, .int .i64 a.y], .agg #[.int .i64 b.x, .int .i64 b.y], .agg #[.int .i64 c.x, .int .i64 c.y], .agg #[.int .i64 d.x, .int .i64 d.y]] w fun e w' => e = .returned (.int .i64 0) ∧ Below w.heap.size w w' := by
 have co := zA7 a b c
 have cv := zA5 d
 rw [hv] at cv
 clear hv
 have bo := zBz a b c
 generalize ori a b c = o at *
 have t0 : (o == 0) = false := by simpa using h0
 clear h0
 go_enter Tryz.func141, Tryz.ntmps141
 go_wp2_with fail
 refine zA1 fun W1 hW => ?_
 have Ba : Box W1 (w.heap.size) [.int .i64 a.x, .int .i64 a.y] 30 := by rw [hW]; exact (((Box.new rfl).old _).old _).old _
 have Bb : Box W1 (w.heap.size + 1) [.int .i64 b.x, .int .i64 b.y] 30 := by rw [hW]; exact ((Box.new (by simp)).old _).old _
 have Bc : Box W1 (w.heap.size + 1 + 1) [.int .i64 c.x, .int .i64 c.y] 30 := by rw [hW]; exact (Box.new (by simp)).old _
 have Bd : Box W1 (w.heap.size + 1 + 1 + 1) [.int .i64 d.x, .int .i64 d.y] 30 := by rw [hW]; exact Box.new (by simp)
 have hw : Below w.heap.size w W1 := by rw [hW]; go_grown
 clear hW
 refine (co _).mono ?_
 rintro e w2 ⟨rfl, hb⟩
 replace Ba := Ba.ee hb
 replace Bb := Bb.ee hb
 replace Bc := Bc.ee hb
 replace Bd := Bd.ee hb
 replace hw := upB hw hb
 clear hb
 have F_abcd := J4 Ba.f Bb.f Bc.f Bd.f
 go_wp2_with fail
 refine (cv _).mono ?_
 rintro e w3 ⟨rfl, hb⟩
 clear F_abcd
 replace Ba := Ba.ee hb
 replace Bb := Bb.ee hb
 replace Bc := Bc.ee hb
 replace Bd := Bd.ee hb
 replace hw := upB hw hb
 clear hb
 have F_abcd := J4 Ba.f Bb.f Bc.f Bd.f
 go_wp2
 go_ret
 exact ⟨rfl, hw⟩
theorem zHp (a b c d : Pt) (h0 : ¬ ori a b c = 0) (hv : vld d = true) (e1 : peqI d.x d.y a.x a.y = false) (e2 : peqI d.x d.y b.x b.y = true) (w : World) :
    Calls Tryz.prog 141 #[.agg #[.int .i64 a.x, .int .i64 a.y], .agg #[.int .i64 b.x, .int .i64 b.y], .agg #[.int .i64 c.x, .int .i64 c.y], .agg #[.int .i64 d.x, .int .i64 d.y]] w fun e w' => e = .returned (.int .i64 0) ∧ Below w.heap.size w w' := by
 have co := zA7 a b c
 have cv := zA5 d
 rw [hv] at cv
 clear hv
 have bo := zBz a b c
 generalize ori a b c = o at *
 have t0 : (o == 0) = false := by simpa using h0
 clear h0
 go_enter Tryz.func141, Tryz.ntmps141
 go_wp2_with fail
 refine zA1 fun W1 hW => ?_
 have Ba : Box W1 (w.heap.size) [.int .i64 a.x, .int .i64 a.y] 30 := by rw [hW]; exact (((Box.new rfl).old _).old _).old _
 have Bb : Box W1 (w.heap.size + 1) [.int .i64 b.x, .int .i64 b.y] 30 := by rw [hW]; exact ((Box.new (by simp)).old _).old _
 have Bc : Box W1 (w.heap.size + 1 + 1) [.int .i64 c.x, .int .i64 c.y] 30 := by rw [hW]; exact (Box.new (by simp)).old _
 have Bd : Box W1 (w.heap.size + 1 + 1 + 1) [.int .i64 d.x, .int .i64 d.y] 30 := by rw [hW]; exact Box.new (by simp)
 have hw : Below w.heap.size w W1 := by rw [hW]; go_grown
 clear hW
 refine (co _).mono ?_
 rintro e w2 ⟨rfl, hb⟩
 replace Ba := Ba.ee hb
 replace Bb := Bb.ee hb
 replace Bc := Bc.ee hb
 replace Bd := Bd.ee hb
 replace hw := upB hw hb
 clear hb
 have F_abcd := J4 Ba.f Bb.f Bc.f Bd.f
 go_wp2_with fail
 refine (cv _).mono ?_
 rintro e w3 ⟨rfl, hb⟩
 clear F_abcd
 replace Ba := Ba.ee hb
 replace Bb := Bb.ee hb
 replace Bc := Bc.ee hb
 replace Bd := Bd.ee hb
 replace hw := upB hw hb
 clear hb
 have F_abcd := J4 Ba.f Bb.f Bc.f Bd.f
 go_wp2
 go_ret
 exact ⟨rfl, hw⟩
theorem zHo (a b c d : Pt) (h0 : ¬ ori a b c = 0) (hv : vld d = true) (e1 : peqI d.x d.y a.x a.y = false) (e2 : peqI d.x d.y b.x b.y = false) (e3 : peqI d.x d.y c.x c.y = true) (w : World) :
    Calls Tryz.prog 141 #[.agg #[.int .i64 a.x, .int .i64 a.y], .agg #[.int .i64 b.x, .int .i64 b.y], .agg #[.int .i64 c.x, .int .i64 c.y], .agg #[.int .i64 d.x, .int .i64 d.y]] w fun e w' => e = .returned (.int .i64 0) ∧ Below w.heap.size w w' := by
 have co := zA7 a b c
 have cv := zA5 d
 rw [hv] at cv
 clear hv
 have bo := zBz a b c
 generalize ori a b c = o at *
 have t0 : (o == 0) = false := by simpa using h0
 clear h0
 go_enter Tryz.func141, Tryz.ntmps141
 go_wp2_with fail
 refine zA1 fun W1 hW => ?_
 have Ba : Box W1 (w.heap.size) [.int .i64 a.x, .int .i64 a.y] 30 := by rw [hW]; exact (((Box.new rfl).old _).old _).old _
 have Bb : Box W1 (w.heap.size + 1) [.int .i64 b.x, .int .i64 b.y] 30 := by rw [hW]; exact ((Box.new (by simp)).old _).old _
 have Bc : Box W1 (w.heap.size + 1 + 1) [.int .i64 c.x, .int .i64 c.y] 30 := by rw [hW]; exact (Box.new (by simp)).old _
 have Bd : Box W1 (w.heap.size + 1 + 1 + 1) [.int .i64 d.x, .int .i64 d.y] 30 := by rw [hW]; exact Box.new (by simp)
 have hw : Below w.heap.size w W1 := by rw [hW]; go_grown
 clear hW
 refine (co _).mono ?_
 rintro e w2 ⟨rfl, hb⟩
 replace Ba := Ba.ee hb
 replace Bb := Bb.ee hb
 replace Bc := Bc.ee hb
 replace Bd := Bd.ee hb
 replace hw := upB hw hb
 clear hb
 have F_abcd := J4 Ba.f Bb.f Bc.f Bd.f
 go_wp2_with fail
 refine (cv _).mono ?_
 rintro e w3 ⟨rfl, hb⟩
 clear F_abcd
 replace Ba := Ba.ee hb
 replace Bb := Bb.ee hb
 replace Bc := Bc.ee hb
 replace Bd := Bd.ee hb
 replace hw := upB hw hb
 clear hb
 have F_abcd := J4 Ba.f Bb.f Bc.f Bd.f
 go_wp2
 go_ret
 exact ⟨rfl, hw⟩
theorem lft_r (u v z : Pt) : (u.x * u.x + u.y * u.y) * (v.x * z.y - z.x * v.y) + -((v.x * v.x + v.y * v.y) * (u.x * z.y - z.x * u.y)) + (z.x * z.x + z.y * z.y) * (u.x * v.y - v.x * u.y) = ht u * cr v z + ht v * cr z u + ht z * cr u v := by
 unfold ht cr; grind
theorem rcircle_5 (a b c d : Pt) (h0 : ori a b c = 1) (hv : vld d = true) (e1 : peqI d.x d.y a.x a.y = false) (e2 : peqI d.x d.y b.x b.y = false) (e3 : peqI d.x d.y c.x c.y = false) (hl : ¬ sgn (lft a b c d) = 0) (w : World) :
    Calls Tryz.prog 141 #[.agg #[.int .i64 a.x, .int .i64 a.y], .agg #[.int .i64 b.x, .int .i64 b.y], .agg #[.int .i64 c.x, .int .i64 c.y], .agg #[.int .i64 d.x, .int .i64 d.y]] w fun e w' => e = .returned (.int .i64 (sgn (lft a b c d))) ∧ Below w.heap.size w w' := by
 have hvv : vld a = true ∧ vld b = true ∧ vld c = true := zCc (by omega)
 obtain ⟨va, vb, vc⟩ := hvv
 have co := zA7 a b c
 rw [h0] at co
 have cv := zA5 d
 rw [hv] at cv
 have su := zEk hv va
 have sv := zEk hv vb
 have sz := zEk hv vc
 have el := lft_r (way d a) (way d b) (way d c)
 have el' : lft a b c d = ht (way d a) * cr (way d b) (way d c) + ht (way d b) * cr (way d c) (way d a) + ht (way d c) * cr (way d a) (way d b) := rfl
 rw [← el'] at el
 have ww1 : IntKind.i64.wrap (a.x - d.x) = (way d a).x := by rw [zAr] at *; rw [IntKind.wrap_i64]; unfold way; simp only; omega
 have ww2 : IntKind.i64.wrap (a.y - d.y) = (way d a).y := by rw [zAr] at *; rw [IntKind.wrap_i64]; unfold way; simp only; omega
 have ww3 : IntKind.i64.wrap (b.x - d.x) = (way d b).x := by rw [zAr] at *; rw [IntKind.wrap_i64]; unfold way; simp only; omega
 have ww4 : IntKind.i64.wrap (b.y - d.y) = (way d b).y := by rw [zAr] at *; rw [IntKind.wrap_i64]; unfold way; simp only; omega
 have ww5 : IntKind.i64.wrap (c.x - d.x) = (way d c).x := by rw [zAr] at *; rw [IntKind.wrap_i64]; unfold way; simp only; omega
 have ww6 : IntKind.i64.wrap (c.y - d.y) = (way d c).y := by rw [zAr] at *; rw [IntKind.wrap_i64]; unfold way; simp only; omega
 clear el'
 generalize way d a = u at *
 generalize way d b = v at *
 generalize way d c = z at *
 have a1 := zBa su.1 su.1
 have a2 := zBa su.2 su.2
 have a3 := zBa sv.1 sv.1
 have a4 := zBa sv.2 sv.2
 have a5 := zBa sz.1 sz.1
 have a6 := zBa sz.2 sz.2
 have a7 := zBa sv.1 sz.2
 have a8 := zBa sz.1 sv.2
 have a9 := zBa su.1 sz.2
 have a10 := zBa sz.1 su.2
 have a11 := zBa su.1 sv.2
 have a12 := zBa sv.1 su.2
 have g1 := zD1 u.x
 have g2 := zD1 u.y
 have g3 := zD1 v.x
 have g4 := zD1 v.y
 have g5 := zD1 z.x
 have g6 := zD1 z.y
 have m1 := r_mul (u.x * u.x + u.y * u.y) (v.x * z.y - z.x * v.y) (by omega) (by omega) (by omega) (by omega)
 have m2 := r_mul (v.x * v.x + v.y * v.y) (u.x * z.y - z.x * u.y) (by omega) (by omega) (by omega) (by omega)
 have m3 := r_mul (z.x * z.x + z.y * z.y) (u.x * v.y - v.x * u.y) (by omega) (by omega) (by omega) (by omega)
 have p1 := zFt (p := u.x * u.x + u.y * u.y) (q := v.x * z.y - z.x * v.y) (by omega) (by omega)
 have p2 := zFt (p := v.x * v.x + v.y * v.y) (q := u.x * z.y - z.x * u.y) (by omega) (by omega)
 have p3 := zFt (p := z.x * z.x + z.y * z.y) (q := u.x * v.y - v.x * u.y) (by omega) (by omega)
 generalize (u.x * u.x + u.y * u.y) * (v.x * z.y - z.x * v.y) = P1 at *
 generalize (v.x * v.x + v.y * v.y) * (u.x * z.y - z.x * u.y) = P2 at *
 generalize (z.x * z.x + z.y * z.y) * (u.x * v.y - v.x * u.y) = P3 at *
 have n2 := zJj (cH P2) (cL P2) (ok_c _)
 rw [V_c (zAi.2 ⟨by omega, by omega⟩), (m_c (n := -P2) (zAi.2 ⟨by omega, by omega⟩)).1, (m_c (n := -P2) (zAi.2 ⟨by omega, by omega⟩)).2] at n2
 have s1 := zDz (cH P1) (cL P1) (cH (-P2)) (cL (-P2)) (ok_c _) (ok_c _)
 rw [V_c (zAi.2 ⟨by omega, by omega⟩), V_c (zAi.2 ⟨by omega, by omega⟩), (m_c (n := P1 + -P2) (zAi.2 ⟨by omega, by omega⟩)).1, (m_c (n := P1 + -P2) (zAi.2 ⟨by omega, by omega⟩)).2] at s1
 have s2 := zDz (cH (P1 + -P2)) (cL (P1 + -P2)) (cH P3) (cL P3) (ok_c _) (ok_c _)
 rw [V_c (zAi.2 ⟨by omega, by omega⟩), V_c (zAi.2 ⟨by omega, by omega⟩), (m_c (n := P1 + -P2 + P3) (zAi.2 ⟨by omega, by omega⟩)).1, (m_c (n := P1 + -P2 + P3) (zAi.2 ⟨by omega, by omega⟩)).2] at s2
 have s3 := r_sign (cH (P1 + -P2 + P3)) (cL (P1 + -P2 + P3)) (ok_c _)
 rw [V_c (zAi.2 ⟨by omega, by omega⟩)] at s3
 generalize cH (P1 + -P2 + P3) = H3 at *
 generalize cL (P1 + -P2 + P3) = L3 at *
 rw [el] at s3
 clear p1 p2 p3 el su sv sz va vb vc hv h0
 generalize sgn (lft a b c d) = S at *
 generalize cH (P1 + -P2) = H2 at *
 generalize cL (P1 + -P2) = L2 at *
 generalize cH P1 = H0 at *
 generalize cL P1 = L0 at *
 generalize cH (-P2) = H5 at *
 generalize cL (-P2) = L5 at *
 generalize cH P2 = H1 at *
 generalize cL P2 = L1 at *
 generalize cH P3 = H4 at *
 generalize cL P3 = L4 at *
 have t1 : (S != 0) = true := by simpa using hl
 clear hl
 go_enter Tryz.func141, Tryz.ntmps141
 go_wp2_with fail
 refine zA1 fun W1 hW => ?_
 have Ba : Box W1 (w.heap.size) [.int .i64 a.x, .int .i64 a.y] 30 := by rw [hW]; exact (((Box.new rfl).old _).old _).old _
 have Bb : Box W1 (w.heap.size + 1) [.int .i64 b.x, .int .i64 b.y] 30 := by rw [hW]; exact ((Box.new (by simp)).old _).old _
 have Bc : Box W1 (w.heap.size + 1 + 1) [.int .i64 c.x, .int .i64 c.y] 30 := by rw [hW]; exact (Box.new (by simp)).old _
 have Bd : Box W1 (w.heap.size + 1 + 1 + 1) [.int .i64 d.x, .int .i64 d.y] 30 := by rw [hW]; exact Box.new (by simp)
 have hw : Below w.heap.size w W1 := by rw [hW]; go_grown
 clear hW
 refine (co _).mono ?_
 rintro e w2 ⟨rfl, hb⟩
 replace Ba := Ba.ee hb
 replace Bb := Bb.ee hb
 replace Bc := Bc.ee hb
 replace Bd := Bd.ee hb
 replace hw := upB hw hb
 clear hb
 obtain ⟨xa, ya, za, va⟩ := Ba.f
 obtain ⟨xb, yb, zb, vb⟩ := Bb.f
 obtain ⟨xc, yc, zc, vc⟩ := Bc.f
 obtain ⟨xd, yd, zd, vd⟩ := Bd.f
 go_wp2_with fail
 refine (cv _).mono ?_
 rintro e w3 ⟨rfl, hb⟩
 clear xa ya za va xb yb zb vb xc yc zc vc xd yd zd vd
 replace Ba := Ba.ee hb
 replace Bb := Bb.ee hb
 replace Bc := Bc.ee hb
 replace Bd := Bd.ee hb
 replace hw := upB hw hb
 clear hb
 obtain ⟨xa, ya, za, va⟩ := Ba.f
 obtain ⟨xb, yb, zb, vb⟩ := Bb.f
 obtain ⟨xc, yc, zc, vc⟩ := Bc.f
 obtain ⟨xd, yd, zd, vd⟩ := Bd.f
 go_wp2
 refine zA2 fun W4 hW => ?_
 replace hw : Below w.heap.size w W4 := by rw [hW]; exact hw
 replace Ba : Box W4 (w.heap.size) [.int .i64 a.x, .int .i64 a.y] 30 := by rw [hW]; exact Ba
 replace Bb : Box W4 (w.heap.size + 1) [.int .i64 b.x, .int .i64 b.y] 30 := by rw [hW]; exact Bb
 replace Bc : Box W4 (w.heap.size + 1 + 1) [.int .i64 c.x, .int .i64 c.y] 30 := by rw [hW]; exact Bc
 replace Bd : Box W4 (w.heap.size + 1 + 1 + 1) [.int .i64 d.x, .int .i64 d.y] 30 := by rw [hW]; exact Bd
 clear hW
 clear xa ya za va xb yb zb vb xc yc zc vc xd yd zd vd
 have ga := Ba.cells
 have gb := Bb.cells
 have gc := Bc.cells
 have gd := Bd.cells
 refine wp_region_tail 35 (by kernel_rfl) (by kernel_rfl) (C := fun w' => ∃ p : Regrown, w' = grow (redrawn W4 p.d) p.os) rgB ?_
 simp only [tK1, tK0, dP1, dP0]
 repeat (first | (refine zA0 (Eq.refl false) ?_; simp only [Act.put, sT2, sT1, sT0]) | (refine rWalk_step (fun K hK => ?_); go_simp; first | (refine hK _ ?_; clear hK K) | (apply Exists.intro; refine ⟨fun _ => ?_, hK _ ?_⟩; (first | fail); clear hK K)))
 refine rWalk_nil ?_
 intro w5 hb
 clear ga gb gc gd
 replace Ba := Ba.ee hb
 replace Bb := Bb.ee hb
 replace Bc := Bc.ee hb
 replace Bd := Bd.ee hb
 replace hw := upB hw hb
 clear ww1 ww2 ww3 ww4 ww5 ww6
 obtain ⟨xa, ya, za, va⟩ := Ba.f
 obtain ⟨xb, yb, zb, vb⟩ := Bb.f
 obtain ⟨xc, yc, zc, vc⟩ := Bc.f
 obtain ⟨xd, yd, zd, vd⟩ := Bd.f
 go_wp2_with fail
 refine (m1 _).mono ?_
 rintro e w6 ⟨rfl, hb⟩
 clear xa ya za va xb yb zb vb xc yc zc vc xd yd zd vd
 replace Ba := Ba.ee hb
 replace Bb := Bb.ee hb
 replace Bc := Bc.ee hb
 replace Bd := Bd.ee hb
 replace hw := upB hw hb
 clear hb
 obtain ⟨xa, ya, za, va⟩ := Ba.f
 obtain ⟨xb, yb, zb, vb⟩ := Bb.f
 obtain ⟨xc, yc, zc, vc⟩ := Bc.f
 obtain ⟨xd, yd, zd, vd⟩ := Bd.f
 go_wp2_with fail
 refine zA2 fun W7 hW => ?_
 obtain ⟨bkz, hbz⟩ : ∃ b, w6.heap.size = b := ⟨_, rfl⟩
 rw [hbz]
 have laz := Ba.lt
 rw [hbz] at laz
 have lbz := Bb.lt
 rw [hbz] at lbz
 have lcz := Bc.lt
 rw [hbz] at lcz
 have ldz := Bd.lt
 rw [hbz] at ldz
 have fz := hw.size
 rw [hbz] at fz
 have Bz : Box W7 bkz [.int .i64 H0, .int .u64 L0] 132 := by rw [hW]; exact Box.new hbz.symm
 replace Ba : Box W7 (w.heap.size) [.int .i64 a.x, .int .i64 a.y] 30 := by rw [hW]; exact Ba.old _
 replace Bb : Box W7 (w.heap.size + 1) [.int .i64 b.x, .int .i64 b.y] 30 := by rw [hW]; exact Bb.old _
 replace Bc : Box W7 (w.heap.size + 1 + 1) [.int .i64 c.x, .int .i64 c.y] 30 := by rw [hW]; exact Bc.old _
 replace Bd : Box W7 (w.heap.size + 1 + 1 + 1) [.int .i64 d.x, .int .i64 d.y] 30 := by rw [hW]; exact Bd.old _
 replace hw : Below w.heap.size w W7 := by have hl := hw.size; rw [hW]; go_grown
 clear hW hbz
 have rr0 : Hid (IntKind.i64.wrap (v.x * v.x) = v.x * v.x) := Lib.hid (by rw [IntKind.wrap_i64]; omega)
 have rr1 : Hid (IntKind.i64.wrap (v.y * v.y) = v.y * v.y) := Lib.hid (by rw [IntKind.wrap_i64]; omega)
 have rr2 : Hid (IntKind.i64.wrap (v.x * v.x + v.y * v.y) = v.x * v.x + v.y * v.y) := Lib.hid (by rw [IntKind.wrap_i64]; omega)
 have rr3 : Hid (IntKind.i64.wrap (u.x * z.y) = u.x * z.y) := Lib.hid (by rw [IntKind.wrap_i64]; omega)
 have rr4 : Hid (IntKind.i64.wrap (z.x * u.y) = z.x * u.y) := Lib.hid (by rw [IntKind.wrap_i64]; omega)
 have rr5 : Hid (IntKind.i64.wrap (u.x * z.y - z.x * u.y) = u.x * z.y - z.x * u.y) := Lib.hid (by rw [IntKind.wrap_i64]; omega)
 have qq0 := rr0.out
 clear rr0
 have qq1 := rr1.out
 clear rr1
 have qq2 := rr2.out
 clear rr2
 have qq3 := rr3.out
 clear rr3
 have qq4 := rr4.out
 clear rr4
 have qq5 := rr5.out
 clear rr5
 have ga := Ba.cells
 have gb := Bb.cells
 have gc := Bc.cells
 have gd := Bd.cells
 have gz := Bz.cells
 refine wp_region_tail 18 (by kernel_rfl) (by kernel_rfl) (C := fun w' => ∃ p : Regrown, w' = grow (redrawn W7 p.d) p.os) rgB ?_
 simp only [tK1, tK0, dP1, dP0]
 repeat (first | (refine zA0 (Eq.refl false) ?_; simp only [Act.put, sT2, sT1, sT0]) | (refine rWalk_step (fun K hK => ?_); go_simp; first | (refine hK _ ?_; clear hK K) | (apply Exists.intro; refine ⟨fun _ => ?_, hK _ ?_⟩; (first | with_reducible exact toExt m2 _ | with_reducible exact toExt n2 _ | with_reducible exact toExt s1 _); clear hK K)))
 refine rWalk_nil ?_
 intro w8 hb
 clear ga gb gc gd gz
 clear xa ya za va xb yb zb vb xc yc zc vc xd yd zd vd
 replace Ba := Ba.ee hb
 replace Bb := Bb.ee hb
 replace Bc := Bc.ee hb
 replace Bd := Bd.ee hb
 replace Bz := Bz.ee hb
 replace hw := upB hw hb
 clear qq0 qq1 qq2 qq3 qq4 qq5
 obtain ⟨xa, ya, za, va⟩ := Ba.f
 obtain ⟨xb, yb, zb, vb⟩ := Bb.f
 obtain ⟨xc, yc, zc, vc⟩ := Bc.f
 obtain ⟨xd, yd, zd, vd⟩ := Bd.f
 obtain ⟨xz, yz, zz, vz⟩ := Bz.f
 go_wp2_with fail
 refine zA2 fun W9 hW => ?_
 have Ca : Box W9 (w.heap.size) [.int .i64 a.x, .int .i64 a.y] 30 := by rw [hW]; exact ((Ba.sn bkz 0 (.int .i64 H2) (by first | assumption | omega)).sn bkz 1 (.int .u64 L2) (by first | assumption | omega))
 have Cb : Box W9 (w.heap.size + 1) [.int .i64 b.x, .int .i64 b.y] 30 := by rw [hW]; exact ((Bb.sn bkz 0 (.int .i64 H2) (by first | assumption | omega)).sn bkz 1 (.int .u64 L2) (by first | assumption | omega))
 have Cc : Box W9 (w.heap.size + 1 + 1) [.int .i64 c.x, .int .i64 c.y] 30 := by rw [hW]; exact ((Bc.sn bkz 0 (.int .i64 H2) (by first | assumption | omega)).sn bkz 1 (.int .u64 L2) (by first | assumption | omega))
 have Cd : Box W9 (w.heap.size + 1 + 1 + 1) [.int .i64 d.x, .int .i64 d.y] 30 := by rw [hW]; exact ((Bd.sn bkz 0 (.int .i64 H2) (by first | assumption | omega)).sn bkz 1 (.int .u64 L2) (by first | assumption | omega))
 have Cz : Box W9 (bkz) [.int .i64 H2, .int .u64 L2] 132 := by rw [hW]; exact ((Bz.set 0 (.int .i64 H2)).set 1 (.int .u64 L2))
 replace hw : Below w.heap.size w W9 := by have hl := hw.size; rw [hW]; go_grown
 clear xa ya za va xb yb zb vb xc yc zc vc xd yd zd vd xz yz zz vz
 clear hW Ba Bb Bc Bd Bz
 have Ba := Ca
 have Bb := Cb
 have Bc := Cc
 have Bd := Cd
 have Bz := Cz
 clear Ca Cb Cc Cd Cz
 have rr0 : Hid (IntKind.i64.wrap (z.x * z.x) = z.x * z.x) := Lib.hid (by rw [IntKind.wrap_i64]; omega)
 have rr1 : Hid (IntKind.i64.wrap (z.y * z.y) = z.y * z.y) := Lib.hid (by rw [IntKind.wrap_i64]; omega)
 have rr2 : Hid (IntKind.i64.wrap (z.x * z.x + z.y * z.y) = z.x * z.x + z.y * z.y) := Lib.hid (by rw [IntKind.wrap_i64]; omega)
 have rr3 : Hid (IntKind.i64.wrap (u.x * v.y) = u.x * v.y) := Lib.hid (by rw [IntKind.wrap_i64]; omega)
 have rr4 : Hid (IntKind.i64.wrap (v.x * u.y) = v.x * u.y) := Lib.hid (by rw [IntKind.wrap_i64]; omega)
 have rr5 : Hid (IntKind.i64.wrap (u.x * v.y - v.x * u.y) = u.x * v.y - v.x * u.y) := Lib.hid (by rw [IntKind.wrap_i64]; omega)
 have qq0 := rr0.out
 clear rr0
 have qq1 := rr1.out
 clear rr1
 have qq2 := rr2.out
 clear rr2
 have qq3 := rr3.out
 clear rr3
 have qq4 := rr4.out
 clear rr4
 have qq5 := rr5.out
 clear rr5
 have ga := Ba.cells
 have gb := Bb.cells
 have gc := Bc.cells
 have gd := Bd.cells
 have gz := Bz.cells
 refine wp_region_tail 17 (by kernel_rfl) (by kernel_rfl) (C := fun w' => ∃ p : Regrown, w' = grow (redrawn W9 p.d) p.os) rgB ?_
 simp only [tK1, tK0, dP1, dP0]
 repeat (first | (refine zA0 (Eq.refl false) ?_; simp only [Act.put, sT2, sT1, sT0]) | (refine rWalk_step (fun K hK => ?_); go_simp; first | (refine hK _ ?_; clear hK K) | (apply Exists.intro; refine ⟨fun _ => ?_, hK _ ?_⟩; (first | with_reducible exact toExt m3 _ | with_reducible exact toExt s2 _); clear hK K)))
 refine rWalk_nil ?_
 intro w10 hb
 clear ga gb gc gd gz
 replace Ba := Ba.ee hb
 replace Bb := Bb.ee hb
 replace Bc := Bc.ee hb
 replace Bd := Bd.ee hb
 replace Bz := Bz.ee hb
 replace hw := upB hw hb
 clear qq0 qq1 qq2 qq3 qq4 qq5 a1 a2 a3 a4 a5 a6 a7 a8 a9 a10 a11 a12 g1 g2 g3 g4 g5 g6
 obtain ⟨xa, ya, za, va⟩ := Ba.f
 obtain ⟨xb, yb, zb, vb⟩ := Bb.f
 obtain ⟨xc, yc, zc, vc⟩ := Bc.f
 obtain ⟨xd, yd, zd, vd⟩ := Bd.f
 obtain ⟨xz, yz, zz, vz⟩ := Bz.f
 go_wp2_with fail
 refine zA1 fun W11 hW => ?_
 have Ca : Box W11 (w.heap.size) [.int .i64 a.x, .int .i64 a.y] 30 := by rw [hW]; exact ((Ba.sn bkz 0 (.int .i64 H3) (by first | assumption | omega)).sn bkz 1 (.int .u64 L3) (by first | assumption | omega))
 have Cb : Box W11 (w.heap.size + 1) [.int .i64 b.x, .int .i64 b.y] 30 := by rw [hW]; exact ((Bb.sn bkz 0 (.int .i64 H3) (by first | assumption | omega)).sn bkz 1 (.int .u64 L3) (by first | assumption | omega))
 have Cc : Box W11 (w.heap.size + 1 + 1) [.int .i64 c.x, .int .i64 c.y] 30 := by rw [hW]; exact ((Bc.sn bkz 0 (.int .i64 H3) (by first | assumption | omega)).sn bkz 1 (.int .u64 L3) (by first | assumption | omega))
 have Cd : Box W11 (w.heap.size + 1 + 1 + 1) [.int .i64 d.x, .int .i64 d.y] 30 := by rw [hW]; exact ((Bd.sn bkz 0 (.int .i64 H3) (by first | assumption | omega)).sn bkz 1 (.int .u64 L3) (by first | assumption | omega))
 have Cz : Box W11 (bkz) [.int .i64 H3, .int .u64 L3] 132 := by rw [hW]; exact ((Bz.set 0 (.int .i64 H3)).set 1 (.int .u64 L3))
 replace hw : Below w.heap.size w W11 := by have hl := hw.size; rw [hW]; go_grown
 clear xa ya za va xb yb zb vb xc yc zc vc xd yd zd vd xz yz zz vz
 clear hW Ba Bb Bc Bd Bz
 have Ba := Ca
 have Bb := Cb
 have Bc := Cc
 have Bd := Cd
 have Bz := Cz
 clear Ca Cb Cc Cd Cz
 refine (s3 _).mono ?_
 rintro e w12 ⟨rfl, hb⟩
 replace Ba := Ba.ee hb
 replace Bb := Bb.ee hb
 replace Bc := Bc.ee hb
 replace Bd := Bd.ee hb
 replace Bz := Bz.ee hb
 replace hw := upB hw hb
 clear hb
 go_wp2
 go_ret
 exact ⟨rfl, hw⟩
theorem zG2 {a b c d : Int} : peqI a b c d = peqI c d a b := by
 rw [Bool.eq_iff_iff, zBu, zBu]; omega
theorem zG3 (a b : Int) : peqI a b a b = true := by rw [zBu]; exact ⟨rfl, rfl⟩
theorem det_ne {a b c : Pt} (h : ¬ ori a b c = 0) : peqI b.x b.y a.x a.y = false ∧ peqI c.x c.y a.x a.y = false ∧ peqI c.x c.y b.x b.y = false := by
 have hd : ¬ det a b c = 0 := fun hd => h (by unfold ori; rw [hd]; simp [sgn])
 refine ⟨?_, ?_, ?_⟩ <;> (rw [← Bool.not_eq_true, zBu]; rintro ⟨h1, h2⟩; apply hd; unfold det; rw [h1, h2])
 ·simp
 ·simp
 ·grind
theorem rcircle_6 (a b c d : Pt) (h0 : ori a b c = 1) (hv : vld d = true) (e1 : peqI d.x d.y a.x a.y = false) (e2 : peqI d.x d.y b.x b.y = false) (e3 : peqI d.x d.y c.x c.y = false) (hl : sgn (lft a b c d) = 0) (w : World) :
    Calls Tryz.prog 141 #[.agg #[.int .i64 a.x, .int .i64 a.y], .agg #[.int .i64 b.x, .int .i64 b.y], .agg #[.int .i64 c.x, .int .i64 c.y], .agg #[.int .i64 d.x, .int .i64 d.y]] w fun e w' => e = .returned (.int .i64 (tie a b c d (lsr c (lsr b (lsr a d))) 1)) ∧ Below w.heap.size w w' := by
 have hvv : vld a = true ∧ vld b = true ∧ vld c = true := zCc (by omega)
 obtain ⟨va, vb, vc⟩ := hvv
 have co := zA7 a b c
 rw [h0] at co
 have cv := zA5 d
 rw [hv] at cv
 have su := zEk hv va
 have sv := zEk hv vb
 have sz := zEk hv vc
 have el := lft_r (way d a) (way d b) (way d c)
 have el' : lft a b c d = ht (way d a) * cr (way d b) (way d c) + ht (way d b) * cr (way d c) (way d a) + ht (way d c) * cr (way d a) (way d b) := rfl
 rw [← el'] at el
 have ww1 : IntKind.i64.wrap (a.x - d.x) = (way d a).x := by rw [zAr] at *; rw [IntKind.wrap_i64]; unfold way; simp only; omega
 have ww2 : IntKind.i64.wrap (a.y - d.y) = (way d a).y := by rw [zAr] at *; rw [IntKind.wrap_i64]; unfold way; simp only; omega
 have ww3 : IntKind.i64.wrap (b.x - d.x) = (way d b).x := by rw [zAr] at *; rw [IntKind.wrap_i64]; unfold way; simp only; omega
 have ww4 : IntKind.i64.wrap (b.y - d.y) = (way d b).y := by rw [zAr] at *; rw [IntKind.wrap_i64]; unfold way; simp only; omega
 have ww5 : IntKind.i64.wrap (c.x - d.x) = (way d c).x := by rw [zAr] at *; rw [IntKind.wrap_i64]; unfold way; simp only; omega
 have ww6 : IntKind.i64.wrap (c.y - d.y) = (way d c).y := by rw [zAr] at *; rw [IntKind.wrap_i64]; unfold way; simp only; omega
 clear el'
 generalize way d a = u at *
 generalize way d b = v at *
 generalize way d c = z at *
 have a1 := zBa su.1 su.1
 have a2 := zBa su.2 su.2
 have a3 := zBa sv.1 sv.1
 have a4 := zBa sv.2 sv.2
 have a5 := zBa sz.1 sz.1
 have a6 := zBa sz.2 sz.2
 have a7 := zBa sv.1 sz.2
 have a8 := zBa sz.1 sv.2
 have a9 := zBa su.1 sz.2
 have a10 := zBa sz.1 su.2
 have a11 := zBa su.1 sv.2
 have a12 := zBa sv.1 su.2
 have g1 := zD1 u.x
 have g2 := zD1 u.y
 have g3 := zD1 v.x
 have g4 := zD1 v.y
 have g5 := zD1 z.x
 have g6 := zD1 z.y
 have m1 := r_mul (u.x * u.x + u.y * u.y) (v.x * z.y - z.x * v.y) (by omega) (by omega) (by omega) (by omega)
 have m2 := r_mul (v.x * v.x + v.y * v.y) (u.x * z.y - z.x * u.y) (by omega) (by omega) (by omega) (by omega)
 have m3 := r_mul (z.x * z.x + z.y * z.y) (u.x * v.y - v.x * u.y) (by omega) (by omega) (by omega) (by omega)
 have p1 := zFt (p := u.x * u.x + u.y * u.y) (q := v.x * z.y - z.x * v.y) (by omega) (by omega)
 have p2 := zFt (p := v.x * v.x + v.y * v.y) (q := u.x * z.y - z.x * u.y) (by omega) (by omega)
 have p3 := zFt (p := z.x * z.x + z.y * z.y) (q := u.x * v.y - v.x * u.y) (by omega) (by omega)
 generalize (u.x * u.x + u.y * u.y) * (v.x * z.y - z.x * v.y) = P1 at *
 generalize (v.x * v.x + v.y * v.y) * (u.x * z.y - z.x * u.y) = P2 at *
 generalize (z.x * z.x + z.y * z.y) * (u.x * v.y - v.x * u.y) = P3 at *
 have n2 := zJj (cH P2) (cL P2) (ok_c _)
 rw [V_c (zAi.2 ⟨by omega, by omega⟩), (m_c (n := -P2) (zAi.2 ⟨by omega, by omega⟩)).1, (m_c (n := -P2) (zAi.2 ⟨by omega, by omega⟩)).2] at n2
 have s1 := zDz (cH P1) (cL P1) (cH (-P2)) (cL (-P2)) (ok_c _) (ok_c _)
 rw [V_c (zAi.2 ⟨by omega, by omega⟩), V_c (zAi.2 ⟨by omega, by omega⟩), (m_c (n := P1 + -P2) (zAi.2 ⟨by omega, by omega⟩)).1, (m_c (n := P1 + -P2) (zAi.2 ⟨by omega, by omega⟩)).2] at s1
 have s2 := zDz (cH (P1 + -P2)) (cL (P1 + -P2)) (cH P3) (cL P3) (ok_c _) (ok_c _)
 rw [V_c (zAi.2 ⟨by omega, by omega⟩), V_c (zAi.2 ⟨by omega, by omega⟩), (m_c (n := P1 + -P2 + P3) (zAi.2 ⟨by omega, by omega⟩)).1, (m_c (n := P1 + -P2 + P3) (zAi.2 ⟨by omega, by omega⟩)).2] at s2
 have s3 := r_sign (cH (P1 + -P2 + P3)) (cL (P1 + -P2 + P3)) (ok_c _)
 rw [V_c (zAi.2 ⟨by omega, by omega⟩)] at s3
 generalize cH (P1 + -P2 + P3) = H3 at *
 generalize cL (P1 + -P2 + P3) = L3 at *
 rw [el] at s3
 obtain ⟨d1, d2, d3⟩ := det_ne (a := a) (b := b) (c := c) (by rw [h0]; omega)
 clear p1 p2 p3 el su sv sz va vb vc hv h0
 generalize sgn (lft a b c d) = S at *
 generalize cH (P1 + -P2) = H2 at *
 generalize cL (P1 + -P2) = L2 at *
 generalize cH P1 = H0 at *
 generalize cL P1 = L0 at *
 generalize cH (-P2) = H5 at *
 generalize cL (-P2) = L5 at *
 generalize cH P2 = H1 at *
 generalize cL P2 = L1 at *
 generalize cH P3 = H4 at *
 generalize cL P3 = L4 at *
 have f1 : peqI a.x a.y d.x d.y = false := by rw [zG2]; exact e1
 have f2 : peqI b.x b.y d.x d.y = false := by rw [zG2]; exact e2
 have f3 : peqI c.x c.y d.x d.y = false := by rw [zG2]; exact e3
 have i1 := zG3 a.x a.y
 have i2 := zG3 b.x b.y
 have i3 := zG3 d.x d.y
 have t1 : (S != 0) = false := by simpa using hl
 clear hl
 go_enter Tryz.func141, Tryz.ntmps141
 go_wp2_with fail
 refine zA1 fun W1 hW => ?_
 have Ba : Box W1 (w.heap.size) [.int .i64 a.x, .int .i64 a.y] 30 := by rw [hW]; exact (((Box.new rfl).old _).old _).old _
 have Bb : Box W1 (w.heap.size + 1) [.int .i64 b.x, .int .i64 b.y] 30 := by rw [hW]; exact ((Box.new (by simp)).old _).old _
 have Bc : Box W1 (w.heap.size + 1 + 1) [.int .i64 c.x, .int .i64 c.y] 30 := by rw [hW]; exact (Box.new (by simp)).old _
 have Bd : Box W1 (w.heap.size + 1 + 1 + 1) [.int .i64 d.x, .int .i64 d.y] 30 := by rw [hW]; exact Box.new (by simp)
 have hw : Below w.heap.size w W1 := by rw [hW]; go_grown
 clear hW
 refine (co _).mono ?_
 rintro e w2 ⟨rfl, hb⟩
 replace Ba := Ba.ee hb
 replace Bb := Bb.ee hb
 replace Bc := Bc.ee hb
 replace Bd := Bd.ee hb
 replace hw := upB hw hb
 clear hb
 obtain ⟨xa, ya, za, va⟩ := Ba.f
 obtain ⟨xb, yb, zb, vb⟩ := Bb.f
 obtain ⟨xc, yc, zc, vc⟩ := Bc.f
 obtain ⟨xd, yd, zd, vd⟩ := Bd.f
 go_wp2_with fail
 refine (cv _).mono ?_
 rintro e w3 ⟨rfl, hb⟩
 clear xa ya za va xb yb zb vb xc yc zc vc xd yd zd vd
 replace Ba := Ba.ee hb
 replace Bb := Bb.ee hb
 replace Bc := Bc.ee hb
 replace Bd := Bd.ee hb
 replace hw := upB hw hb
 clear hb
 obtain ⟨xa, ya, za, va⟩ := Ba.f
 obtain ⟨xb, yb, zb, vb⟩ := Bb.f
 obtain ⟨xc, yc, zc, vc⟩ := Bc.f
 obtain ⟨xd, yd, zd, vd⟩ := Bd.f
 go_wp2
 refine zA2 fun W4 hW => ?_
 replace hw : Below w.heap.size w W4 := by rw [hW]; exact hw
 replace Ba : Box W4 (w.heap.size) [.int .i64 a.x, .int .i64 a.y] 30 := by rw [hW]; exact Ba
 replace Bb : Box W4 (w.heap.size + 1) [.int .i64 b.x, .int .i64 b.y] 30 := by rw [hW]; exact Bb
 replace Bc : Box W4 (w.heap.size + 1 + 1) [.int .i64 c.x, .int .i64 c.y] 30 := by rw [hW]; exact Bc
 replace Bd : Box W4 (w.heap.size + 1 + 1 + 1) [.int .i64 d.x, .int .i64 d.y] 30 := by rw [hW]; exact Bd
 clear hW
 clear xa ya za va xb yb zb vb xc yc zc vc xd yd zd vd
 have ga := Ba.cells
 have gb := Bb.cells
 have gc := Bc.cells
 have gd := Bd.cells
 refine wp_region_tail 35 (by kernel_rfl) (by kernel_rfl) (C := fun w' => ∃ p : Regrown, w' = grow (redrawn W4 p.d) p.os) rgB ?_
 simp only [tK1, tK0, dP1, dP0]
 repeat (first | (refine zA0 (Eq.refl false) ?_; simp only [Act.put, sT2, sT1, sT0]) | (refine rWalk_step (fun K hK => ?_); go_simp; first | (refine hK _ ?_; clear hK K) | (apply Exists.intro; refine ⟨fun _ => ?_, hK _ ?_⟩; (first | fail); clear hK K)))
 refine rWalk_nil ?_
 intro w5 hb
 clear ga gb gc gd
 replace Ba := Ba.ee hb
 replace Bb := Bb.ee hb
 replace Bc := Bc.ee hb
 replace Bd := Bd.ee hb
 replace hw := upB hw hb
 clear ww1 ww2 ww3 ww4 ww5 ww6
 obtain ⟨xa, ya, za, va⟩ := Ba.f
 obtain ⟨xb, yb, zb, vb⟩ := Bb.f
 obtain ⟨xc, yc, zc, vc⟩ := Bc.f
 obtain ⟨xd, yd, zd, vd⟩ := Bd.f
 go_wp2_with fail
 refine (m1 _).mono ?_
 rintro e w6 ⟨rfl, hb⟩
 clear xa ya za va xb yb zb vb xc yc zc vc xd yd zd vd
 replace Ba := Ba.ee hb
 replace Bb := Bb.ee hb
 replace Bc := Bc.ee hb
 replace Bd := Bd.ee hb
 replace hw := upB hw hb
 clear hb
 obtain ⟨xa, ya, za, va⟩ := Ba.f
 obtain ⟨xb, yb, zb, vb⟩ := Bb.f
 obtain ⟨xc, yc, zc, vc⟩ := Bc.f
 obtain ⟨xd, yd, zd, vd⟩ := Bd.f
 go_wp2_with fail
 refine zA2 fun W7 hW => ?_
 obtain ⟨bkz, hbz⟩ : ∃ b, w6.heap.size = b := ⟨_, rfl⟩
 rw [hbz]
 have laz := Ba.lt
 rw [hbz] at laz
 have lbz := Bb.lt
 rw [hbz] at lbz
 have lcz := Bc.lt
 rw [hbz] at lcz
 have ldz := Bd.lt
 rw [hbz] at ldz
 have fz := hw.size
 rw [hbz] at fz
 have Bz : Box W7 bkz [.int .i64 H0, .int .u64 L0] 132 := by rw [hW]; exact Box.new hbz.symm
 replace Ba : Box W7 (w.heap.size) [.int .i64 a.x, .int .i64 a.y] 30 := by rw [hW]; exact Ba.old _
 replace Bb : Box W7 (w.heap.size + 1) [.int .i64 b.x, .int .i64 b.y] 30 := by rw [hW]; exact Bb.old _
 replace Bc : Box W7 (w.heap.size + 1 + 1) [.int .i64 c.x, .int .i64 c.y] 30 := by rw [hW]; exact Bc.old _
 replace Bd : Box W7 (w.heap.size + 1 + 1 + 1) [.int .i64 d.x, .int .i64 d.y] 30 := by rw [hW]; exact Bd.old _
 replace hw : Below w.heap.size w W7 := by have hl := hw.size; rw [hW]; go_grown
 clear hW hbz
 have rr0 : Hid (IntKind.i64.wrap (v.x * v.x) = v.x * v.x) := Lib.hid (by rw [IntKind.wrap_i64]; omega)
 have rr1 : Hid (IntKind.i64.wrap (v.y * v.y) = v.y * v.y) := Lib.hid (by rw [IntKind.wrap_i64]; omega)
 have rr2 : Hid (IntKind.i64.wrap (v.x * v.x + v.y * v.y) = v.x * v.x + v.y * v.y) := Lib.hid (by rw [IntKind.wrap_i64]; omega)
 have rr3 : Hid (IntKind.i64.wrap (u.x * z.y) = u.x * z.y) := Lib.hid (by rw [IntKind.wrap_i64]; omega)
 have rr4 : Hid (IntKind.i64.wrap (z.x * u.y) = z.x * u.y) := Lib.hid (by rw [IntKind.wrap_i64]; omega)
 have rr5 : Hid (IntKind.i64.wrap (u.x * z.y - z.x * u.y) = u.x * z.y - z.x * u.y) := Lib.hid (by rw [IntKind.wrap_i64]; omega)
 have qq0 := rr0.out
 clear rr0
 have qq1 := rr1.out
 clear rr1
 have qq2 := rr2.out
 clear rr2
 have qq3 := rr3.out
 clear rr3
 have qq4 := rr4.out
 clear rr4
 have qq5 := rr5.out
 clear rr5
 have ga := Ba.cells
 have gb := Bb.cells
 have gc := Bc.cells
 have gd := Bd.cells
 have gz := Bz.cells
 refine wp_region_tail 18 (by kernel_rfl) (by kernel_rfl) (C := fun w' => ∃ p : Regrown, w' = grow (redrawn W7 p.d) p.os) rgB ?_
 simp only [tK1, tK0, dP1, dP0]
 repeat (first | (refine zA0 (Eq.refl false) ?_; simp only [Act.put, sT2, sT1, sT0]) | (refine rWalk_step (fun K hK => ?_); go_simp; first | (refine hK _ ?_; clear hK K) | (apply Exists.intro; refine ⟨fun _ => ?_, hK _ ?_⟩; (first | with_reducible exact toExt m2 _ | with_reducible exact toExt n2 _ | with_reducible exact toExt s1 _); clear hK K)))
 refine rWalk_nil ?_
 intro w8 hb
 clear ga gb gc gd gz
 clear xa ya za va xb yb zb vb xc yc zc vc xd yd zd vd
 replace Ba := Ba.ee hb
 replace Bb := Bb.ee hb
 replace Bc := Bc.ee hb
 replace Bd := Bd.ee hb
 replace Bz := Bz.ee hb
 replace hw := upB hw hb
 clear qq0 qq1 qq2 qq3 qq4 qq5
 obtain ⟨xa, ya, za, va⟩ := Ba.f
 obtain ⟨xb, yb, zb, vb⟩ := Bb.f
 obtain ⟨xc, yc, zc, vc⟩ := Bc.f
 obtain ⟨xd, yd, zd, vd⟩ := Bd.f
 obtain ⟨xz, yz, zz, vz⟩ := Bz.f
 go_wp2_with fail
 refine zA2 fun W9 hW => ?_
 have Ca : Box W9 (w.heap.size) [.int .i64 a.x, .int .i64 a.y] 30 := by rw [hW]; exact ((Ba.sn bkz 0 (.int .i64 H2) (by first | assumption | omega)).sn bkz 1 (.int .u64 L2) (by first | assumption | omega))
 have Cb : Box W9 (w.heap.size + 1) [.int .i64 b.x, .int .i64 b.y] 30 := by rw [hW]; exact ((Bb.sn bkz 0 (.int .i64 H2) (by first | assumption | omega)).sn bkz 1 (.int .u64 L2) (by first | assumption | omega))
 have Cc : Box W9 (w.heap.size + 1 + 1) [.int .i64 c.x, .int .i64 c.y] 30 := by rw [hW]; exact ((Bc.sn bkz 0 (.int .i64 H2) (by first | assumption | omega)).sn bkz 1 (.int .u64 L2) (by first | assumption | omega))
 have Cd : Box W9 (w.heap.size + 1 + 1 + 1) [.int .i64 d.x, .int .i64 d.y] 30 := by rw [hW]; exact ((Bd.sn bkz 0 (.int .i64 H2) (by first | assumption | omega)).sn bkz 1 (.int .u64 L2) (by first | assumption | omega))
 have Cz : Box W9 (bkz) [.int .i64 H2, .int .u64 L2] 132 := by rw [hW]; exact ((Bz.set 0 (.int .i64 H2)).set 1 (.int .u64 L2))
 replace hw : Below w.heap.size w W9 := by have hl := hw.size; rw [hW]; go_grown
 clear xa ya za va xb yb zb vb xc yc zc vc xd yd zd vd xz yz zz vz
 clear hW Ba Bb Bc Bd Bz
 have Ba := Ca
 have Bb := Cb
 have Bc := Cc
 have Bd := Cd
 have Bz := Cz
 clear Ca Cb Cc Cd Cz
 have rr0 : Hid (IntKind.i64.wrap (z.x * z.x) = z.x * z.x) := Lib.hid (by rw [IntKind.wrap_i64]; omega)
 have rr1 : Hid (IntKind.i64.wrap (z.y * z.y) = z.y * z.y) := Lib.hid (by rw [IntKind.wrap_i64]; omega)
 have rr2 : Hid (IntKind.i64.wrap (z.x * z.x + z.y * z.y) = z.x * z.x + z.y * z.y) := Lib.hid (by rw [IntKind.wrap_i64]; omega)
 have rr3 : Hid (IntKind.i64.wrap (u.x * v.y) = u.x * v.y) := Lib.hid (by rw [IntKind.wrap_i64]; omega)
 have rr4 : Hid (IntKind.i64.wrap (v.x * u.y) = v.x * u.y) := Lib.hid (by rw [IntKind.wrap_i64]; omega)
 have rr5 : Hid (IntKind.i64.wrap (u.x * v.y - v.x * u.y) = u.x * v.y - v.x * u.y) := Lib.hid (by rw [IntKind.wrap_i64]; omega)
 have qq0 := rr0.out
 clear rr0
 have qq1 := rr1.out
 clear rr1
 have qq2 := rr2.out
 clear rr2
 have qq3 := rr3.out
 clear rr3
 have qq4 := rr4.out
 clear rr4
 have qq5 := rr5.out
 clear rr5
 have ga := Ba.cells
 have gb := Bb.cells
 have gc := Bc.cells
 have gd := Bd.cells
 have gz := Bz.cells
 refine wp_region_tail 17 (by kernel_rfl) (by kernel_rfl) (C := fun w' => ∃ p : Regrown, w' = grow (redrawn W9 p.d) p.os) rgB ?_
 simp only [tK1, tK0, dP1, dP0]
 repeat (first | (refine zA0 (Eq.refl false) ?_; simp only [Act.put, sT2, sT1, sT0]) | (refine rWalk_step (fun K hK => ?_); go_simp; first | (refine hK _ ?_; clear hK K) | (apply Exists.intro; refine ⟨fun _ => ?_, hK _ ?_⟩; (first | with_reducible exact toExt m3 _ | with_reducible exact toExt s2 _); clear hK K)))
 refine rWalk_nil ?_
 intro w10 hb
 clear ga gb gc gd gz
 replace Ba := Ba.ee hb
 replace Bb := Bb.ee hb
 replace Bc := Bc.ee hb
 replace Bd := Bd.ee hb
 replace Bz := Bz.ee hb
 replace hw := upB hw hb
 clear qq0 qq1 qq2 qq3 qq4 qq5 a1 a2 a3 a4 a5 a6 a7 a8 a9 a10 a11 a12 g1 g2 g3 g4 g5 g6
 obtain ⟨xa, ya, za, va⟩ := Ba.f
 obtain ⟨xb, yb, zb, vb⟩ := Bb.f
 obtain ⟨xc, yc, zc, vc⟩ := Bc.f
 obtain ⟨xd, yd, zd, vd⟩ := Bd.f
 obtain ⟨xz, yz, zz, vz⟩ := Bz.f
 go_wp2_with fail
 refine zA1 fun W11 hW => ?_
 have Ca : Box W11 (w.heap.size) [.int .i64 a.x, .int .i64 a.y] 30 := by rw [hW]; exact ((Ba.sn bkz 0 (.int .i64 H3) (by first | assumption | omega)).sn bkz 1 (.int .u64 L3) (by first | assumption | omega))
 have Cb : Box W11 (w.heap.size + 1) [.int .i64 b.x, .int .i64 b.y] 30 := by rw [hW]; exact ((Bb.sn bkz 0 (.int .i64 H3) (by first | assumption | omega)).sn bkz 1 (.int .u64 L3) (by first | assumption | omega))
 have Cc : Box W11 (w.heap.size + 1 + 1) [.int .i64 c.x, .int .i64 c.y] 30 := by rw [hW]; exact ((Bc.sn bkz 0 (.int .i64 H3) (by first | assumption | omega)).sn bkz 1 (.int .u64 L3) (by first | assumption | omega))
 have Cd : Box W11 (w.heap.size + 1 + 1 + 1) [.int .i64 d.x, .int .i64 d.y] 30 := by rw [hW]; exact ((Bd.sn bkz 0 (.int .i64 H3) (by first | assumption | omega)).sn bkz 1 (.int .u64 L3) (by first | assumption | omega))
 have Cz : Box W11 (bkz) [.int .i64 H3, .int .u64 L3] 132 := by rw [hW]; exact ((Bz.set 0 (.int .i64 H3)).set 1 (.int .u64 L3))
 replace hw : Below w.heap.size w W11 := by have hl := hw.size; rw [hW]; go_grown
 clear xa ya za va xb yb zb vb xc yc zc vc xd yd zd vd xz yz zz vz
 clear hW Ba Bb Bc Bd Bz
 have Ba := Ca
 have Bb := Cb
 have Bc := Cc
 have Bd := Cd
 have Bz := Cz
 clear Ca Cb Cc Cd Cz
 refine (s3 _).mono ?_
 rintro e w12 ⟨rfl, hb⟩
 replace Ba := Ba.ee hb
 replace Bb := Bb.ee hb
 replace Bc := Bc.ee hb
 replace Bd := Bd.ee hb
 replace Bz := Bz.ee hb
 replace hw := upB hw hb
 clear hb
 obtain ⟨xa, ya, za, va⟩ := Ba.f
 obtain ⟨xb, yb, zb, vb⟩ := Bb.f
 obtain ⟨xc, yc, zc, vc⟩ := Bc.f
 obtain ⟨xd, yd, zd, vd⟩ := Bd.f
 obtain ⟨xz, yz, zz, vz⟩ := Bz.f
 go_wp2_with fail
 refine zA1 fun W13 hW => ?_
 obtain ⟨bkx, hbx⟩ : ∃ b, w12.heap.size = b := ⟨_, rfl⟩
 rw [hbx]
 have lax := Ba.lt
 rw [hbx] at lax
 have lbx := Bb.lt
 rw [hbx] at lbx
 have lcx := Bc.lt
 rw [hbx] at lcx
 have ldx := Bd.lt
 rw [hbx] at ldx
 have lzx := Bz.lt
 rw [hbx] at lzx
 have fx := hw.size
 rw [hbx] at fx
 have Bx : Box W13 bkx [.int .i64 d.x, .int .i64 d.y] 30 := by rw [hW]; exact Box.new hbx.symm
 replace Ba : Box W13 (w.heap.size) [.int .i64 a.x, .int .i64 a.y] 30 := by rw [hW]; exact Ba.old _
 replace Bb : Box W13 (w.heap.size + 1) [.int .i64 b.x, .int .i64 b.y] 30 := by rw [hW]; exact Bb.old _
 replace Bc : Box W13 (w.heap.size + 1 + 1) [.int .i64 c.x, .int .i64 c.y] 30 := by rw [hW]; exact Bc.old _
 replace Bd : Box W13 (w.heap.size + 1 + 1 + 1) [.int .i64 d.x, .int .i64 d.y] 30 := by rw [hW]; exact Bd.old _
 replace Bz : Box W13 (bkz) [.int .i64 H3, .int .u64 L3] 132 := by rw [hW]; exact Bz.old _
 replace hw : Below w.heap.size w W13 := by have hl := hw.size; rw [hW]; go_grown
 clear hW hbx
 obtain ⟨xa, ya, za, va⟩ := Ba.f
 obtain ⟨xb, yb, zb, vb⟩ := Bb.f
 obtain ⟨xc, yc, zc, vc⟩ := Bc.f
 obtain ⟨xd, yd, zd, vd⟩ := Bd.f
 obtain ⟨xz, yz, zz, vz⟩ := Bz.f
 obtain ⟨xx, yx, zx, vx⟩ := Bx.f
 have kc := zAb a d
 have L1 : Hid (lsr a d = if cmpP a d < 0 then a else d) := Lib.hid rfl
 generalize cmpP a d = k0 at *
 refine (kc _).mono ?_
 rintro e w14 ⟨rfl, hb⟩
 clear xa ya za va xb yb zb vb xc yc zc vc xd yd zd vd xz yz zz vz xx yx zx vx
 replace Ba := Ba.ee hb
 replace Bb := Bb.ee hb
 replace Bc := Bc.ee hb
 replace Bd := Bd.ee hb
 replace Bz := Bz.ee hb
 replace Bx := Bx.ee hb
 replace hw := upB hw hb
 clear hb
 by_cases hk0 : k0 < 0
 ·have t2 : decide (k0 < 0) = true := by simpa using hk0
  have M0 : lsr a d = a := by rw [L1.out]; exact if_pos hk0
  have N0 := Lib.hid M0
  clear M0 L1
  obtain ⟨xa, ya, za, va⟩ := Ba.f
  obtain ⟨xb, yb, zb, vb⟩ := Bb.f
  obtain ⟨xc, yc, zc, vc⟩ := Bc.f
  obtain ⟨xd, yd, zd, vd⟩ := Bd.f
  obtain ⟨xz, yz, zz, vz⟩ := Bz.f
  obtain ⟨xx, yx, zx, vx⟩ := Bx.f
  go_wp2_with fail
  refine zA1 fun W15 hW => ?_
  have Ca : Box W15 (w.heap.size) [.int .i64 a.x, .int .i64 a.y] 30 := by rw [hW]; exact ((Ba.sn bkx 0 (.int .i64 a.x) (by first | assumption | omega)).sn bkx 1 (.int .i64 a.y) (by first | assumption | omega))
  have Cb : Box W15 (w.heap.size + 1) [.int .i64 b.x, .int .i64 b.y] 30 := by rw [hW]; exact ((Bb.sn bkx 0 (.int .i64 a.x) (by first | assumption | omega)).sn bkx 1 (.int .i64 a.y) (by first | assumption | omega))
  have Cc : Box W15 (w.heap.size + 1 + 1) [.int .i64 c.x, .int .i64 c.y] 30 := by rw [hW]; exact ((Bc.sn bkx 0 (.int .i64 a.x) (by first | assumption | omega)).sn bkx 1 (.int .i64 a.y) (by first | assumption | omega))
  have Cd : Box W15 (w.heap.size + 1 + 1 + 1) [.int .i64 d.x, .int .i64 d.y] 30 := by rw [hW]; exact ((Bd.sn bkx 0 (.int .i64 a.x) (by first | assumption | omega)).sn bkx 1 (.int .i64 a.y) (by first | assumption | omega))
  have Cz : Box W15 (bkz) [.int .i64 H3, .int .u64 L3] 132 := by rw [hW]; exact ((Bz.sn bkx 0 (.int .i64 a.x) (by first | assumption | omega)).sn bkx 1 (.int .i64 a.y) (by first | assumption | omega))
  have Cx : Box W15 (bkx) [.int .i64 a.x, .int .i64 a.y] 30 := by rw [hW]; exact ((Bx.set 0 (.int .i64 a.x)).set 1 (.int .i64 a.y))
  replace hw : Below w.heap.size w W15 := by have hl := hw.size; rw [hW]; go_grown
  clear xa ya za va xb yb zb vb xc yc zc vc xd yd zd vd xz yz zz vz xx yx zx vx
  clear hW Ba Bb Bc Bd Bz Bx
  have Ba := Ca
  have Bb := Cb
  have Bc := Cc
  have Bd := Cd
  have Bz := Cz
  have Bx := Cx
  clear Ca Cb Cc Cd Cz Cx
  obtain ⟨xa, ya, za, va⟩ := Ba.f
  obtain ⟨xb, yb, zb, vb⟩ := Bb.f
  obtain ⟨xc, yc, zc, vc⟩ := Bc.f
  obtain ⟨xd, yd, zd, vd⟩ := Bd.f
  obtain ⟨xz, yz, zz, vz⟩ := Bz.f
  obtain ⟨xx, yx, zx, vx⟩ := Bx.f
  have kc := zAb b a
  have L1 : Hid (lsr b a = if cmpP b a < 0 then b else a) := Lib.hid rfl
  generalize cmpP b a = k1 at *
  refine (kc _).mono ?_
  rintro e w16 ⟨rfl, hb⟩
  clear xa ya za va xb yb zb vb xc yc zc vc xd yd zd vd xz yz zz vz xx yx zx vx
  replace Ba := Ba.ee hb
  replace Bb := Bb.ee hb
  replace Bc := Bc.ee hb
  replace Bd := Bd.ee hb
  replace Bz := Bz.ee hb
  replace Bx := Bx.ee hb
  replace hw := upB hw hb
  clear hb
  by_cases hk1 : k1 < 0
  ·have t3 : decide (k1 < 0) = true := by simpa using hk1
   have M1 : lsr b a = b := by rw [L1.out]; exact if_pos hk1
   have N1 := Lib.hid M1
   clear M1 L1
   obtain ⟨xa, ya, za, va⟩ := Ba.f
   obtain ⟨xb, yb, zb, vb⟩ := Bb.f
   obtain ⟨xc, yc, zc, vc⟩ := Bc.f
   obtain ⟨xd, yd, zd, vd⟩ := Bd.f
   obtain ⟨xz, yz, zz, vz⟩ := Bz.f
   obtain ⟨xx, yx, zx, vx⟩ := Bx.f
   go_wp2_with fail
   refine zA1 fun W17 hW => ?_
   have Ca : Box W17 (w.heap.size) [.int .i64 a.x, .int .i64 a.y] 30 := by rw [hW]; exact ((Ba.sn bkx 0 (.int .i64 b.x) (by first | assumption | omega)).sn bkx 1 (.int .i64 b.y) (by first | assumption | omega))
   have Cb : Box W17 (w.heap.size + 1) [.int .i64 b.x, .int .i64 b.y] 30 := by rw [hW]; exact ((Bb.sn bkx 0 (.int .i64 b.x) (by first | assumption | omega)).sn bkx 1 (.int .i64 b.y) (by first | assumption | omega))
   have Cc : Box W17 (w.heap.size + 1 + 1) [.int .i64 c.x, .int .i64 c.y] 30 := by rw [hW]; exact ((Bc.sn bkx 0 (.int .i64 b.x) (by first | assumption | omega)).sn bkx 1 (.int .i64 b.y) (by first | assumption | omega))
   have Cd : Box W17 (w.heap.size + 1 + 1 + 1) [.int .i64 d.x, .int .i64 d.y] 30 := by rw [hW]; exact ((Bd.sn bkx 0 (.int .i64 b.x) (by first | assumption | omega)).sn bkx 1 (.int .i64 b.y) (by first | assumption | omega))
   have Cz : Box W17 (bkz) [.int .i64 H3, .int .u64 L3] 132 := by rw [hW]; exact ((Bz.sn bkx 0 (.int .i64 b.x) (by first | assumption | omega)).sn bkx 1 (.int .i64 b.y) (by first | assumption | omega))
   have Cx : Box W17 (bkx) [.int .i64 b.x, .int .i64 b.y] 30 := by rw [hW]; exact ((Bx.set 0 (.int .i64 b.x)).set 1 (.int .i64 b.y))
   replace hw : Below w.heap.size w W17 := by have hl := hw.size; rw [hW]; go_grown
   clear xa ya za va xb yb zb vb xc yc zc vc xd yd zd vd xz yz zz vz xx yx zx vx
   clear hW Ba Bb Bc Bd Bz Bx
   have Ba := Ca
   have Bb := Cb
   have Bc := Cc
   have Bd := Cd
   have Bz := Cz
   have Bx := Cx
   clear Ca Cb Cc Cd Cz Cx
   obtain ⟨xa, ya, za, va⟩ := Ba.f
   obtain ⟨xb, yb, zb, vb⟩ := Bb.f
   obtain ⟨xc, yc, zc, vc⟩ := Bc.f
   obtain ⟨xd, yd, zd, vd⟩ := Bd.f
   obtain ⟨xz, yz, zz, vz⟩ := Bz.f
   obtain ⟨xx, yx, zx, vx⟩ := Bx.f
   have kc := zAb c b
   have L1 : Hid (lsr c b = if cmpP c b < 0 then c else b) := Lib.hid rfl
   generalize cmpP c b = k2 at *
   refine (kc _).mono ?_
   rintro e w18 ⟨rfl, hb⟩
   clear xa ya za va xb yb zb vb xc yc zc vc xd yd zd vd xz yz zz vz xx yx zx vx
   replace Ba := Ba.ee hb
   replace Bb := Bb.ee hb
   replace Bc := Bc.ee hb
   replace Bd := Bd.ee hb
   replace Bz := Bz.ee hb
   replace Bx := Bx.ee hb
   replace hw := upB hw hb
   clear hb
   by_cases hk2 : k2 < 0
   ·have t4 : decide (k2 < 0) = true := by simpa using hk2
    have M2 : lsr c b = c := by rw [L1.out]; exact if_pos hk2
    have N2 := Lib.hid M2
    clear M2 L1
    obtain ⟨xa, ya, za, va⟩ := Ba.f
    obtain ⟨xb, yb, zb, vb⟩ := Bb.f
    obtain ⟨xc, yc, zc, vc⟩ := Bc.f
    obtain ⟨xd, yd, zd, vd⟩ := Bd.f
    obtain ⟨xz, yz, zz, vz⟩ := Bz.f
    obtain ⟨xx, yx, zx, vx⟩ := Bx.f
    go_wp2_with fail
    refine zA1 fun W19 hW => ?_
    have Ca : Box W19 (w.heap.size) [.int .i64 a.x, .int .i64 a.y] 30 := by rw [hW]; exact ((Ba.sn bkx 0 (.int .i64 c.x) (by first | assumption | omega)).sn bkx 1 (.int .i64 c.y) (by first | assumption | omega))
    have Cb : Box W19 (w.heap.size + 1) [.int .i64 b.x, .int .i64 b.y] 30 := by rw [hW]; exact ((Bb.sn bkx 0 (.int .i64 c.x) (by first | assumption | omega)).sn bkx 1 (.int .i64 c.y) (by first | assumption | omega))
    have Cc : Box W19 (w.heap.size + 1 + 1) [.int .i64 c.x, .int .i64 c.y] 30 := by rw [hW]; exact ((Bc.sn bkx 0 (.int .i64 c.x) (by first | assumption | omega)).sn bkx 1 (.int .i64 c.y) (by first | assumption | omega))
    have Cd : Box W19 (w.heap.size + 1 + 1 + 1) [.int .i64 d.x, .int .i64 d.y] 30 := by rw [hW]; exact ((Bd.sn bkx 0 (.int .i64 c.x) (by first | assumption | omega)).sn bkx 1 (.int .i64 c.y) (by first | assumption | omega))
    have Cz : Box W19 (bkz) [.int .i64 H3, .int .u64 L3] 132 := by rw [hW]; exact ((Bz.sn bkx 0 (.int .i64 c.x) (by first | assumption | omega)).sn bkx 1 (.int .i64 c.y) (by first | assumption | omega))
    have Cx : Box W19 (bkx) [.int .i64 c.x, .int .i64 c.y] 30 := by rw [hW]; exact ((Bx.set 0 (.int .i64 c.x)).set 1 (.int .i64 c.y))
    replace hw : Below w.heap.size w W19 := by have hl := hw.size; rw [hW]; go_grown
    clear xa ya za va xb yb zb vb xc yc zc vc xd yd zd vd xz yz zz vz xx yx zx vx
    clear hW Ba Bb Bc Bd Bz Bx
    have Ba := Ca
    have Bb := Cb
    have Bc := Cc
    have Bd := Cd
    have Bz := Cz
    have Bx := Cx
    clear Ca Cb Cc Cd Cz Cx
    obtain ⟨xa, ya, za, va⟩ := Ba.f
    obtain ⟨xb, yb, zb, vb⟩ := Bb.f
    obtain ⟨xc, yc, zc, vc⟩ := Bc.f
    obtain ⟨xd, yd, zd, vd⟩ := Bd.f
    obtain ⟨xz, yz, zz, vz⟩ := Bz.f
    obtain ⟨xx, yx, zx, vx⟩ := Bx.f
    obtain ⟨xa, ya, za, va⟩ := Ba.f
    obtain ⟨xb, yb, zb, vb⟩ := Bb.f
    obtain ⟨xc, yc, zc, vc⟩ := Bc.f
    obtain ⟨xd, yd, zd, vd⟩ := Bd.f
    obtain ⟨xz, yz, zz, vz⟩ := Bz.f
    obtain ⟨xx, yx, zx, vx⟩ := Bx.f
    have co2 := zA7 a b d
    have bo2 := zBz a b d
    have E : Hid (tie a b c d (lsr c (lsr b (lsr a d))) 1 = -ori a b d) := Lib.hid (by rw [N0.out]; rw [N1.out]; rw [N2.out]; simp [tie, f3, d2, d3])
    generalize ori a b d = o2 at *
    go_wp2_with fail
    refine (co2 _).mono ?_
    rintro e w20 ⟨rfl, hb⟩
    clear xa ya za va xb yb zb vb xc yc zc vc xd yd zd vd xz yz zz vz xx yx zx vx
    replace Ba := Ba.ee hb
    replace Bb := Bb.ee hb
    replace Bc := Bc.ee hb
    replace Bd := Bd.ee hb
    replace Bz := Bz.ee hb
    replace Bx := Bx.ee hb
    replace hw := upB hw hb
    clear hb
    go_wp2
    go_ret
    exact ⟨zAl (by rw [E.out]), hw⟩
   ·have t4 : decide (k2 < 0) = false := by simpa using hk2
    have M2 : lsr c b = b := by rw [L1.out]; exact if_neg hk2
    have N2 := Lib.hid M2
    clear M2 L1
    obtain ⟨xa, ya, za, va⟩ := Ba.f
    obtain ⟨xb, yb, zb, vb⟩ := Bb.f
    obtain ⟨xc, yc, zc, vc⟩ := Bc.f
    obtain ⟨xd, yd, zd, vd⟩ := Bd.f
    obtain ⟨xz, yz, zz, vz⟩ := Bz.f
    obtain ⟨xx, yx, zx, vx⟩ := Bx.f
    go_wp2_with fail
    obtain ⟨xa, ya, za, va⟩ := Ba.f
    obtain ⟨xb, yb, zb, vb⟩ := Bb.f
    obtain ⟨xc, yc, zc, vc⟩ := Bc.f
    obtain ⟨xd, yd, zd, vd⟩ := Bd.f
    obtain ⟨xz, yz, zz, vz⟩ := Bz.f
    obtain ⟨xx, yx, zx, vx⟩ := Bx.f
    have co2 := zA7 a d c
    have bo2 := zBz a d c
    have E : Hid (tie a b c d (lsr c (lsr b (lsr a d))) 1 = -ori a d c) := Lib.hid (by rw [N0.out]; rw [N1.out]; rw [N2.out]; simp [tie, f2, d1, i2])
    generalize ori a d c = o2 at *
    go_wp2_with fail
    refine (co2 _).mono ?_
    rintro e w19 ⟨rfl, hb⟩
    clear xa ya za va xb yb zb vb xc yc zc vc xd yd zd vd xz yz zz vz xx yx zx vx
    replace Ba := Ba.ee hb
    replace Bb := Bb.ee hb
    replace Bc := Bc.ee hb
    replace Bd := Bd.ee hb
    replace Bz := Bz.ee hb
    replace Bx := Bx.ee hb
    replace hw := upB hw hb
    clear hb
    go_wp2
    go_ret
    exact ⟨zAl (by rw [E.out]), hw⟩
  ·have t3 : decide (k1 < 0) = false := by simpa using hk1
   have M1 : lsr b a = a := by rw [L1.out]; exact if_neg hk1
   have N1 := Lib.hid M1
   clear M1 L1
   obtain ⟨xa, ya, za, va⟩ := Ba.f
   obtain ⟨xb, yb, zb, vb⟩ := Bb.f
   obtain ⟨xc, yc, zc, vc⟩ := Bc.f
   obtain ⟨xd, yd, zd, vd⟩ := Bd.f
   obtain ⟨xz, yz, zz, vz⟩ := Bz.f
   obtain ⟨xx, yx, zx, vx⟩ := Bx.f
   go_wp2_with fail
   have kc := zAb c a
   have L1 : Hid (lsr c a = if cmpP c a < 0 then c else a) := Lib.hid rfl
   generalize cmpP c a = k2 at *
   refine (kc _).mono ?_
   rintro e w17 ⟨rfl, hb⟩
   clear xa ya za va xb yb zb vb xc yc zc vc xd yd zd vd xz yz zz vz xx yx zx vx
   replace Ba := Ba.ee hb
   replace Bb := Bb.ee hb
   replace Bc := Bc.ee hb
   replace Bd := Bd.ee hb
   replace Bz := Bz.ee hb
   replace Bx := Bx.ee hb
   replace hw := upB hw hb
   clear hb
   by_cases hk2 : k2 < 0
   ·have t4 : decide (k2 < 0) = true := by simpa using hk2
    have M2 : lsr c a = c := by rw [L1.out]; exact if_pos hk2
    have N2 := Lib.hid M2
    clear M2 L1
    obtain ⟨xa, ya, za, va⟩ := Ba.f
    obtain ⟨xb, yb, zb, vb⟩ := Bb.f
    obtain ⟨xc, yc, zc, vc⟩ := Bc.f
    obtain ⟨xd, yd, zd, vd⟩ := Bd.f
    obtain ⟨xz, yz, zz, vz⟩ := Bz.f
    obtain ⟨xx, yx, zx, vx⟩ := Bx.f
    go_wp2_with fail
    refine zA1 fun W18 hW => ?_
    have Ca : Box W18 (w.heap.size) [.int .i64 a.x, .int .i64 a.y] 30 := by rw [hW]; exact ((Ba.sn bkx 0 (.int .i64 c.x) (by first | assumption | omega)).sn bkx 1 (.int .i64 c.y) (by first | assumption | omega))
    have Cb : Box W18 (w.heap.size + 1) [.int .i64 b.x, .int .i64 b.y] 30 := by rw [hW]; exact ((Bb.sn bkx 0 (.int .i64 c.x) (by first | assumption | omega)).sn bkx 1 (.int .i64 c.y) (by first | assumption | omega))
    have Cc : Box W18 (w.heap.size + 1 + 1) [.int .i64 c.x, .int .i64 c.y] 30 := by rw [hW]; exact ((Bc.sn bkx 0 (.int .i64 c.x) (by first | assumption | omega)).sn bkx 1 (.int .i64 c.y) (by first | assumption | omega))
    have Cd : Box W18 (w.heap.size + 1 + 1 + 1) [.int .i64 d.x, .int .i64 d.y] 30 := by rw [hW]; exact ((Bd.sn bkx 0 (.int .i64 c.x) (by first | assumption | omega)).sn bkx 1 (.int .i64 c.y) (by first | assumption | omega))
    have Cz : Box W18 (bkz) [.int .i64 H3, .int .u64 L3] 132 := by rw [hW]; exact ((Bz.sn bkx 0 (.int .i64 c.x) (by first | assumption | omega)).sn bkx 1 (.int .i64 c.y) (by first | assumption | omega))
    have Cx : Box W18 (bkx) [.int .i64 c.x, .int .i64 c.y] 30 := by rw [hW]; exact ((Bx.set 0 (.int .i64 c.x)).set 1 (.int .i64 c.y))
    replace hw : Below w.heap.size w W18 := by have hl := hw.size; rw [hW]; go_grown
    clear xa ya za va xb yb zb vb xc yc zc vc xd yd zd vd xz yz zz vz xx yx zx vx
    clear hW Ba Bb Bc Bd Bz Bx
    have Ba := Ca
    have Bb := Cb
    have Bc := Cc
    have Bd := Cd
    have Bz := Cz
    have Bx := Cx
    clear Ca Cb Cc Cd Cz Cx
    obtain ⟨xa, ya, za, va⟩ := Ba.f
    obtain ⟨xb, yb, zb, vb⟩ := Bb.f
    obtain ⟨xc, yc, zc, vc⟩ := Bc.f
    obtain ⟨xd, yd, zd, vd⟩ := Bd.f
    obtain ⟨xz, yz, zz, vz⟩ := Bz.f
    obtain ⟨xx, yx, zx, vx⟩ := Bx.f
    obtain ⟨xa, ya, za, va⟩ := Ba.f
    obtain ⟨xb, yb, zb, vb⟩ := Bb.f
    obtain ⟨xc, yc, zc, vc⟩ := Bc.f
    obtain ⟨xd, yd, zd, vd⟩ := Bd.f
    obtain ⟨xz, yz, zz, vz⟩ := Bz.f
    obtain ⟨xx, yx, zx, vx⟩ := Bx.f
    have co2 := zA7 a b d
    have bo2 := zBz a b d
    have E : Hid (tie a b c d (lsr c (lsr b (lsr a d))) 1 = -ori a b d) := Lib.hid (by rw [N0.out]; rw [N1.out]; rw [N2.out]; simp [tie, f3, d2, d3])
    generalize ori a b d = o2 at *
    go_wp2_with fail
    refine (co2 _).mono ?_
    rintro e w19 ⟨rfl, hb⟩
    clear xa ya za va xb yb zb vb xc yc zc vc xd yd zd vd xz yz zz vz xx yx zx vx
    replace Ba := Ba.ee hb
    replace Bb := Bb.ee hb
    replace Bc := Bc.ee hb
    replace Bd := Bd.ee hb
    replace Bz := Bz.ee hb
    replace Bx := Bx.ee hb
    replace hw := upB hw hb
    clear hb
    go_wp2
    go_ret
    exact ⟨zAl (by rw [E.out]), hw⟩
   ·have t4 : decide (k2 < 0) = false := by simpa using hk2
    have M2 : lsr c a = a := by rw [L1.out]; exact if_neg hk2
    have N2 := Lib.hid M2
    clear M2 L1
    obtain ⟨xa, ya, za, va⟩ := Ba.f
    obtain ⟨xb, yb, zb, vb⟩ := Bb.f
    obtain ⟨xc, yc, zc, vc⟩ := Bc.f
    obtain ⟨xd, yd, zd, vd⟩ := Bd.f
    obtain ⟨xz, yz, zz, vz⟩ := Bz.f
    obtain ⟨xx, yx, zx, vx⟩ := Bx.f
    go_wp2_with fail
    obtain ⟨xa, ya, za, va⟩ := Ba.f
    obtain ⟨xb, yb, zb, vb⟩ := Bb.f
    obtain ⟨xc, yc, zc, vc⟩ := Bc.f
    obtain ⟨xd, yd, zd, vd⟩ := Bd.f
    obtain ⟨xz, yz, zz, vz⟩ := Bz.f
    obtain ⟨xx, yx, zx, vx⟩ := Bx.f
    have co2 := zA7 d b c
    have bo2 := zBz d b c
    have E : Hid (tie a b c d (lsr c (lsr b (lsr a d))) 1 = -ori d b c) := Lib.hid (by rw [N0.out]; rw [N1.out]; rw [N2.out]; simp [tie, f1, i1])
    generalize ori d b c = o2 at *
    go_wp2_with fail
    refine (co2 _).mono ?_
    rintro e w18 ⟨rfl, hb⟩
    clear xa ya za va xb yb zb vb xc yc zc vc xd yd zd vd xz yz zz vz xx yx zx vx
    replace Ba := Ba.ee hb
    replace Bb := Bb.ee hb
    replace Bc := Bc.ee hb
    replace Bd := Bd.ee hb
    replace Bz := Bz.ee hb
    replace Bx := Bx.ee hb
    replace hw := upB hw hb
    clear hb
    go_wp2
    go_ret
    exact ⟨zAl (by rw [E.out]), hw⟩
 ·have t2 : decide (k0 < 0) = false := by simpa using hk0
  have M0 : lsr a d = d := by rw [L1.out]; exact if_neg hk0
  have N0 := Lib.hid M0
  clear M0 L1
  obtain ⟨xa, ya, za, va⟩ := Ba.f
  obtain ⟨xb, yb, zb, vb⟩ := Bb.f
  obtain ⟨xc, yc, zc, vc⟩ := Bc.f
  obtain ⟨xd, yd, zd, vd⟩ := Bd.f
  obtain ⟨xz, yz, zz, vz⟩ := Bz.f
  obtain ⟨xx, yx, zx, vx⟩ := Bx.f
  go_wp2_with fail
  have kc := zAb b d
  have L1 : Hid (lsr b d = if cmpP b d < 0 then b else d) := Lib.hid rfl
  generalize cmpP b d = k1 at *
  refine (kc _).mono ?_
  rintro e w15 ⟨rfl, hb⟩
  clear xa ya za va xb yb zb vb xc yc zc vc xd yd zd vd xz yz zz vz xx yx zx vx
  replace Ba := Ba.ee hb
  replace Bb := Bb.ee hb
  replace Bc := Bc.ee hb
  replace Bd := Bd.ee hb
  replace Bz := Bz.ee hb
  replace Bx := Bx.ee hb
  replace hw := upB hw hb
  clear hb
  by_cases hk1 : k1 < 0
  ·have t3 : decide (k1 < 0) = true := by simpa using hk1
   have M1 : lsr b d = b := by rw [L1.out]; exact if_pos hk1
   have N1 := Lib.hid M1
   clear M1 L1
   obtain ⟨xa, ya, za, va⟩ := Ba.f
   obtain ⟨xb, yb, zb, vb⟩ := Bb.f
   obtain ⟨xc, yc, zc, vc⟩ := Bc.f
   obtain ⟨xd, yd, zd, vd⟩ := Bd.f
   obtain ⟨xz, yz, zz, vz⟩ := Bz.f
   obtain ⟨xx, yx, zx, vx⟩ := Bx.f
   go_wp2_with fail
   refine zA1 fun W16 hW => ?_
   have Ca : Box W16 (w.heap.size) [.int .i64 a.x, .int .i64 a.y] 30 := by rw [hW]; exact ((Ba.sn bkx 0 (.int .i64 b.x) (by first | assumption | omega)).sn bkx 1 (.int .i64 b.y) (by first | assumption | omega))
   have Cb : Box W16 (w.heap.size + 1) [.int .i64 b.x, .int .i64 b.y] 30 := by rw [hW]; exact ((Bb.sn bkx 0 (.int .i64 b.x) (by first | assumption | omega)).sn bkx 1 (.int .i64 b.y) (by first | assumption | omega))
   have Cc : Box W16 (w.heap.size + 1 + 1) [.int .i64 c.x, .int .i64 c.y] 30 := by rw [hW]; exact ((Bc.sn bkx 0 (.int .i64 b.x) (by first | assumption | omega)).sn bkx 1 (.int .i64 b.y) (by first | assumption | omega))
   have Cd : Box W16 (w.heap.size + 1 + 1 + 1) [.int .i64 d.x, .int .i64 d.y] 30 := by rw [hW]; exact ((Bd.sn bkx 0 (.int .i64 b.x) (by first | assumption | omega)).sn bkx 1 (.int .i64 b.y) (by first | assumption | omega))
   have Cz : Box W16 (bkz) [.int .i64 H3, .int .u64 L3] 132 := by rw [hW]; exact ((Bz.sn bkx 0 (.int .i64 b.x) (by first | assumption | omega)).sn bkx 1 (.int .i64 b.y) (by first | assumption | omega))
   have Cx : Box W16 (bkx) [.int .i64 b.x, .int .i64 b.y] 30 := by rw [hW]; exact ((Bx.set 0 (.int .i64 b.x)).set 1 (.int .i64 b.y))
   replace hw : Below w.heap.size w W16 := by have hl := hw.size; rw [hW]; go_grown
   clear xa ya za va xb yb zb vb xc yc zc vc xd yd zd vd xz yz zz vz xx yx zx vx
   clear hW Ba Bb Bc Bd Bz Bx
   have Ba := Ca
   have Bb := Cb
   have Bc := Cc
   have Bd := Cd
   have Bz := Cz
   have Bx := Cx
   clear Ca Cb Cc Cd Cz Cx
   obtain ⟨xa, ya, za, va⟩ := Ba.f
   obtain ⟨xb, yb, zb, vb⟩ := Bb.f
   obtain ⟨xc, yc, zc, vc⟩ := Bc.f
   obtain ⟨xd, yd, zd, vd⟩ := Bd.f
   obtain ⟨xz, yz, zz, vz⟩ := Bz.f
   obtain ⟨xx, yx, zx, vx⟩ := Bx.f
   have kc := zAb c b
   have L1 : Hid (lsr c b = if cmpP c b < 0 then c else b) := Lib.hid rfl
   generalize cmpP c b = k2 at *
   refine (kc _).mono ?_
   rintro e w17 ⟨rfl, hb⟩
   clear xa ya za va xb yb zb vb xc yc zc vc xd yd zd vd xz yz zz vz xx yx zx vx
   replace Ba := Ba.ee hb
   replace Bb := Bb.ee hb
   replace Bc := Bc.ee hb
   replace Bd := Bd.ee hb
   replace Bz := Bz.ee hb
   replace Bx := Bx.ee hb
   replace hw := upB hw hb
   clear hb
   by_cases hk2 : k2 < 0
   ·have t4 : decide (k2 < 0) = true := by simpa using hk2
    have M2 : lsr c b = c := by rw [L1.out]; exact if_pos hk2
    have N2 := Lib.hid M2
    clear M2 L1
    obtain ⟨xa, ya, za, va⟩ := Ba.f
    obtain ⟨xb, yb, zb, vb⟩ := Bb.f
    obtain ⟨xc, yc, zc, vc⟩ := Bc.f
    obtain ⟨xd, yd, zd, vd⟩ := Bd.f
    obtain ⟨xz, yz, zz, vz⟩ := Bz.f
    obtain ⟨xx, yx, zx, vx⟩ := Bx.f
    go_wp2_with fail
    refine zA1 fun W18 hW => ?_
    have Ca : Box W18 (w.heap.size) [.int .i64 a.x, .int .i64 a.y] 30 := by rw [hW]; exact ((Ba.sn bkx 0 (.int .i64 c.x) (by first | assumption | omega)).sn bkx 1 (.int .i64 c.y) (by first | assumption | omega))
    have Cb : Box W18 (w.heap.size + 1) [.int .i64 b.x, .int .i64 b.y] 30 := by rw [hW]; exact ((Bb.sn bkx 0 (.int .i64 c.x) (by first | assumption | omega)).sn bkx 1 (.int .i64 c.y) (by first | assumption | omega))
    have Cc : Box W18 (w.heap.size + 1 + 1) [.int .i64 c.x, .int .i64 c.y] 30 := by rw [hW]; exact ((Bc.sn bkx 0 (.int .i64 c.x) (by first | assumption | omega)).sn bkx 1 (.int .i64 c.y) (by first | assumption | omega))
    have Cd : Box W18 (w.heap.size + 1 + 1 + 1) [.int .i64 d.x, .int .i64 d.y] 30 := by rw [hW]; exact ((Bd.sn bkx 0 (.int .i64 c.x) (by first | assumption | omega)).sn bkx 1 (.int .i64 c.y) (by first | assumption | omega))
    have Cz : Box W18 (bkz) [.int .i64 H3, .int .u64 L3] 132 := by rw [hW]; exact ((Bz.sn bkx 0 (.int .i64 c.x) (by first | assumption | omega)).sn bkx 1 (.int .i64 c.y) (by first | assumption | omega))
    have Cx : Box W18 (bkx) [.int .i64 c.x, .int .i64 c.y] 30 := by rw [hW]; exact ((Bx.set 0 (.int .i64 c.x)).set 1 (.int .i64 c.y))
    replace hw : Below w.heap.size w W18 := by have hl := hw.size; rw [hW]; go_grown
    clear xa ya za va xb yb zb vb xc yc zc vc xd yd zd vd xz yz zz vz xx yx zx vx
    clear hW Ba Bb Bc Bd Bz Bx
    have Ba := Ca
    have Bb := Cb
    have Bc := Cc
    have Bd := Cd
    have Bz := Cz
    have Bx := Cx
    clear Ca Cb Cc Cd Cz Cx
    obtain ⟨xa, ya, za, va⟩ := Ba.f
    obtain ⟨xb, yb, zb, vb⟩ := Bb.f
    obtain ⟨xc, yc, zc, vc⟩ := Bc.f
    obtain ⟨xd, yd, zd, vd⟩ := Bd.f
    obtain ⟨xz, yz, zz, vz⟩ := Bz.f
    obtain ⟨xx, yx, zx, vx⟩ := Bx.f
    obtain ⟨xa, ya, za, va⟩ := Ba.f
    obtain ⟨xb, yb, zb, vb⟩ := Bb.f
    obtain ⟨xc, yc, zc, vc⟩ := Bc.f
    obtain ⟨xd, yd, zd, vd⟩ := Bd.f
    obtain ⟨xz, yz, zz, vz⟩ := Bz.f
    obtain ⟨xx, yx, zx, vx⟩ := Bx.f
    have co2 := zA7 a b d
    have bo2 := zBz a b d
    have E : Hid (tie a b c d (lsr c (lsr b (lsr a d))) 1 = -ori a b d) := Lib.hid (by rw [N0.out]; rw [N1.out]; rw [N2.out]; simp [tie, f3, d2, d3])
    generalize ori a b d = o2 at *
    go_wp2_with fail
    refine (co2 _).mono ?_
    rintro e w19 ⟨rfl, hb⟩
    clear xa ya za va xb yb zb vb xc yc zc vc xd yd zd vd xz yz zz vz xx yx zx vx
    replace Ba := Ba.ee hb
    replace Bb := Bb.ee hb
    replace Bc := Bc.ee hb
    replace Bd := Bd.ee hb
    replace Bz := Bz.ee hb
    replace Bx := Bx.ee hb
    replace hw := upB hw hb
    clear hb
    go_wp2
    go_ret
    exact ⟨zAl (by rw [E.out]), hw⟩
   ·have t4 : decide (k2 < 0) = false := by simpa using hk2
    have M2 : lsr c b = b := by rw [L1.out]; exact if_neg hk2
    have N2 := Lib.hid M2
    clear M2 L1
    obtain ⟨xa, ya, za, va⟩ := Ba.f
    obtain ⟨xb, yb, zb, vb⟩ := Bb.f
    obtain ⟨xc, yc, zc, vc⟩ := Bc.f
    obtain ⟨xd, yd, zd, vd⟩ := Bd.f
    obtain ⟨xz, yz, zz, vz⟩ := Bz.f
    obtain ⟨xx, yx, zx, vx⟩ := Bx.f
    go_wp2_with fail
    obtain ⟨xa, ya, za, va⟩ := Ba.f
    obtain ⟨xb, yb, zb, vb⟩ := Bb.f
    obtain ⟨xc, yc, zc, vc⟩ := Bc.f
    obtain ⟨xd, yd, zd, vd⟩ := Bd.f
    obtain ⟨xz, yz, zz, vz⟩ := Bz.f
    obtain ⟨xx, yx, zx, vx⟩ := Bx.f
    have co2 := zA7 a d c
    have bo2 := zBz a d c
    have E : Hid (tie a b c d (lsr c (lsr b (lsr a d))) 1 = -ori a d c) := Lib.hid (by rw [N0.out]; rw [N1.out]; rw [N2.out]; simp [tie, f2, d1, i2])
    generalize ori a d c = o2 at *
    go_wp2_with fail
    refine (co2 _).mono ?_
    rintro e w18 ⟨rfl, hb⟩
    clear xa ya za va xb yb zb vb xc yc zc vc xd yd zd vd xz yz zz vz xx yx zx vx
    replace Ba := Ba.ee hb
    replace Bb := Bb.ee hb
    replace Bc := Bc.ee hb
    replace Bd := Bd.ee hb
    replace Bz := Bz.ee hb
    replace Bx := Bx.ee hb
    replace hw := upB hw hb
    clear hb
    go_wp2
    go_ret
    exact ⟨zAl (by rw [E.out]), hw⟩
  ·have t3 : decide (k1 < 0) = false := by simpa using hk1
   have M1 : lsr b d = d := by rw [L1.out]; exact if_neg hk1
   have N1 := Lib.hid M1
   clear M1 L1
   obtain ⟨xa, ya, za, va⟩ := Ba.f
   obtain ⟨xb, yb, zb, vb⟩ := Bb.f
   obtain ⟨xc, yc, zc, vc⟩ := Bc.f
   obtain ⟨xd, yd, zd, vd⟩ := Bd.f
   obtain ⟨xz, yz, zz, vz⟩ := Bz.f
   obtain ⟨xx, yx, zx, vx⟩ := Bx.f
   go_wp2_with fail
   have kc := zAb c d
   have L1 : Hid (lsr c d = if cmpP c d < 0 then c else d) := Lib.hid rfl
   generalize cmpP c d = k2 at *
   refine (kc _).mono ?_
   rintro e w16 ⟨rfl, hb⟩
   clear xa ya za va xb yb zb vb xc yc zc vc xd yd zd vd xz yz zz vz xx yx zx vx
   replace Ba := Ba.ee hb
   replace Bb := Bb.ee hb
   replace Bc := Bc.ee hb
   replace Bd := Bd.ee hb
   replace Bz := Bz.ee hb
   replace Bx := Bx.ee hb
   replace hw := upB hw hb
   clear hb
   by_cases hk2 : k2 < 0
   ·have t4 : decide (k2 < 0) = true := by simpa using hk2
    have M2 : lsr c d = c := by rw [L1.out]; exact if_pos hk2
    have N2 := Lib.hid M2
    clear M2 L1
    obtain ⟨xa, ya, za, va⟩ := Ba.f
    obtain ⟨xb, yb, zb, vb⟩ := Bb.f
    obtain ⟨xc, yc, zc, vc⟩ := Bc.f
    obtain ⟨xd, yd, zd, vd⟩ := Bd.f
    obtain ⟨xz, yz, zz, vz⟩ := Bz.f
    obtain ⟨xx, yx, zx, vx⟩ := Bx.f
    go_wp2_with fail
    refine zA1 fun W17 hW => ?_
    have Ca : Box W17 (w.heap.size) [.int .i64 a.x, .int .i64 a.y] 30 := by rw [hW]; exact ((Ba.sn bkx 0 (.int .i64 c.x) (by first | assumption | omega)).sn bkx 1 (.int .i64 c.y) (by first | assumption | omega))
    have Cb : Box W17 (w.heap.size + 1) [.int .i64 b.x, .int .i64 b.y] 30 := by rw [hW]; exact ((Bb.sn bkx 0 (.int .i64 c.x) (by first | assumption | omega)).sn bkx 1 (.int .i64 c.y) (by first | assumption | omega))
    have Cc : Box W17 (w.heap.size + 1 + 1) [.int .i64 c.x, .int .i64 c.y] 30 := by rw [hW]; exact ((Bc.sn bkx 0 (.int .i64 c.x) (by first | assumption | omega)).sn bkx 1 (.int .i64 c.y) (by first | assumption | omega))
    have Cd : Box W17 (w.heap.size + 1 + 1 + 1) [.int .i64 d.x, .int .i64 d.y] 30 := by rw [hW]; exact ((Bd.sn bkx 0 (.int .i64 c.x) (by first | assumption | omega)).sn bkx 1 (.int .i64 c.y) (by first | assumption | omega))
    have Cz : Box W17 (bkz) [.int .i64 H3, .int .u64 L3] 132 := by rw [hW]; exact ((Bz.sn bkx 0 (.int .i64 c.x) (by first | assumption | omega)).sn bkx 1 (.int .i64 c.y) (by first | assumption | omega))
    have Cx : Box W17 (bkx) [.int .i64 c.x, .int .i64 c.y] 30 := by rw [hW]; exact ((Bx.set 0 (.int .i64 c.x)).set 1 (.int .i64 c.y))
    replace hw : Below w.heap.size w W17 := by have hl := hw.size; rw [hW]; go_grown
    clear xa ya za va xb yb zb vb xc yc zc vc xd yd zd vd xz yz zz vz xx yx zx vx
    clear hW Ba Bb Bc Bd Bz Bx
    have Ba := Ca
    have Bb := Cb
    have Bc := Cc
    have Bd := Cd
    have Bz := Cz
    have Bx := Cx
    clear Ca Cb Cc Cd Cz Cx
    obtain ⟨xa, ya, za, va⟩ := Ba.f
    obtain ⟨xb, yb, zb, vb⟩ := Bb.f
    obtain ⟨xc, yc, zc, vc⟩ := Bc.f
    obtain ⟨xd, yd, zd, vd⟩ := Bd.f
    obtain ⟨xz, yz, zz, vz⟩ := Bz.f
    obtain ⟨xx, yx, zx, vx⟩ := Bx.f
    obtain ⟨xa, ya, za, va⟩ := Ba.f
    obtain ⟨xb, yb, zb, vb⟩ := Bb.f
    obtain ⟨xc, yc, zc, vc⟩ := Bc.f
    obtain ⟨xd, yd, zd, vd⟩ := Bd.f
    obtain ⟨xz, yz, zz, vz⟩ := Bz.f
    obtain ⟨xx, yx, zx, vx⟩ := Bx.f
    have co2 := zA7 a b d
    have bo2 := zBz a b d
    have E : Hid (tie a b c d (lsr c (lsr b (lsr a d))) 1 = -ori a b d) := Lib.hid (by rw [N0.out]; rw [N1.out]; rw [N2.out]; simp [tie, f3, d2, d3])
    generalize ori a b d = o2 at *
    go_wp2_with fail
    refine (co2 _).mono ?_
    rintro e w18 ⟨rfl, hb⟩
    clear xa ya za va xb yb zb vb xc yc zc vc xd yd zd vd xz yz zz vz xx yx zx vx
    replace Ba := Ba.ee hb
    replace Bb := Bb.ee hb
    replace Bc := Bc.ee hb
    replace Bd := Bd.ee hb
    replace Bz := Bz.ee hb
    replace Bx := Bx.ee hb
    replace hw := upB hw hb
    clear hb
    go_wp2
    go_ret
    exact ⟨zAl (by rw [E.out]), hw⟩
   ·have t4 : decide (k2 < 0) = false := by simpa using hk2
    have M2 : lsr c d = d := by rw [L1.out]; exact if_neg hk2
    have N2 := Lib.hid M2
    clear M2 L1
    obtain ⟨xa, ya, za, va⟩ := Ba.f
    obtain ⟨xb, yb, zb, vb⟩ := Bb.f
    obtain ⟨xc, yc, zc, vc⟩ := Bc.f
    obtain ⟨xd, yd, zd, vd⟩ := Bd.f
    obtain ⟨xz, yz, zz, vz⟩ := Bz.f
    obtain ⟨xx, yx, zx, vx⟩ := Bx.f
    go_wp2_with fail
    obtain ⟨xa, ya, za, va⟩ := Ba.f
    obtain ⟨xb, yb, zb, vb⟩ := Bb.f
    obtain ⟨xc, yc, zc, vc⟩ := Bc.f
    obtain ⟨xd, yd, zd, vd⟩ := Bd.f
    obtain ⟨xz, yz, zz, vz⟩ := Bz.f
    obtain ⟨xx, yx, zx, vx⟩ := Bx.f
    have E : Hid (tie a b c d (lsr c (lsr b (lsr a d))) 1 = 1) := Lib.hid (by rw [N0.out]; rw [N1.out]; rw [N2.out]; simp [tie, i3])
    go_wp2
    go_ret
    exact ⟨zAl (by rw [E.out]), hw⟩
theorem zFg (a b c d : Pt) (h : ori a b c = 1) (w : World) :
    Calls Tryz.prog 141 #[.agg #[.int .i64 a.x, .int .i64 a.y], .agg #[.int .i64 b.x, .int .i64 b.y], .agg #[.int .i64 c.x, .int .i64 c.y], .agg #[.int .i64 d.x, .int .i64 d.y]] w fun e w' => e = .returned (.int .i64 (circ a b c d)) ∧ Below w.heap.size w w' := by
 have h0 : ¬ ori a b c = 0 := by omega
 cases hv : vld d with
 | false => rw [zAc (.inr (.inl hv))]; exact zHr a b c d h0 hv w
 | true => cases e1 : peqI d.x d.y a.x a.y with
  | true => rw [zAc (.inr (.inr (.inl (zDi.1 e1))))]; exact zHq a b c d h0 hv e1 w
  | false => cases e2 : peqI d.x d.y b.x b.y with
   | true => rw [zAc (.inr (.inr (.inr (.inl (zDi.1 e2)))))]; exact zHp a b c d h0 hv e1 e2 w
   | false => cases e3 : peqI d.x d.y c.x c.y with
    | true => rw [zAc (.inr (.inr (.inr (.inr (zDi.1 e3)))))]; exact zHo a b c d h0 hv e1 e2 e3 w
    | false =>
     rw [zBi h0 hv (zBd.1 e1) (zBd.1 e2) (zBd.1 e3)]
     by_cases hl : sgn (lft a b c d) = 0
     ·rw [if_neg (fun k => k hl), h]
      obtain ⟨va, vb, vc⟩ := zCc h0
      rw [← min4_r va vb vc hv]
      exact rcircle_6 a b c d h hv e1 e2 e3 hl w
     ·rw [if_pos hl]; exact rcircle_5 a b c d h hv e1 e2 e3 hl w
theorem rcircle_neg (a b c d : Pt) (h : ori a b c = -1) (hv : vld d = true) (e1 : peqI d.x d.y a.x a.y = false) (e2 : peqI d.x d.y b.x b.y = false) (e3 : peqI d.x d.y c.x c.y = false) (w : World) :
    Calls Tryz.prog 141 #[.agg #[.int .i64 a.x, .int .i64 a.y], .agg #[.int .i64 b.x, .int .i64 b.y], .agg #[.int .i64 c.x, .int .i64 c.y], .agg #[.int .i64 d.x, .int .i64 d.y]] w fun e w' => e = .returned (.int .i64 (-circ a c b d)) ∧ Below w.heap.size w w' := by
 have co := zA7 a b c
 have cv := zA5 d
 rw [hv] at cv
 have hn : ori a c b = 1 := by rw [zDj, h]; rfl
 have cc := zFg a c b d hn
 rw [h] at co
 have bc : -1 ≤ circ a c b d ∧ circ a c b d ≤ 1 := by
  have := circ_sign (a := a) (b := c) (c := b) (d := d) (by omega) hv (zBd.1 e1) (zBd.1 e3) (zBd.1 e2); omega
 generalize circ a c b d = K at *
 clear hv h hn
 go_enter Tryz.func141, Tryz.ntmps141
 go_wp2_with fail
 refine zA1 fun W1 hW => ?_
 have Ba : Box W1 (w.heap.size) [.int .i64 a.x, .int .i64 a.y] 30 := by rw [hW]; exact (((Box.new rfl).old _).old _).old _
 have Bb : Box W1 (w.heap.size + 1) [.int .i64 b.x, .int .i64 b.y] 30 := by rw [hW]; exact ((Box.new (by simp)).old _).old _
 have Bc : Box W1 (w.heap.size + 1 + 1) [.int .i64 c.x, .int .i64 c.y] 30 := by rw [hW]; exact (Box.new (by simp)).old _
 have Bd : Box W1 (w.heap.size + 1 + 1 + 1) [.int .i64 d.x, .int .i64 d.y] 30 := by rw [hW]; exact Box.new (by simp)
 have hw : Below w.heap.size w W1 := by rw [hW]; go_grown
 clear hW
 refine (co _).mono ?_
 rintro e w2 ⟨rfl, hb⟩
 replace Ba := Ba.ee hb
 replace Bb := Bb.ee hb
 replace Bc := Bc.ee hb
 replace Bd := Bd.ee hb
 replace hw := upB hw hb
 clear hb
 have F_abcd := J4 Ba.f Bb.f Bc.f Bd.f
 go_wp2_with fail
 refine (cv _).mono ?_
 rintro e w3 ⟨rfl, hb⟩
 clear F_abcd
 replace Ba := Ba.ee hb
 replace Bb := Bb.ee hb
 replace Bc := Bc.ee hb
 replace Bd := Bd.ee hb
 replace hw := upB hw hb
 clear hb
 have F_abcd := J4 Ba.f Bb.f Bc.f Bd.f
 go_wp2_with fail
 refine (cc _).mono ?_
 rintro e w4 ⟨rfl, hb⟩
 clear F_abcd
 replace Ba := Ba.ee hb
 replace Bb := Bb.ee hb
 replace Bc := Bc.ee hb
 replace Bd := Bd.ee hb
 replace hw := upB hw hb
 clear hb
 go_wp2
 go_ret
 exact ⟨rfl, hw⟩
theorem zCv (a b c d : Pt) (w : World) :
    Calls Tryz.prog 141 #[.agg #[.int .i64 a.x, .int .i64 a.y], .agg #[.int .i64 b.x, .int .i64 b.y], .agg #[.int .i64 c.x, .int .i64 c.y], .agg #[.int .i64 d.x, .int .i64 d.y]] w fun e w' => e = .returned (.int .i64 (circ a b c d)) ∧ Below w.heap.size w w' := by
 have hb := zBz a b c
 have h3 : ori a b c = 0 ∨ ori a b c = 1 ∨ ori a b c = -1 := by omega
 rcases h3 with h | h | h
 ·rw [zAc (.inl h)]; exact rcircle_0 a b c d h w
 ·exact zFg a b c d h w
 ·have h0 : ¬ ori a b c = 0 := by omega
  cases hv : vld d with
  | false => rw [zAc (.inr (.inl hv))]; exact zHr a b c d h0 hv w
  | true => cases e1 : peqI d.x d.y a.x a.y with
   | true => rw [zAc (.inr (.inr (.inl (zDi.1 e1))))]; exact zHq a b c d h0 hv e1 w
   | false => cases e2 : peqI d.x d.y b.x b.y with
    | true => rw [zAc (.inr (.inr (.inr (.inl (zDi.1 e2)))))]; exact zHp a b c d h0 hv e1 e2 w
    | false => cases e3 : peqI d.x d.y c.x c.y with
     | true => rw [zAc (.inr (.inr (.inr (.inr (zDi.1 e3)))))]; exact zHo a b c d h0 hv e1 e2 e3 w
     | false =>
      rw [show circ a b c d = -circ a c b d by rw [← zGj a c b d, zIb b c a d, zGj a b c d]; omega]
      exact rcircle_neg a b c d h hv e1 e2 e3 w
theorem Box.drew {w : World} {b : Nat} {cs : List Value} {T : TypeId} (h : Box w b cs T) : Box w.drew b cs T := h
theorem rmake_0 (a b c : Pt) (h0 : ori a b c = 0) (w : World) :
    Calls Tryz.prog 47 #[.agg #[.int .i64 a.x, .int .i64 a.y], .agg #[.int .i64 b.x, .int .i64 b.y], .agg #[.int .i64 c.x, .int .i64 c.y]] w fun e w' => e = .returned (.tuple #[.agg #[.int .i64 0, .int .i64 0, .int .i64 0, .int .i64 0, .int .i64 0, .int .i64 0], .bool false]) ∧ Below w.heap.size w w' := by
 have co := zA7 a b c
 rw [h0] at co
 clear h0
 go_enter Tryz.func47, Tryz.ntmps47
 go_wp2_with fail
 refine zA1 fun W1 hW => ?_
 have Ba : Box W1 (w.heap.size) [.int .i64 a.x, .int .i64 a.y] 30 := by rw [hW]; exact (((Box.new rfl).old _).old _).old _
 have Bb : Box W1 (w.heap.size + 1) [.int .i64 b.x, .int .i64 b.y] 30 := by rw [hW]; exact ((Box.new (by simp)).old _).old _
 have Bc : Box W1 (w.heap.size + 1 + 1) [.int .i64 c.x, .int .i64 c.y] 30 := by rw [hW]; exact (Box.new (by simp)).old _
 have Br : Box W1 (w.heap.size + 1 + 1 + 1) [.int .i64 0, .int .i64 0, .int .i64 0, .int .i64 0, .int .i64 0, .int .i64 0] 38 := by rw [hW]; exact Box.new (by simp)
 have hw : Below w.heap.size w W1 := by rw [hW]; go_grown
 clear hW
 refine (co _).mono ?_
 rintro e w2 ⟨rfl, hb⟩
 replace Ba := Ba.ee hb
 replace Bb := Bb.ee hb
 replace Bc := Bc.ee hb
 replace Br := Br.ee hb
 replace hw := upB hw hb
 clear hb
 have Fa := Ba.f
 have Fb := Bb.f
 have Fc := Bc.f
 have Fr := Br.f
 go_wp2_with fail
 refine bodyPost_ret (v := .tuple #[.agg #[.int .i64 0, .int .i64 0, .int .i64 0, .int .i64 0, .int .i64 0, .int .i64 0], .bool false]) (by simp [results, Tryz.results47, go_sem, Fr]) rfl ⟨rfl, by have hl := hw.size; go_grown⟩
theorem rmake_p0 (a b c : Pt) (h0 : ori a b c = 1) (tba : decide (cmpP b a < 0) = false) (tca : decide (cmpP c a < 0) = false) (w : World) :
    Calls Tryz.prog 47 #[.agg #[.int .i64 a.x, .int .i64 a.y], .agg #[.int .i64 b.x, .int .i64 b.y], .agg #[.int .i64 c.x, .int .i64 c.y]] w fun e w' => e = .returned (.tuple #[.agg #[.int .i64 a.x, .int .i64 a.y, .int .i64 b.x, .int .i64 b.y, .int .i64 c.x, .int .i64 c.y], .bool true]) ∧ Below w.heap.size w w' := by
 have co := zA7 a b c
 rw [h0] at co
 clear h0
 have kba := zAb b a
 generalize cmpP b a = nba at *
 have kca := zAb c a
 generalize cmpP c a = nca at *
 go_enter Tryz.func47, Tryz.ntmps47
 go_wp2_with fail
 refine zA1 fun W1 hW => ?_
 have Ba : Box W1 (w.heap.size) [.int .i64 a.x, .int .i64 a.y] 30 := by rw [hW]; exact (((Box.new rfl).old _).old _).old _
 have Bb : Box W1 (w.heap.size + 1) [.int .i64 b.x, .int .i64 b.y] 30 := by rw [hW]; exact ((Box.new (by simp)).old _).old _
 have Bc : Box W1 (w.heap.size + 1 + 1) [.int .i64 c.x, .int .i64 c.y] 30 := by rw [hW]; exact (Box.new (by simp)).old _
 have Br : Box W1 (w.heap.size + 1 + 1 + 1) [.int .i64 0, .int .i64 0, .int .i64 0, .int .i64 0, .int .i64 0, .int .i64 0] 38 := by rw [hW]; exact Box.new (by simp)
 have hw : Below w.heap.size w W1 := by rw [hW]; go_grown
 clear hW
 refine (co _).mono ?_
 rintro e w2 ⟨rfl, hb⟩
 replace Ba := Ba.ee hb
 replace Bb := Bb.ee hb
 replace Bc := Bc.ee hb
 replace Br := Br.ee hb
 replace hw := upB hw hb
 clear hb
 have Fa := Ba.f
 have Fb := Bb.f
 have Fc := Bc.f
 have Fr := Br.f
 go_wp2_with fail
 refine zA2 fun W3 hW => ?_
 replace hw : Below w.heap.size w W3 := by rw [hW]; exact hw
 replace Ba : Box W3 (w.heap.size) [.int .i64 a.x, .int .i64 a.y] 30 := by rw [hW]; exact Ba
 replace Bb : Box W3 (w.heap.size + 1) [.int .i64 b.x, .int .i64 b.y] 30 := by rw [hW]; exact Bb
 replace Bc : Box W3 (w.heap.size + 1 + 1) [.int .i64 c.x, .int .i64 c.y] 30 := by rw [hW]; exact Bc
 replace Br : Box W3 (w.heap.size + 1 + 1 + 1) [.int .i64 0, .int .i64 0, .int .i64 0, .int .i64 0, .int .i64 0, .int .i64 0] 38 := by rw [hW]; exact Br
 clear hW
 clear Fa Fb Fc Fr
 refine wp_loop_rounds 4 ?_
 try rw [rounds_succ]
 have Fa := Ba.f
 have Fb := Bb.f
 have Fc := Bc.f
 have Fr := Br.f
 go_wp2_with fail
 refine (kba _).mono ?_
 rintro e w4 ⟨rfl, hb⟩
 clear Fa Fb Fc Fr
 replace Ba := Ba.ee hb
 replace Bb := Bb.ee hb
 replace Bc := Bc.ee hb
 replace Br := Br.ee hb
 replace hw := upB hw hb
 clear hb
 have Fa := Ba.f
 have Fb := Bb.f
 have Fc := Bc.f
 have Fr := Br.f
 go_wp2_with fail
 refine (kca _).mono ?_
 rintro e w5 ⟨rfl, hb⟩
 clear Fa Fb Fc Fr
 replace Ba := Ba.ee hb
 replace Bb := Bb.ee hb
 replace Bc := Bc.ee hb
 replace Br := Br.ee hb
 replace hw := upB hw hb
 clear hb
 have Fa := Ba.f
 have Fb := Bb.f
 have Fc := Bc.f
 have Fr := Br.f
 go_wp2_with fail
 refine bodyPost_ret (v := .tuple #[.agg #[.int .i64 a.x, .int .i64 a.y, .int .i64 b.x, .int .i64 b.y, .int .i64 c.x, .int .i64 c.y], .bool true]) (by simp [results, Tryz.results47, go_sem, Fr]) rfl ⟨rfl, by have hl := hw.size; go_grown⟩
theorem rmake_p1 (a b c : Pt) (h0 : ori a b c = 1) (tba : decide (cmpP b a < 0) = true) (tcb : decide (cmpP c b < 0) = false) (tab : decide (cmpP a b < 0) = false) (w : World) :
    Calls Tryz.prog 47 #[.agg #[.int .i64 a.x, .int .i64 a.y], .agg #[.int .i64 b.x, .int .i64 b.y], .agg #[.int .i64 c.x, .int .i64 c.y]] w fun e w' => e = .returned (.tuple #[.agg #[.int .i64 b.x, .int .i64 b.y, .int .i64 c.x, .int .i64 c.y, .int .i64 a.x, .int .i64 a.y], .bool true]) ∧ Below w.heap.size w w' := by
 have co := zA7 a b c
 rw [h0] at co
 clear h0
 have kba := zAb b a
 generalize cmpP b a = nba at *
 have kcb := zAb c b
 generalize cmpP c b = ncb at *
 have kab := zAb a b
 generalize cmpP a b = nab at *
 go_enter Tryz.func47, Tryz.ntmps47
 go_wp2_with fail
 refine zA1 fun W1 hW => ?_
 have Ba : Box W1 (w.heap.size) [.int .i64 a.x, .int .i64 a.y] 30 := by rw [hW]; exact (((Box.new rfl).old _).old _).old _
 have Bb : Box W1 (w.heap.size + 1) [.int .i64 b.x, .int .i64 b.y] 30 := by rw [hW]; exact ((Box.new (by simp)).old _).old _
 have Bc : Box W1 (w.heap.size + 1 + 1) [.int .i64 c.x, .int .i64 c.y] 30 := by rw [hW]; exact (Box.new (by simp)).old _
 have Br : Box W1 (w.heap.size + 1 + 1 + 1) [.int .i64 0, .int .i64 0, .int .i64 0, .int .i64 0, .int .i64 0, .int .i64 0] 38 := by rw [hW]; exact Box.new (by simp)
 have hw : Below w.heap.size w W1 := by rw [hW]; go_grown
 clear hW
 refine (co _).mono ?_
 rintro e w2 ⟨rfl, hb⟩
 replace Ba := Ba.ee hb
 replace Bb := Bb.ee hb
 replace Bc := Bc.ee hb
 replace Br := Br.ee hb
 replace hw := upB hw hb
 clear hb
 have Fa := Ba.f
 have Fb := Bb.f
 have Fc := Bc.f
 have Fr := Br.f
 go_wp2_with fail
 refine zA2 fun W3 hW => ?_
 replace hw : Below w.heap.size w W3 := by rw [hW]; exact hw
 replace Ba : Box W3 (w.heap.size) [.int .i64 a.x, .int .i64 a.y] 30 := by rw [hW]; exact Ba
 replace Bb : Box W3 (w.heap.size + 1) [.int .i64 b.x, .int .i64 b.y] 30 := by rw [hW]; exact Bb
 replace Bc : Box W3 (w.heap.size + 1 + 1) [.int .i64 c.x, .int .i64 c.y] 30 := by rw [hW]; exact Bc
 replace Br : Box W3 (w.heap.size + 1 + 1 + 1) [.int .i64 0, .int .i64 0, .int .i64 0, .int .i64 0, .int .i64 0, .int .i64 0] 38 := by rw [hW]; exact Br
 clear hW
 clear Fa Fb Fc Fr
 refine wp_loop_rounds 4 ?_
 try rw [rounds_succ]
 have Fa := Ba.f
 have Fb := Bb.f
 have Fc := Bc.f
 have Fr := Br.f
 go_wp2_with fail
 refine (kba _).mono ?_
 rintro e w4 ⟨rfl, hb⟩
 clear Fa Fb Fc Fr
 replace Ba := Ba.ee hb
 replace Bb := Bb.ee hb
 replace Bc := Bc.ee hb
 replace Br := Br.ee hb
 replace hw := upB hw hb
 clear hb
 have Fa := Ba.f
 have Fb := Bb.f
 have Fc := Bc.f
 have Fr := Br.f
 go_wp2_with fail
 go_region
 go_wp2_with fail
 refine zA2 fun W5 hW => ?_
 have Ca : Box W5 (w.heap.size) [.int .i64 b.x, .int .i64 b.y] 30 := by rw [hW]; exact (((((((Ba.set 0 (.int .i64 b.x)).set 1 (.int .i64 b.y)).set_ne ⟨w.heap.size + 1, 0, none⟩ (.int .i64 c.x) (by show (w.heap.size + 1 : Nat) ≠ _; omega)).set_ne ⟨w.heap.size + 1, 1, none⟩ (.int .i64 c.y) (by show (w.heap.size + 1 : Nat) ≠ _; omega)).set_ne ⟨w.heap.size + 1 + 1, 0, none⟩ (.int .i64 a.x) (by show (w.heap.size + 1 + 1 : Nat) ≠ _; omega)).set_ne ⟨w.heap.size + 1 + 1, 1, none⟩ (.int .i64 a.y) (by show (w.heap.size + 1 + 1 : Nat) ≠ _; omega))).drew
 have Cb : Box W5 (w.heap.size + 1) [.int .i64 c.x, .int .i64 c.y] 30 := by rw [hW]; exact (((((((Bb.set_ne ⟨w.heap.size, 0, none⟩ (.int .i64 b.x) (by show (w.heap.size : Nat) ≠ _; omega)).set_ne ⟨w.heap.size, 1, none⟩ (.int .i64 b.y) (by show (w.heap.size : Nat) ≠ _; omega)).set 0 (.int .i64 c.x)).set 1 (.int .i64 c.y)).set_ne ⟨w.heap.size + 1 + 1, 0, none⟩ (.int .i64 a.x) (by show (w.heap.size + 1 + 1 : Nat) ≠ _; omega)).set_ne ⟨w.heap.size + 1 + 1, 1, none⟩ (.int .i64 a.y) (by show (w.heap.size + 1 + 1 : Nat) ≠ _; omega))).drew
 have Cc : Box W5 (w.heap.size + 1 + 1) [.int .i64 a.x, .int .i64 a.y] 30 := by rw [hW]; exact (((((((Bc.set_ne ⟨w.heap.size, 0, none⟩ (.int .i64 b.x) (by show (w.heap.size : Nat) ≠ _; omega)).set_ne ⟨w.heap.size, 1, none⟩ (.int .i64 b.y) (by show (w.heap.size : Nat) ≠ _; omega)).set_ne ⟨w.heap.size + 1, 0, none⟩ (.int .i64 c.x) (by show (w.heap.size + 1 : Nat) ≠ _; omega)).set_ne ⟨w.heap.size + 1, 1, none⟩ (.int .i64 c.y) (by show (w.heap.size + 1 : Nat) ≠ _; omega)).set 0 (.int .i64 a.x)).set 1 (.int .i64 a.y))).drew
 have Cr : Box W5 (w.heap.size + 1 + 1 + 1) [.int .i64 0, .int .i64 0, .int .i64 0, .int .i64 0, .int .i64 0, .int .i64 0] 38 := by rw [hW]; exact (((((((Br.set_ne ⟨w.heap.size, 0, none⟩ (.int .i64 b.x) (by show (w.heap.size : Nat) ≠ _; omega)).set_ne ⟨w.heap.size, 1, none⟩ (.int .i64 b.y) (by show (w.heap.size : Nat) ≠ _; omega)).set_ne ⟨w.heap.size + 1, 0, none⟩ (.int .i64 c.x) (by show (w.heap.size + 1 : Nat) ≠ _; omega)).set_ne ⟨w.heap.size + 1, 1, none⟩ (.int .i64 c.y) (by show (w.heap.size + 1 : Nat) ≠ _; omega)).set_ne ⟨w.heap.size + 1 + 1, 0, none⟩ (.int .i64 a.x) (by show (w.heap.size + 1 + 1 : Nat) ≠ _; omega)).set_ne ⟨w.heap.size + 1 + 1, 1, none⟩ (.int .i64 a.y) (by show (w.heap.size + 1 + 1 : Nat) ≠ _; omega))).drew
 replace hw : Below w.heap.size w W5 := by have hl := hw.size; rw [hW]; go_grown
 clear Fa Fb Fc Fr
 clear hW Ba Bb Bc Br
 have Ba := Ca
 have Bb := Cb
 have Bc := Cc
 have Br := Cr
 clear Ca Cb Cc Cr
 try rw [rounds_succ]
 have Fa := Ba.f
 have Fb := Bb.f
 have Fc := Bc.f
 have Fr := Br.f
 go_wp2_with fail
 refine (kcb _).mono ?_
 rintro e w6 ⟨rfl, hb⟩
 clear Fa Fb Fc Fr
 replace Ba := Ba.ee hb
 replace Bb := Bb.ee hb
 replace Bc := Bc.ee hb
 replace Br := Br.ee hb
 replace hw := upB hw hb
 clear hb
 have Fa := Ba.f
 have Fb := Bb.f
 have Fc := Bc.f
 have Fr := Br.f
 go_wp2_with fail
 refine (kab _).mono ?_
 rintro e w7 ⟨rfl, hb⟩
 clear Fa Fb Fc Fr
 replace Ba := Ba.ee hb
 replace Bb := Bb.ee hb
 replace Bc := Bc.ee hb
 replace Br := Br.ee hb
 replace hw := upB hw hb
 clear hb
 have Fa := Ba.f
 have Fb := Bb.f
 have Fc := Bc.f
 have Fr := Br.f
 go_wp2_with fail
 refine bodyPost_ret (v := .tuple #[.agg #[.int .i64 b.x, .int .i64 b.y, .int .i64 c.x, .int .i64 c.y, .int .i64 a.x, .int .i64 a.y], .bool true]) (by simp [results, Tryz.results47, go_sem, Fr]) rfl ⟨rfl, by have hl := hw.size; go_grown⟩
theorem rmake_p2 (a b c : Pt) (h0 : ori a b c = 1) (tba : decide (cmpP b a < 0) = true) (tcb : decide (cmpP c b < 0) = true) (tac : decide (cmpP a c < 0) = false) (tbc : decide (cmpP b c < 0) = false) (w : World) :
    Calls Tryz.prog 47 #[.agg #[.int .i64 a.x, .int .i64 a.y], .agg #[.int .i64 b.x, .int .i64 b.y], .agg #[.int .i64 c.x, .int .i64 c.y]] w fun e w' => e = .returned (.tuple #[.agg #[.int .i64 c.x, .int .i64 c.y, .int .i64 a.x, .int .i64 a.y, .int .i64 b.x, .int .i64 b.y], .bool true]) ∧ Below w.heap.size w w' := by
 have co := zA7 a b c
 rw [h0] at co
 clear h0
 have kba := zAb b a
 generalize cmpP b a = nba at *
 have kcb := zAb c b
 generalize cmpP c b = ncb at *
 have kac := zAb a c
 generalize cmpP a c = nac at *
 have kbc := zAb b c
 generalize cmpP b c = nbc at *
 go_enter Tryz.func47, Tryz.ntmps47
 go_wp2_with fail
 refine zA1 fun W1 hW => ?_
 have Ba : Box W1 (w.heap.size) [.int .i64 a.x, .int .i64 a.y] 30 := by rw [hW]; exact (((Box.new rfl).old _).old _).old _
 have Bb : Box W1 (w.heap.size + 1) [.int .i64 b.x, .int .i64 b.y] 30 := by rw [hW]; exact ((Box.new (by simp)).old _).old _
 have Bc : Box W1 (w.heap.size + 1 + 1) [.int .i64 c.x, .int .i64 c.y] 30 := by rw [hW]; exact (Box.new (by simp)).old _
 have Br : Box W1 (w.heap.size + 1 + 1 + 1) [.int .i64 0, .int .i64 0, .int .i64 0, .int .i64 0, .int .i64 0, .int .i64 0] 38 := by rw [hW]; exact Box.new (by simp)
 have hw : Below w.heap.size w W1 := by rw [hW]; go_grown
 clear hW
 refine (co _).mono ?_
 rintro e w2 ⟨rfl, hb⟩
 replace Ba := Ba.ee hb
 replace Bb := Bb.ee hb
 replace Bc := Bc.ee hb
 replace Br := Br.ee hb
 replace hw := upB hw hb
 clear hb
 have Fa := Ba.f
 have Fb := Bb.f
 have Fc := Bc.f
 have Fr := Br.f
 go_wp2_with fail
 refine zA2 fun W3 hW => ?_
 replace hw : Below w.heap.size w W3 := by rw [hW]; exact hw
 replace Ba : Box W3 (w.heap.size) [.int .i64 a.x, .int .i64 a.y] 30 := by rw [hW]; exact Ba
 replace Bb : Box W3 (w.heap.size + 1) [.int .i64 b.x, .int .i64 b.y] 30 := by rw [hW]; exact Bb
 replace Bc : Box W3 (w.heap.size + 1 + 1) [.int .i64 c.x, .int .i64 c.y] 30 := by rw [hW]; exact Bc
 replace Br : Box W3 (w.heap.size + 1 + 1 + 1) [.int .i64 0, .int .i64 0, .int .i64 0, .int .i64 0, .int .i64 0, .int .i64 0] 38 := by rw [hW]; exact Br
 clear hW
 clear Fa Fb Fc Fr
 refine wp_loop_rounds 4 ?_
 try rw [rounds_succ]
 have Fa := Ba.f
 have Fb := Bb.f
 have Fc := Bc.f
 have Fr := Br.f
 go_wp2_with fail
 refine (kba _).mono ?_
 rintro e w4 ⟨rfl, hb⟩
 clear Fa Fb Fc Fr
 replace Ba := Ba.ee hb
 replace Bb := Bb.ee hb
 replace Bc := Bc.ee hb
 replace Br := Br.ee hb
 replace hw := upB hw hb
 clear hb
 have Fa := Ba.f
 have Fb := Bb.f
 have Fc := Bc.f
 have Fr := Br.f
 go_wp2_with fail
 go_region
 go_wp2_with fail
 refine zA2 fun W5 hW => ?_
 have Ca : Box W5 (w.heap.size) [.int .i64 b.x, .int .i64 b.y] 30 := by rw [hW]; exact (((((((Ba.set 0 (.int .i64 b.x)).set 1 (.int .i64 b.y)).set_ne ⟨w.heap.size + 1, 0, none⟩ (.int .i64 c.x) (by show (w.heap.size + 1 : Nat) ≠ _; omega)).set_ne ⟨w.heap.size + 1, 1, none⟩ (.int .i64 c.y) (by show (w.heap.size + 1 : Nat) ≠ _; omega)).set_ne ⟨w.heap.size + 1 + 1, 0, none⟩ (.int .i64 a.x) (by show (w.heap.size + 1 + 1 : Nat) ≠ _; omega)).set_ne ⟨w.heap.size + 1 + 1, 1, none⟩ (.int .i64 a.y) (by show (w.heap.size + 1 + 1 : Nat) ≠ _; omega))).drew
 have Cb : Box W5 (w.heap.size + 1) [.int .i64 c.x, .int .i64 c.y] 30 := by rw [hW]; exact (((((((Bb.set_ne ⟨w.heap.size, 0, none⟩ (.int .i64 b.x) (by show (w.heap.size : Nat) ≠ _; omega)).set_ne ⟨w.heap.size, 1, none⟩ (.int .i64 b.y) (by show (w.heap.size : Nat) ≠ _; omega)).set 0 (.int .i64 c.x)).set 1 (.int .i64 c.y)).set_ne ⟨w.heap.size + 1 + 1, 0, none⟩ (.int .i64 a.x) (by show (w.heap.size + 1 + 1 : Nat) ≠ _; omega)).set_ne ⟨w.heap.size + 1 + 1, 1, none⟩ (.int .i64 a.y) (by show (w.heap.size + 1 + 1 : Nat) ≠ _; omega))).drew
 have Cc : Box W5 (w.heap.size + 1 + 1) [.int .i64 a.x, .int .i64 a.y] 30 := by rw [hW]; exact (((((((Bc.set_ne ⟨w.heap.size, 0, none⟩ (.int .i64 b.x) (by show (w.heap.size : Nat) ≠ _; omega)).set_ne ⟨w.heap.size, 1, none⟩ (.int .i64 b.y) (by show (w.heap.size : Nat) ≠ _; omega)).set_ne ⟨w.heap.size + 1, 0, none⟩ (.int .i64 c.x) (by show (w.heap.size + 1 : Nat) ≠ _; omega)).set_ne ⟨w.heap.size + 1, 1, none⟩ (.int .i64 c.y) (by show (w.heap.size + 1 : Nat) ≠ _; omega)).set 0 (.int .i64 a.x)).set 1 (.int .i64 a.y))).drew
 have Cr : Box W5 (w.heap.size + 1 + 1 + 1) [.int .i64 0, .int .i64 0, .int .i64 0, .int .i64 0, .int .i64 0, .int .i64 0] 38 := by rw [hW]; exact (((((((Br.set_ne ⟨w.heap.size, 0, none⟩ (.int .i64 b.x) (by show (w.heap.size : Nat) ≠ _; omega)).set_ne ⟨w.heap.size, 1, none⟩ (.int .i64 b.y) (by show (w.heap.size : Nat) ≠ _; omega)).set_ne ⟨w.heap.size + 1, 0, none⟩ (.int .i64 c.x) (by show (w.heap.size + 1 : Nat) ≠ _; omega)).set_ne ⟨w.heap.size + 1, 1, none⟩ (.int .i64 c.y) (by show (w.heap.size + 1 : Nat) ≠ _; omega)).set_ne ⟨w.heap.size + 1 + 1, 0, none⟩ (.int .i64 a.x) (by show (w.heap.size + 1 + 1 : Nat) ≠ _; omega)).set_ne ⟨w.heap.size + 1 + 1, 1, none⟩ (.int .i64 a.y) (by show (w.heap.size + 1 + 1 : Nat) ≠ _; omega))).drew
 replace hw : Below w.heap.size w W5 := by have hl := hw.size; rw [hW]; go_grown
 clear Fa Fb Fc Fr
 clear hW Ba Bb Bc Br
 have Ba := Ca
 have Bb := Cb
 have Bc := Cc
 have Br := Cr
 clear Ca Cb Cc Cr
 try rw [rounds_succ]
 have Fa := Ba.f
 have Fb := Bb.f
 have Fc := Bc.f
 have Fr := Br.f
 go_wp2_with fail
 refine (kcb _).mono ?_
 rintro e w6 ⟨rfl, hb⟩
 clear Fa Fb Fc Fr
 replace Ba := Ba.ee hb
 replace Bb := Bb.ee hb
 replace Bc := Bc.ee hb
 replace Br := Br.ee hb
 replace hw := upB hw hb
 clear hb
 have Fa := Ba.f
 have Fb := Bb.f
 have Fc := Bc.f
 have Fr := Br.f
 go_wp2_with fail
 go_region
 go_wp2_with fail
 refine zA2 fun W7 hW => ?_
 have Ca : Box W7 (w.heap.size) [.int .i64 c.x, .int .i64 c.y] 30 := by rw [hW]; exact (((((((Ba.set 0 (.int .i64 c.x)).set 1 (.int .i64 c.y)).set_ne ⟨w.heap.size + 1, 0, none⟩ (.int .i64 a.x) (by show (w.heap.size + 1 : Nat) ≠ _; omega)).set_ne ⟨w.heap.size + 1, 1, none⟩ (.int .i64 a.y) (by show (w.heap.size + 1 : Nat) ≠ _; omega)).set_ne ⟨w.heap.size + 1 + 1, 0, none⟩ (.int .i64 b.x) (by show (w.heap.size + 1 + 1 : Nat) ≠ _; omega)).set_ne ⟨w.heap.size + 1 + 1, 1, none⟩ (.int .i64 b.y) (by show (w.heap.size + 1 + 1 : Nat) ≠ _; omega))).drew
 have Cb : Box W7 (w.heap.size + 1) [.int .i64 a.x, .int .i64 a.y] 30 := by rw [hW]; exact (((((((Bb.set_ne ⟨w.heap.size, 0, none⟩ (.int .i64 c.x) (by show (w.heap.size : Nat) ≠ _; omega)).set_ne ⟨w.heap.size, 1, none⟩ (.int .i64 c.y) (by show (w.heap.size : Nat) ≠ _; omega)).set 0 (.int .i64 a.x)).set 1 (.int .i64 a.y)).set_ne ⟨w.heap.size + 1 + 1, 0, none⟩ (.int .i64 b.x) (by show (w.heap.size + 1 + 1 : Nat) ≠ _; omega)).set_ne ⟨w.heap.size + 1 + 1, 1, none⟩ (.int .i64 b.y) (by show (w.heap.size + 1 + 1 : Nat) ≠ _; omega))).drew
 have Cc : Box W7 (w.heap.size + 1 + 1) [.int .i64 b.x, .int .i64 b.y] 30 := by rw [hW]; exact (((((((Bc.set_ne ⟨w.heap.size, 0, none⟩ (.int .i64 c.x) (by show (w.heap.size : Nat) ≠ _; omega)).set_ne ⟨w.heap.size, 1, none⟩ (.int .i64 c.y) (by show (w.heap.size : Nat) ≠ _; omega)).set_ne ⟨w.heap.size + 1, 0, none⟩ (.int .i64 a.x) (by show (w.heap.size + 1 : Nat) ≠ _; omega)).set_ne ⟨w.heap.size + 1, 1, none⟩ (.int .i64 a.y) (by show (w.heap.size + 1 : Nat) ≠ _; omega)).set 0 (.int .i64 b.x)).set 1 (.int .i64 b.y))).drew
 have Cr : Box W7 (w.heap.size + 1 + 1 + 1) [.int .i64 0, .int .i64 0, .int .i64 0, .int .i64 0, .int .i64 0, .int .i64 0] 38 := by rw [hW]; exact (((((((Br.set_ne ⟨w.heap.size, 0, none⟩ (.int .i64 c.x) (by show (w.heap.size : Nat) ≠ _; omega)).set_ne ⟨w.heap.size, 1, none⟩ (.int .i64 c.y) (by show (w.heap.size : Nat) ≠ _; omega)).set_ne ⟨w.heap.size + 1, 0, none⟩ (.int .i64 a.x) (by show (w.heap.size + 1 : Nat) ≠ _; omega)).set_ne ⟨w.heap.size + 1, 1, none⟩ (.int .i64 a.y) (by show (w.heap.size + 1 : Nat) ≠ _; omega)).set_ne ⟨w.heap.size + 1 + 1, 0, none⟩ (.int .i64 b.x) (by show (w.heap.size + 1 + 1 : Nat) ≠ _; omega)).set_ne ⟨w.heap.size + 1 + 1, 1, none⟩ (.int .i64 b.y) (by show (w.heap.size + 1 + 1 : Nat) ≠ _; omega))).drew
 replace hw : Below w.heap.size w W7 := by have hl := hw.size; rw [hW]; go_grown
 clear Fa Fb Fc Fr
 clear hW Ba Bb Bc Br
 have Ba := Ca
 have Bb := Cb
 have Bc := Cc
 have Br := Cr
 clear Ca Cb Cc Cr
 try rw [rounds_succ]
 have Fa := Ba.f
 have Fb := Bb.f
 have Fc := Bc.f
 have Fr := Br.f
 go_wp2_with fail
 refine (kac _).mono ?_
 rintro e w8 ⟨rfl, hb⟩
 clear Fa Fb Fc Fr
 replace Ba := Ba.ee hb
 replace Bb := Bb.ee hb
 replace Bc := Bc.ee hb
 replace Br := Br.ee hb
 replace hw := upB hw hb
 clear hb
 have Fa := Ba.f
 have Fb := Bb.f
 have Fc := Bc.f
 have Fr := Br.f
 go_wp2_with fail
 refine (kbc _).mono ?_
 rintro e w9 ⟨rfl, hb⟩
 clear Fa Fb Fc Fr
 replace Ba := Ba.ee hb
 replace Bb := Bb.ee hb
 replace Bc := Bc.ee hb
 replace Br := Br.ee hb
 replace hw := upB hw hb
 clear hb
 have Fa := Ba.f
 have Fb := Bb.f
 have Fc := Bc.f
 have Fr := Br.f
 go_wp2_with fail
 refine bodyPost_ret (v := .tuple #[.agg #[.int .i64 c.x, .int .i64 c.y, .int .i64 a.x, .int .i64 a.y, .int .i64 b.x, .int .i64 b.y], .bool true]) (by simp [results, Tryz.results47, go_sem, Fr]) rfl ⟨rfl, by have hl := hw.size; go_grown⟩
theorem rmake_p3 (a b c : Pt) (h0 : ori a b c = 1) (tba : decide (cmpP b a < 0) = false) (tca : decide (cmpP c a < 0) = true) (tcb : decide (cmpP c b < 0) = true) (tac : decide (cmpP a c < 0) = false) (tbc : decide (cmpP b c < 0) = false) (w : World) :
    Calls Tryz.prog 47 #[.agg #[.int .i64 a.x, .int .i64 a.y], .agg #[.int .i64 b.x, .int .i64 b.y], .agg #[.int .i64 c.x, .int .i64 c.y]] w fun e w' => e = .returned (.tuple #[.agg #[.int .i64 c.x, .int .i64 c.y, .int .i64 a.x, .int .i64 a.y, .int .i64 b.x, .int .i64 b.y], .bool true]) ∧ Below w.heap.size w w' := by
 have co := zA7 a b c
 rw [h0] at co
 clear h0
 have kba := zAb b a
 generalize cmpP b a = nba at *
 have kca := zAb c a
 generalize cmpP c a = nca at *
 have kcb := zAb c b
 generalize cmpP c b = ncb at *
 have kac := zAb a c
 generalize cmpP a c = nac at *
 have kbc := zAb b c
 generalize cmpP b c = nbc at *
 go_enter Tryz.func47, Tryz.ntmps47
 go_wp2_with fail
 refine zA1 fun W1 hW => ?_
 have Ba : Box W1 (w.heap.size) [.int .i64 a.x, .int .i64 a.y] 30 := by rw [hW]; exact (((Box.new rfl).old _).old _).old _
 have Bb : Box W1 (w.heap.size + 1) [.int .i64 b.x, .int .i64 b.y] 30 := by rw [hW]; exact ((Box.new (by simp)).old _).old _
 have Bc : Box W1 (w.heap.size + 1 + 1) [.int .i64 c.x, .int .i64 c.y] 30 := by rw [hW]; exact (Box.new (by simp)).old _
 have Br : Box W1 (w.heap.size + 1 + 1 + 1) [.int .i64 0, .int .i64 0, .int .i64 0, .int .i64 0, .int .i64 0, .int .i64 0] 38 := by rw [hW]; exact Box.new (by simp)
 have hw : Below w.heap.size w W1 := by rw [hW]; go_grown
 clear hW
 refine (co _).mono ?_
 rintro e w2 ⟨rfl, hb⟩
 replace Ba := Ba.ee hb
 replace Bb := Bb.ee hb
 replace Bc := Bc.ee hb
 replace Br := Br.ee hb
 replace hw := upB hw hb
 clear hb
 have Fa := Ba.f
 have Fb := Bb.f
 have Fc := Bc.f
 have Fr := Br.f
 go_wp2_with fail
 refine zA2 fun W3 hW => ?_
 replace hw : Below w.heap.size w W3 := by rw [hW]; exact hw
 replace Ba : Box W3 (w.heap.size) [.int .i64 a.x, .int .i64 a.y] 30 := by rw [hW]; exact Ba
 replace Bb : Box W3 (w.heap.size + 1) [.int .i64 b.x, .int .i64 b.y] 30 := by rw [hW]; exact Bb
 replace Bc : Box W3 (w.heap.size + 1 + 1) [.int .i64 c.x, .int .i64 c.y] 30 := by rw [hW]; exact Bc
 replace Br : Box W3 (w.heap.size + 1 + 1 + 1) [.int .i64 0, .int .i64 0, .int .i64 0, .int .i64 0, .int .i64 0, .int .i64 0] 38 := by rw [hW]; exact Br
 clear hW
 clear Fa Fb Fc Fr
 refine wp_loop_rounds 4 ?_
 try rw [rounds_succ]
 have Fa := Ba.f
 have Fb := Bb.f
 have Fc := Bc.f
 have Fr := Br.f
 go_wp2_with fail
 refine (kba _).mono ?_
 rintro e w4 ⟨rfl, hb⟩
 clear Fa Fb Fc Fr
 replace Ba := Ba.ee hb
 replace Bb := Bb.ee hb
 replace Bc := Bc.ee hb
 replace Br := Br.ee hb
 replace hw := upB hw hb
 clear hb
 have Fa := Ba.f
 have Fb := Bb.f
 have Fc := Bc.f
 have Fr := Br.f
 go_wp2_with fail
 refine (kca _).mono ?_
 rintro e w5 ⟨rfl, hb⟩
 clear Fa Fb Fc Fr
 replace Ba := Ba.ee hb
 replace Bb := Bb.ee hb
 replace Bc := Bc.ee hb
 replace Br := Br.ee hb
 replace hw := upB hw hb
 clear hb
 have Fa := Ba.f
 have Fb := Bb.f
 have Fc := Bc.f
 have Fr := Br.f
 go_wp2_with fail
 go_region
 go_wp2_with fail
 refine zA2 fun W6 hW => ?_
 have Ca : Box W6 (w.heap.size) [.int .i64 b.x, .int .i64 b.y] 30 := by rw [hW]; exact (((((((Ba.set 0 (.int .i64 b.x)).set 1 (.int .i64 b.y)).set_ne ⟨w.heap.size + 1, 0, none⟩ (.int .i64 c.x) (by show (w.heap.size + 1 : Nat) ≠ _; omega)).set_ne ⟨w.heap.size + 1, 1, none⟩ (.int .i64 c.y) (by show (w.heap.size + 1 : Nat) ≠ _; omega)).set_ne ⟨w.heap.size + 1 + 1, 0, none⟩ (.int .i64 a.x) (by show (w.heap.size + 1 + 1 : Nat) ≠ _; omega)).set_ne ⟨w.heap.size + 1 + 1, 1, none⟩ (.int .i64 a.y) (by show (w.heap.size + 1 + 1 : Nat) ≠ _; omega))).drew
 have Cb : Box W6 (w.heap.size + 1) [.int .i64 c.x, .int .i64 c.y] 30 := by rw [hW]; exact (((((((Bb.set_ne ⟨w.heap.size, 0, none⟩ (.int .i64 b.x) (by show (w.heap.size : Nat) ≠ _; omega)).set_ne ⟨w.heap.size, 1, none⟩ (.int .i64 b.y) (by show (w.heap.size : Nat) ≠ _; omega)).set 0 (.int .i64 c.x)).set 1 (.int .i64 c.y)).set_ne ⟨w.heap.size + 1 + 1, 0, none⟩ (.int .i64 a.x) (by show (w.heap.size + 1 + 1 : Nat) ≠ _; omega)).set_ne ⟨w.heap.size + 1 + 1, 1, none⟩ (.int .i64 a.y) (by show (w.heap.size + 1 + 1 : Nat) ≠ _; omega))).drew
 have Cc : Box W6 (w.heap.size + 1 + 1) [.int .i64 a.x, .int .i64 a.y] 30 := by rw [hW]; exact (((((((Bc.set_ne ⟨w.heap.size, 0, none⟩ (.int .i64 b.x) (by show (w.heap.size : Nat) ≠ _; omega)).set_ne ⟨w.heap.size, 1, none⟩ (.int .i64 b.y) (by show (w.heap.size : Nat) ≠ _; omega)).set_ne ⟨w.heap.size + 1, 0, none⟩ (.int .i64 c.x) (by show (w.heap.size + 1 : Nat) ≠ _; omega)).set_ne ⟨w.heap.size + 1, 1, none⟩ (.int .i64 c.y) (by show (w.heap.size + 1 : Nat) ≠ _; omega)).set 0 (.int .i64 a.x)).set 1 (.int .i64 a.y))).drew
 have Cr : Box W6 (w.heap.size + 1 + 1 + 1) [.int .i64 0, .int .i64 0, .int .i64 0, .int .i64 0, .int .i64 0, .int .i64 0] 38 := by rw [hW]; exact (((((((Br.set_ne ⟨w.heap.size, 0, none⟩ (.int .i64 b.x) (by show (w.heap.size : Nat) ≠ _; omega)).set_ne ⟨w.heap.size, 1, none⟩ (.int .i64 b.y) (by show (w.heap.size : Nat) ≠ _; omega)).set_ne ⟨w.heap.size + 1, 0, none⟩ (.int .i64 c.x) (by show (w.heap.size + 1 : Nat) ≠ _; omega)).set_ne ⟨w.heap.size + 1, 1, none⟩ (.int .i64 c.y) (by show (w.heap.size + 1 : Nat) ≠ _; omega)).set_ne ⟨w.heap.size + 1 + 1, 0, none⟩ (.int .i64 a.x) (by show (w.heap.size + 1 + 1 : Nat) ≠ _; omega)).set_ne ⟨w.heap.size + 1 + 1, 1, none⟩ (.int .i64 a.y) (by show (w.heap.size + 1 + 1 : Nat) ≠ _; omega))).drew
 replace hw : Below w.heap.size w W6 := by have hl := hw.size; rw [hW]; go_grown
 clear Fa Fb Fc Fr
 clear hW Ba Bb Bc Br
 have Ba := Ca
 have Bb := Cb
 have Bc := Cc
 have Br := Cr
 clear Ca Cb Cc Cr
 try rw [rounds_succ]
 have Fa := Ba.f
 have Fb := Bb.f
 have Fc := Bc.f
 have Fr := Br.f
 go_wp2_with fail
 refine (kcb _).mono ?_
 rintro e w7 ⟨rfl, hb⟩
 clear Fa Fb Fc Fr
 replace Ba := Ba.ee hb
 replace Bb := Bb.ee hb
 replace Bc := Bc.ee hb
 replace Br := Br.ee hb
 replace hw := upB hw hb
 clear hb
 have Fa := Ba.f
 have Fb := Bb.f
 have Fc := Bc.f
 have Fr := Br.f
 go_wp2_with fail
 go_region
 go_wp2_with fail
 refine zA2 fun W8 hW => ?_
 have Ca : Box W8 (w.heap.size) [.int .i64 c.x, .int .i64 c.y] 30 := by rw [hW]; exact (((((((Ba.set 0 (.int .i64 c.x)).set 1 (.int .i64 c.y)).set_ne ⟨w.heap.size + 1, 0, none⟩ (.int .i64 a.x) (by show (w.heap.size + 1 : Nat) ≠ _; omega)).set_ne ⟨w.heap.size + 1, 1, none⟩ (.int .i64 a.y) (by show (w.heap.size + 1 : Nat) ≠ _; omega)).set_ne ⟨w.heap.size + 1 + 1, 0, none⟩ (.int .i64 b.x) (by show (w.heap.size + 1 + 1 : Nat) ≠ _; omega)).set_ne ⟨w.heap.size + 1 + 1, 1, none⟩ (.int .i64 b.y) (by show (w.heap.size + 1 + 1 : Nat) ≠ _; omega))).drew
 have Cb : Box W8 (w.heap.size + 1) [.int .i64 a.x, .int .i64 a.y] 30 := by rw [hW]; exact (((((((Bb.set_ne ⟨w.heap.size, 0, none⟩ (.int .i64 c.x) (by show (w.heap.size : Nat) ≠ _; omega)).set_ne ⟨w.heap.size, 1, none⟩ (.int .i64 c.y) (by show (w.heap.size : Nat) ≠ _; omega)).set 0 (.int .i64 a.x)).set 1 (.int .i64 a.y)).set_ne ⟨w.heap.size + 1 + 1, 0, none⟩ (.int .i64 b.x) (by show (w.heap.size + 1 + 1 : Nat) ≠ _; omega)).set_ne ⟨w.heap.size + 1 + 1, 1, none⟩ (.int .i64 b.y) (by show (w.heap.size + 1 + 1 : Nat) ≠ _; omega))).drew
 have Cc : Box W8 (w.heap.size + 1 + 1) [.int .i64 b.x, .int .i64 b.y] 30 := by rw [hW]; exact (((((((Bc.set_ne ⟨w.heap.size, 0, none⟩ (.int .i64 c.x) (by show (w.heap.size : Nat) ≠ _; omega)).set_ne ⟨w.heap.size, 1, none⟩ (.int .i64 c.y) (by show (w.heap.size : Nat) ≠ _; omega)).set_ne ⟨w.heap.size + 1, 0, none⟩ (.int .i64 a.x) (by show (w.heap.size + 1 : Nat) ≠ _; omega)).set_ne ⟨w.heap.size + 1, 1, none⟩ (.int .i64 a.y) (by show (w.heap.size + 1 : Nat) ≠ _; omega)).set 0 (.int .i64 b.x)).set 1 (.int .i64 b.y))).drew
 have Cr : Box W8 (w.heap.size + 1 + 1 + 1) [.int .i64 0, .int .i64 0, .int .i64 0, .int .i64 0, .int .i64 0, .int .i64 0] 38 := by rw [hW]; exact (((((((Br.set_ne ⟨w.heap.size, 0, none⟩ (.int .i64 c.x) (by show (w.heap.size : Nat) ≠ _; omega)).set_ne ⟨w.heap.size, 1, none⟩ (.int .i64 c.y) (by show (w.heap.size : Nat) ≠ _; omega)).set_ne ⟨w.heap.size + 1, 0, none⟩ (.int .i64 a.x) (by show (w.heap.size + 1 : Nat) ≠ _; omega)).set_ne ⟨w.heap.size + 1, 1, none⟩ (.int .i64 a.y) (by show (w.heap.size + 1 : Nat) ≠ _; omega)).set_ne ⟨w.heap.size + 1 + 1, 0, none⟩ (.int .i64 b.x) (by show (w.heap.size + 1 + 1 : Nat) ≠ _; omega)).set_ne ⟨w.heap.size + 1 + 1, 1, none⟩ (.int .i64 b.y) (by show (w.heap.size + 1 + 1 : Nat) ≠ _; omega))).drew
 replace hw : Below w.heap.size w W8 := by have hl := hw.size; rw [hW]; go_grown
 clear Fa Fb Fc Fr
 clear hW Ba Bb Bc Br
 have Ba := Ca
 have Bb := Cb
 have Bc := Cc
 have Br := Cr
 clear Ca Cb Cc Cr
 try rw [rounds_succ]
 have Fa := Ba.f
 have Fb := Bb.f
 have Fc := Bc.f
 have Fr := Br.f
 go_wp2_with fail
 refine (kac _).mono ?_
 rintro e w9 ⟨rfl, hb⟩
 clear Fa Fb Fc Fr
 replace Ba := Ba.ee hb
 replace Bb := Bb.ee hb
 replace Bc := Bc.ee hb
 replace Br := Br.ee hb
 replace hw := upB hw hb
 clear hb
 have Fa := Ba.f
 have Fb := Bb.f
 have Fc := Bc.f
 have Fr := Br.f
 go_wp2_with fail
 refine (kbc _).mono ?_
 rintro e w10 ⟨rfl, hb⟩
 clear Fa Fb Fc Fr
 replace Ba := Ba.ee hb
 replace Bb := Bb.ee hb
 replace Bc := Bc.ee hb
 replace Br := Br.ee hb
 replace hw := upB hw hb
 clear hb
 have Fa := Ba.f
 have Fb := Bb.f
 have Fc := Bc.f
 have Fr := Br.f
 go_wp2_with fail
 refine bodyPost_ret (v := .tuple #[.agg #[.int .i64 c.x, .int .i64 c.y, .int .i64 a.x, .int .i64 a.y, .int .i64 b.x, .int .i64 b.y], .bool true]) (by simp [results, Tryz.results47, go_sem, Fr]) rfl ⟨rfl, by have hl := hw.size; go_grown⟩
theorem rmake_n0 (a b c : Pt) (h0 : ori a b c = -1) (tca : decide (cmpP c a < 0) = false) (tba : decide (cmpP b a < 0) = false) (w : World) :
    Calls Tryz.prog 47 #[.agg #[.int .i64 a.x, .int .i64 a.y], .agg #[.int .i64 b.x, .int .i64 b.y], .agg #[.int .i64 c.x, .int .i64 c.y]] w fun e w' => e = .returned (.tuple #[.agg #[.int .i64 a.x, .int .i64 a.y, .int .i64 c.x, .int .i64 c.y, .int .i64 b.x, .int .i64 b.y], .bool true]) ∧ Below w.heap.size w w' := by
 have co := zA7 a b c
 rw [h0] at co
 clear h0
 have kca := zAb c a
 generalize cmpP c a = nca at *
 have kba := zAb b a
 generalize cmpP b a = nba at *
 go_enter Tryz.func47, Tryz.ntmps47
 go_wp2_with fail
 refine zA1 fun W1 hW => ?_
 have Ba : Box W1 (w.heap.size) [.int .i64 a.x, .int .i64 a.y] 30 := by rw [hW]; exact (((Box.new rfl).old _).old _).old _
 have Bb : Box W1 (w.heap.size + 1) [.int .i64 b.x, .int .i64 b.y] 30 := by rw [hW]; exact ((Box.new (by simp)).old _).old _
 have Bc : Box W1 (w.heap.size + 1 + 1) [.int .i64 c.x, .int .i64 c.y] 30 := by rw [hW]; exact (Box.new (by simp)).old _
 have Br : Box W1 (w.heap.size + 1 + 1 + 1) [.int .i64 0, .int .i64 0, .int .i64 0, .int .i64 0, .int .i64 0, .int .i64 0] 38 := by rw [hW]; exact Box.new (by simp)
 have hw : Below w.heap.size w W1 := by rw [hW]; go_grown
 clear hW
 refine (co _).mono ?_
 rintro e w2 ⟨rfl, hb⟩
 replace Ba := Ba.ee hb
 replace Bb := Bb.ee hb
 replace Bc := Bc.ee hb
 replace Br := Br.ee hb
 replace hw := upB hw hb
 clear hb
 have Fa := Ba.f
 have Fb := Bb.f
 have Fc := Bc.f
 have Fr := Br.f
 go_wp2_with fail
 refine zA2 fun W3 hW => ?_
 have Ca : Box W3 (w.heap.size) [.int .i64 a.x, .int .i64 a.y] 30 := by rw [hW]; exact ((((Ba.set_ne ⟨w.heap.size + 1, 0, none⟩ (.int .i64 c.x) (by show (w.heap.size + 1 : Nat) ≠ _; omega)).set_ne ⟨w.heap.size + 1, 1, none⟩ (.int .i64 c.y) (by show (w.heap.size + 1 : Nat) ≠ _; omega)).set_ne ⟨w.heap.size + 1 + 1, 0, none⟩ (.int .i64 b.x) (by show (w.heap.size + 1 + 1 : Nat) ≠ _; omega)).set_ne ⟨w.heap.size + 1 + 1, 1, none⟩ (.int .i64 b.y) (by show (w.heap.size + 1 + 1 : Nat) ≠ _; omega))
 have Cb : Box W3 (w.heap.size + 1) [.int .i64 c.x, .int .i64 c.y] 30 := by rw [hW]; exact ((((Bb.set 0 (.int .i64 c.x)).set 1 (.int .i64 c.y)).set_ne ⟨w.heap.size + 1 + 1, 0, none⟩ (.int .i64 b.x) (by show (w.heap.size + 1 + 1 : Nat) ≠ _; omega)).set_ne ⟨w.heap.size + 1 + 1, 1, none⟩ (.int .i64 b.y) (by show (w.heap.size + 1 + 1 : Nat) ≠ _; omega))
 have Cc : Box W3 (w.heap.size + 1 + 1) [.int .i64 b.x, .int .i64 b.y] 30 := by rw [hW]; exact ((((Bc.set_ne ⟨w.heap.size + 1, 0, none⟩ (.int .i64 c.x) (by show (w.heap.size + 1 : Nat) ≠ _; omega)).set_ne ⟨w.heap.size + 1, 1, none⟩ (.int .i64 c.y) (by show (w.heap.size + 1 : Nat) ≠ _; omega)).set 0 (.int .i64 b.x)).set 1 (.int .i64 b.y))
 have Cr : Box W3 (w.heap.size + 1 + 1 + 1) [.int .i64 0, .int .i64 0, .int .i64 0, .int .i64 0, .int .i64 0, .int .i64 0] 38 := by rw [hW]; exact ((((Br.set_ne ⟨w.heap.size + 1, 0, none⟩ (.int .i64 c.x) (by show (w.heap.size + 1 : Nat) ≠ _; omega)).set_ne ⟨w.heap.size + 1, 1, none⟩ (.int .i64 c.y) (by show (w.heap.size + 1 : Nat) ≠ _; omega)).set_ne ⟨w.heap.size + 1 + 1, 0, none⟩ (.int .i64 b.x) (by show (w.heap.size + 1 + 1 : Nat) ≠ _; omega)).set_ne ⟨w.heap.size + 1 + 1, 1, none⟩ (.int .i64 b.y) (by show (w.heap.size + 1 + 1 : Nat) ≠ _; omega))
 replace hw : Below w.heap.size w W3 := by have hl := hw.size; rw [hW]; go_grown
 clear Fa Fb Fc Fr
 clear hW Ba Bb Bc Br
 have Ba := Ca
 have Bb := Cb
 have Bc := Cc
 have Br := Cr
 clear Ca Cb Cc Cr
 refine wp_loop_rounds 4 ?_
 try rw [rounds_succ]
 have Fa := Ba.f
 have Fb := Bb.f
 have Fc := Bc.f
 have Fr := Br.f
 go_wp2_with fail
 refine (kca _).mono ?_
 rintro e w4 ⟨rfl, hb⟩
 clear Fa Fb Fc Fr
 replace Ba := Ba.ee hb
 replace Bb := Bb.ee hb
 replace Bc := Bc.ee hb
 replace Br := Br.ee hb
 replace hw := upB hw hb
 clear hb
 have Fa := Ba.f
 have Fb := Bb.f
 have Fc := Bc.f
 have Fr := Br.f
 go_wp2_with fail
 refine (kba _).mono ?_
 rintro e w5 ⟨rfl, hb⟩
 clear Fa Fb Fc Fr
 replace Ba := Ba.ee hb
 replace Bb := Bb.ee hb
 replace Bc := Bc.ee hb
 replace Br := Br.ee hb
 replace hw := upB hw hb
 clear hb
 have Fa := Ba.f
 have Fb := Bb.f
 have Fc := Bc.f
 have Fr := Br.f
 go_wp2_with fail
 refine bodyPost_ret (v := .tuple #[.agg #[.int .i64 a.x, .int .i64 a.y, .int .i64 c.x, .int .i64 c.y, .int .i64 b.x, .int .i64 b.y], .bool true]) (by simp [results, Tryz.results47, go_sem, Fr]) rfl ⟨rfl, by have hl := hw.size; go_grown⟩
theorem rmake_n1 (a b c : Pt) (h0 : ori a b c = -1) (tca : decide (cmpP c a < 0) = true) (tbc : decide (cmpP b c < 0) = false) (tac : decide (cmpP a c < 0) = false) (w : World) :
    Calls Tryz.prog 47 #[.agg #[.int .i64 a.x, .int .i64 a.y], .agg #[.int .i64 b.x, .int .i64 b.y], .agg #[.int .i64 c.x, .int .i64 c.y]] w fun e w' => e = .returned (.tuple #[.agg #[.int .i64 c.x, .int .i64 c.y, .int .i64 b.x, .int .i64 b.y, .int .i64 a.x, .int .i64 a.y], .bool true]) ∧ Below w.heap.size w w' := by
 have co := zA7 a b c
 rw [h0] at co
 clear h0
 have kca := zAb c a
 generalize cmpP c a = nca at *
 have kbc := zAb b c
 generalize cmpP b c = nbc at *
 have kac := zAb a c
 generalize cmpP a c = nac at *
 go_enter Tryz.func47, Tryz.ntmps47
 go_wp2_with fail
 refine zA1 fun W1 hW => ?_
 have Ba : Box W1 (w.heap.size) [.int .i64 a.x, .int .i64 a.y] 30 := by rw [hW]; exact (((Box.new rfl).old _).old _).old _
 have Bb : Box W1 (w.heap.size + 1) [.int .i64 b.x, .int .i64 b.y] 30 := by rw [hW]; exact ((Box.new (by simp)).old _).old _
 have Bc : Box W1 (w.heap.size + 1 + 1) [.int .i64 c.x, .int .i64 c.y] 30 := by rw [hW]; exact (Box.new (by simp)).old _
 have Br : Box W1 (w.heap.size + 1 + 1 + 1) [.int .i64 0, .int .i64 0, .int .i64 0, .int .i64 0, .int .i64 0, .int .i64 0] 38 := by rw [hW]; exact Box.new (by simp)
 have hw : Below w.heap.size w W1 := by rw [hW]; go_grown
 clear hW
 refine (co _).mono ?_
 rintro e w2 ⟨rfl, hb⟩
 replace Ba := Ba.ee hb
 replace Bb := Bb.ee hb
 replace Bc := Bc.ee hb
 replace Br := Br.ee hb
 replace hw := upB hw hb
 clear hb
 have Fa := Ba.f
 have Fb := Bb.f
 have Fc := Bc.f
 have Fr := Br.f
 go_wp2_with fail
 refine zA2 fun W3 hW => ?_
 have Ca : Box W3 (w.heap.size) [.int .i64 a.x, .int .i64 a.y] 30 := by rw [hW]; exact ((((Ba.set_ne ⟨w.heap.size + 1, 0, none⟩ (.int .i64 c.x) (by show (w.heap.size + 1 : Nat) ≠ _; omega)).set_ne ⟨w.heap.size + 1, 1, none⟩ (.int .i64 c.y) (by show (w.heap.size + 1 : Nat) ≠ _; omega)).set_ne ⟨w.heap.size + 1 + 1, 0, none⟩ (.int .i64 b.x) (by show (w.heap.size + 1 + 1 : Nat) ≠ _; omega)).set_ne ⟨w.heap.size + 1 + 1, 1, none⟩ (.int .i64 b.y) (by show (w.heap.size + 1 + 1 : Nat) ≠ _; omega))
 have Cb : Box W3 (w.heap.size + 1) [.int .i64 c.x, .int .i64 c.y] 30 := by rw [hW]; exact ((((Bb.set 0 (.int .i64 c.x)).set 1 (.int .i64 c.y)).set_ne ⟨w.heap.size + 1 + 1, 0, none⟩ (.int .i64 b.x) (by show (w.heap.size + 1 + 1 : Nat) ≠ _; omega)).set_ne ⟨w.heap.size + 1 + 1, 1, none⟩ (.int .i64 b.y) (by show (w.heap.size + 1 + 1 : Nat) ≠ _; omega))
 have Cc : Box W3 (w.heap.size + 1 + 1) [.int .i64 b.x, .int .i64 b.y] 30 := by rw [hW]; exact ((((Bc.set_ne ⟨w.heap.size + 1, 0, none⟩ (.int .i64 c.x) (by show (w.heap.size + 1 : Nat) ≠ _; omega)).set_ne ⟨w.heap.size + 1, 1, none⟩ (.int .i64 c.y) (by show (w.heap.size + 1 : Nat) ≠ _; omega)).set 0 (.int .i64 b.x)).set 1 (.int .i64 b.y))
 have Cr : Box W3 (w.heap.size + 1 + 1 + 1) [.int .i64 0, .int .i64 0, .int .i64 0, .int .i64 0, .int .i64 0, .int .i64 0] 38 := by rw [hW]; exact ((((Br.set_ne ⟨w.heap.size + 1, 0, none⟩ (.int .i64 c.x) (by show (w.heap.size + 1 : Nat) ≠ _; omega)).set_ne ⟨w.heap.size + 1, 1, none⟩ (.int .i64 c.y) (by show (w.heap.size + 1 : Nat) ≠ _; omega)).set_ne ⟨w.heap.size + 1 + 1, 0, none⟩ (.int .i64 b.x) (by show (w.heap.size + 1 + 1 : Nat) ≠ _; omega)).set_ne ⟨w.heap.size + 1 + 1, 1, none⟩ (.int .i64 b.y) (by show (w.heap.size + 1 + 1 : Nat) ≠ _; omega))
 replace hw : Below w.heap.size w W3 := by have hl := hw.size; rw [hW]; go_grown
 clear Fa Fb Fc Fr
 clear hW Ba Bb Bc Br
 have Ba := Ca
 have Bb := Cb
 have Bc := Cc
 have Br := Cr
 clear Ca Cb Cc Cr
 refine wp_loop_rounds 4 ?_
 try rw [rounds_succ]
 have Fa := Ba.f
 have Fb := Bb.f
 have Fc := Bc.f
 have Fr := Br.f
 go_wp2_with fail
 refine (kca _).mono ?_
 rintro e w4 ⟨rfl, hb⟩
 clear Fa Fb Fc Fr
 replace Ba := Ba.ee hb
 replace Bb := Bb.ee hb
 replace Bc := Bc.ee hb
 replace Br := Br.ee hb
 replace hw := upB hw hb
 clear hb
 have Fa := Ba.f
 have Fb := Bb.f
 have Fc := Bc.f
 have Fr := Br.f
 go_wp2_with fail
 go_region
 go_wp2_with fail
 refine zA2 fun W5 hW => ?_
 have Ca : Box W5 (w.heap.size) [.int .i64 c.x, .int .i64 c.y] 30 := by rw [hW]; exact (((((((Ba.set 0 (.int .i64 c.x)).set 1 (.int .i64 c.y)).set_ne ⟨w.heap.size + 1, 0, none⟩ (.int .i64 b.x) (by show (w.heap.size + 1 : Nat) ≠ _; omega)).set_ne ⟨w.heap.size + 1, 1, none⟩ (.int .i64 b.y) (by show (w.heap.size + 1 : Nat) ≠ _; omega)).set_ne ⟨w.heap.size + 1 + 1, 0, none⟩ (.int .i64 a.x) (by show (w.heap.size + 1 + 1 : Nat) ≠ _; omega)).set_ne ⟨w.heap.size + 1 + 1, 1, none⟩ (.int .i64 a.y) (by show (w.heap.size + 1 + 1 : Nat) ≠ _; omega))).drew
 have Cb : Box W5 (w.heap.size + 1) [.int .i64 b.x, .int .i64 b.y] 30 := by rw [hW]; exact (((((((Bb.set_ne ⟨w.heap.size, 0, none⟩ (.int .i64 c.x) (by show (w.heap.size : Nat) ≠ _; omega)).set_ne ⟨w.heap.size, 1, none⟩ (.int .i64 c.y) (by show (w.heap.size : Nat) ≠ _; omega)).set 0 (.int .i64 b.x)).set 1 (.int .i64 b.y)).set_ne ⟨w.heap.size + 1 + 1, 0, none⟩ (.int .i64 a.x) (by show (w.heap.size + 1 + 1 : Nat) ≠ _; omega)).set_ne ⟨w.heap.size + 1 + 1, 1, none⟩ (.int .i64 a.y) (by show (w.heap.size + 1 + 1 : Nat) ≠ _; omega))).drew
 have Cc : Box W5 (w.heap.size + 1 + 1) [.int .i64 a.x, .int .i64 a.y] 30 := by rw [hW]; exact (((((((Bc.set_ne ⟨w.heap.size, 0, none⟩ (.int .i64 c.x) (by show (w.heap.size : Nat) ≠ _; omega)).set_ne ⟨w.heap.size, 1, none⟩ (.int .i64 c.y) (by show (w.heap.size : Nat) ≠ _; omega)).set_ne ⟨w.heap.size + 1, 0, none⟩ (.int .i64 b.x) (by show (w.heap.size + 1 : Nat) ≠ _; omega)).set_ne ⟨w.heap.size + 1, 1, none⟩ (.int .i64 b.y) (by show (w.heap.size + 1 : Nat) ≠ _; omega)).set 0 (.int .i64 a.x)).set 1 (.int .i64 a.y))).drew
 have Cr : Box W5 (w.heap.size + 1 + 1 + 1) [.int .i64 0, .int .i64 0, .int .i64 0, .int .i64 0, .int .i64 0, .int .i64 0] 38 := by rw [hW]; exact (((((((Br.set_ne ⟨w.heap.size, 0, none⟩ (.int .i64 c.x) (by show (w.heap.size : Nat) ≠ _; omega)).set_ne ⟨w.heap.size, 1, none⟩ (.int .i64 c.y) (by show (w.heap.size : Nat) ≠ _; omega)).set_ne ⟨w.heap.size + 1, 0, none⟩ (.int .i64 b.x) (by show (w.heap.size + 1 : Nat) ≠ _; omega)).set_ne ⟨w.heap.size + 1, 1, none⟩ (.int .i64 b.y) (by show (w.heap.size + 1 : Nat) ≠ _; omega)).set_ne ⟨w.heap.size + 1 + 1, 0, none⟩ (.int .i64 a.x) (by show (w.heap.size + 1 + 1 : Nat) ≠ _; omega)).set_ne ⟨w.heap.size + 1 + 1, 1, none⟩ (.int .i64 a.y) (by show (w.heap.size + 1 + 1 : Nat) ≠ _; omega))).drew
 replace hw : Below w.heap.size w W5 := by have hl := hw.size; rw [hW]; go_grown
 clear Fa Fb Fc Fr
 clear hW Ba Bb Bc Br
 have Ba := Ca
 have Bb := Cb
 have Bc := Cc
 have Br := Cr
 clear Ca Cb Cc Cr
 try rw [rounds_succ]
 have Fa := Ba.f
 have Fb := Bb.f
 have Fc := Bc.f
 have Fr := Br.f
 go_wp2_with fail
 refine (kbc _).mono ?_
 rintro e w6 ⟨rfl, hb⟩
 clear Fa Fb Fc Fr
 replace Ba := Ba.ee hb
 replace Bb := Bb.ee hb
 replace Bc := Bc.ee hb
 replace Br := Br.ee hb
 replace hw := upB hw hb
 clear hb
 have Fa := Ba.f
 have Fb := Bb.f
 have Fc := Bc.f
 have Fr := Br.f
 go_wp2_with fail
 refine (kac _).mono ?_
 rintro e w7 ⟨rfl, hb⟩
 clear Fa Fb Fc Fr
 replace Ba := Ba.ee hb
 replace Bb := Bb.ee hb
 replace Bc := Bc.ee hb
 replace Br := Br.ee hb
 replace hw := upB hw hb
 clear hb
 have Fa := Ba.f
 have Fb := Bb.f
 have Fc := Bc.f
 have Fr := Br.f
 go_wp2_with fail
 refine bodyPost_ret (v := .tuple #[.agg #[.int .i64 c.x, .int .i64 c.y, .int .i64 b.x, .int .i64 b.y, .int .i64 a.x, .int .i64 a.y], .bool true]) (by simp [results, Tryz.results47, go_sem, Fr]) rfl ⟨rfl, by have hl := hw.size; go_grown⟩
theorem rmake_n2 (a b c : Pt) (h0 : ori a b c = -1) (tca : decide (cmpP c a < 0) = true) (tbc : decide (cmpP b c < 0) = true) (tab : decide (cmpP a b < 0) = false) (tcb : decide (cmpP c b < 0) = false) (w : World) :
    Calls Tryz.prog 47 #[.agg #[.int .i64 a.x, .int .i64 a.y], .agg #[.int .i64 b.x, .int .i64 b.y], .agg #[.int .i64 c.x, .int .i64 c.y]] w fun e w' => e = .returned (.tuple #[.agg #[.int .i64 b.x, .int .i64 b.y, .int .i64 a.x, .int .i64 a.y, .int .i64 c.x, .int .i64 c.y], .bool true]) ∧ Below w.heap.size w w' := by
 have co := zA7 a b c
 rw [h0] at co
 clear h0
 have kca := zAb c a
 generalize cmpP c a = nca at *
 have kbc := zAb b c
 generalize cmpP b c = nbc at *
 have kab := zAb a b
 generalize cmpP a b = nab at *
 have kcb := zAb c b
 generalize cmpP c b = ncb at *
 go_enter Tryz.func47, Tryz.ntmps47
 go_wp2_with fail
 refine zA1 fun W1 hW => ?_
 have Ba : Box W1 (w.heap.size) [.int .i64 a.x, .int .i64 a.y] 30 := by rw [hW]; exact (((Box.new rfl).old _).old _).old _
 have Bb : Box W1 (w.heap.size + 1) [.int .i64 b.x, .int .i64 b.y] 30 := by rw [hW]; exact ((Box.new (by simp)).old _).old _
 have Bc : Box W1 (w.heap.size + 1 + 1) [.int .i64 c.x, .int .i64 c.y] 30 := by rw [hW]; exact (Box.new (by simp)).old _
 have Br : Box W1 (w.heap.size + 1 + 1 + 1) [.int .i64 0, .int .i64 0, .int .i64 0, .int .i64 0, .int .i64 0, .int .i64 0] 38 := by rw [hW]; exact Box.new (by simp)
 have hw : Below w.heap.size w W1 := by rw [hW]; go_grown
 clear hW
 refine (co _).mono ?_
 rintro e w2 ⟨rfl, hb⟩
 replace Ba := Ba.ee hb
 replace Bb := Bb.ee hb
 replace Bc := Bc.ee hb
 replace Br := Br.ee hb
 replace hw := upB hw hb
 clear hb
 have Fa := Ba.f
 have Fb := Bb.f
 have Fc := Bc.f
 have Fr := Br.f
 go_wp2_with fail
 refine zA2 fun W3 hW => ?_
 have Ca : Box W3 (w.heap.size) [.int .i64 a.x, .int .i64 a.y] 30 := by rw [hW]; exact ((((Ba.set_ne ⟨w.heap.size + 1, 0, none⟩ (.int .i64 c.x) (by show (w.heap.size + 1 : Nat) ≠ _; omega)).set_ne ⟨w.heap.size + 1, 1, none⟩ (.int .i64 c.y) (by show (w.heap.size + 1 : Nat) ≠ _; omega)).set_ne ⟨w.heap.size + 1 + 1, 0, none⟩ (.int .i64 b.x) (by show (w.heap.size + 1 + 1 : Nat) ≠ _; omega)).set_ne ⟨w.heap.size + 1 + 1, 1, none⟩ (.int .i64 b.y) (by show (w.heap.size + 1 + 1 : Nat) ≠ _; omega))
 have Cb : Box W3 (w.heap.size + 1) [.int .i64 c.x, .int .i64 c.y] 30 := by rw [hW]; exact ((((Bb.set 0 (.int .i64 c.x)).set 1 (.int .i64 c.y)).set_ne ⟨w.heap.size + 1 + 1, 0, none⟩ (.int .i64 b.x) (by show (w.heap.size + 1 + 1 : Nat) ≠ _; omega)).set_ne ⟨w.heap.size + 1 + 1, 1, none⟩ (.int .i64 b.y) (by show (w.heap.size + 1 + 1 : Nat) ≠ _; omega))
 have Cc : Box W3 (w.heap.size + 1 + 1) [.int .i64 b.x, .int .i64 b.y] 30 := by rw [hW]; exact ((((Bc.set_ne ⟨w.heap.size + 1, 0, none⟩ (.int .i64 c.x) (by show (w.heap.size + 1 : Nat) ≠ _; omega)).set_ne ⟨w.heap.size + 1, 1, none⟩ (.int .i64 c.y) (by show (w.heap.size + 1 : Nat) ≠ _; omega)).set 0 (.int .i64 b.x)).set 1 (.int .i64 b.y))
 have Cr : Box W3 (w.heap.size + 1 + 1 + 1) [.int .i64 0, .int .i64 0, .int .i64 0, .int .i64 0, .int .i64 0, .int .i64 0] 38 := by rw [hW]; exact ((((Br.set_ne ⟨w.heap.size + 1, 0, none⟩ (.int .i64 c.x) (by show (w.heap.size + 1 : Nat) ≠ _; omega)).set_ne ⟨w.heap.size + 1, 1, none⟩ (.int .i64 c.y) (by show (w.heap.size + 1 : Nat) ≠ _; omega)).set_ne ⟨w.heap.size + 1 + 1, 0, none⟩ (.int .i64 b.x) (by show (w.heap.size + 1 + 1 : Nat) ≠ _; omega)).set_ne ⟨w.heap.size + 1 + 1, 1, none⟩ (.int .i64 b.y) (by show (w.heap.size + 1 + 1 : Nat) ≠ _; omega))
 replace hw : Below w.heap.size w W3 := by have hl := hw.size; rw [hW]; go_grown
 clear Fa Fb Fc Fr
 clear hW Ba Bb Bc Br
 have Ba := Ca
 have Bb := Cb
 have Bc := Cc
 have Br := Cr
 clear Ca Cb Cc Cr
 refine wp_loop_rounds 4 ?_
 try rw [rounds_succ]
 have Fa := Ba.f
 have Fb := Bb.f
 have Fc := Bc.f
 have Fr := Br.f
 go_wp2_with fail
 refine (kca _).mono ?_
 rintro e w4 ⟨rfl, hb⟩
 clear Fa Fb Fc Fr
 replace Ba := Ba.ee hb
 replace Bb := Bb.ee hb
 replace Bc := Bc.ee hb
 replace Br := Br.ee hb
 replace hw := upB hw hb
 clear hb
 have Fa := Ba.f
 have Fb := Bb.f
 have Fc := Bc.f
 have Fr := Br.f
 go_wp2_with fail
 go_region
 go_wp2_with fail
 refine zA2 fun W5 hW => ?_
 have Ca : Box W5 (w.heap.size) [.int .i64 c.x, .int .i64 c.y] 30 := by rw [hW]; exact (((((((Ba.set 0 (.int .i64 c.x)).set 1 (.int .i64 c.y)).set_ne ⟨w.heap.size + 1, 0, none⟩ (.int .i64 b.x) (by show (w.heap.size + 1 : Nat) ≠ _; omega)).set_ne ⟨w.heap.size + 1, 1, none⟩ (.int .i64 b.y) (by show (w.heap.size + 1 : Nat) ≠ _; omega)).set_ne ⟨w.heap.size + 1 + 1, 0, none⟩ (.int .i64 a.x) (by show (w.heap.size + 1 + 1 : Nat) ≠ _; omega)).set_ne ⟨w.heap.size + 1 + 1, 1, none⟩ (.int .i64 a.y) (by show (w.heap.size + 1 + 1 : Nat) ≠ _; omega))).drew
 have Cb : Box W5 (w.heap.size + 1) [.int .i64 b.x, .int .i64 b.y] 30 := by rw [hW]; exact (((((((Bb.set_ne ⟨w.heap.size, 0, none⟩ (.int .i64 c.x) (by show (w.heap.size : Nat) ≠ _; omega)).set_ne ⟨w.heap.size, 1, none⟩ (.int .i64 c.y) (by show (w.heap.size : Nat) ≠ _; omega)).set 0 (.int .i64 b.x)).set 1 (.int .i64 b.y)).set_ne ⟨w.heap.size + 1 + 1, 0, none⟩ (.int .i64 a.x) (by show (w.heap.size + 1 + 1 : Nat) ≠ _; omega)).set_ne ⟨w.heap.size + 1 + 1, 1, none⟩ (.int .i64 a.y) (by show (w.heap.size + 1 + 1 : Nat) ≠ _; omega))).drew
 have Cc : Box W5 (w.heap.size + 1 + 1) [.int .i64 a.x, .int .i64 a.y] 30 := by rw [hW]; exact (((((((Bc.set_ne ⟨w.heap.size, 0, none⟩ (.int .i64 c.x) (by show (w.heap.size : Nat) ≠ _; omega)).set_ne ⟨w.heap.size, 1, none⟩ (.int .i64 c.y) (by show (w.heap.size : Nat) ≠ _; omega)).set_ne ⟨w.heap.size + 1, 0, none⟩ (.int .i64 b.x) (by show (w.heap.size + 1 : Nat) ≠ _; omega)).set_ne ⟨w.heap.size + 1, 1, none⟩ (.int .i64 b.y) (by show (w.heap.size + 1 : Nat) ≠ _; omega)).set 0 (.int .i64 a.x)).set 1 (.int .i64 a.y))).drew
 have Cr : Box W5 (w.heap.size + 1 + 1 + 1) [.int .i64 0, .int .i64 0, .int .i64 0, .int .i64 0, .int .i64 0, .int .i64 0] 38 := by rw [hW]; exact (((((((Br.set_ne ⟨w.heap.size, 0, none⟩ (.int .i64 c.x) (by show (w.heap.size : Nat) ≠ _; omega)).set_ne ⟨w.heap.size, 1, none⟩ (.int .i64 c.y) (by show (w.heap.size : Nat) ≠ _; omega)).set_ne ⟨w.heap.size + 1, 0, none⟩ (.int .i64 b.x) (by show (w.heap.size + 1 : Nat) ≠ _; omega)).set_ne ⟨w.heap.size + 1, 1, none⟩ (.int .i64 b.y) (by show (w.heap.size + 1 : Nat) ≠ _; omega)).set_ne ⟨w.heap.size + 1 + 1, 0, none⟩ (.int .i64 a.x) (by show (w.heap.size + 1 + 1 : Nat) ≠ _; omega)).set_ne ⟨w.heap.size + 1 + 1, 1, none⟩ (.int .i64 a.y) (by show (w.heap.size + 1 + 1 : Nat) ≠ _; omega))).drew
 replace hw : Below w.heap.size w W5 := by have hl := hw.size; rw [hW]; go_grown
 clear Fa Fb Fc Fr
 clear hW Ba Bb Bc Br
 have Ba := Ca
 have Bb := Cb
 have Bc := Cc
 have Br := Cr
 clear Ca Cb Cc Cr
 try rw [rounds_succ]
 have Fa := Ba.f
 have Fb := Bb.f
 have Fc := Bc.f
 have Fr := Br.f
 go_wp2_with fail
 refine (kbc _).mono ?_
 rintro e w6 ⟨rfl, hb⟩
 clear Fa Fb Fc Fr
 replace Ba := Ba.ee hb
 replace Bb := Bb.ee hb
 replace Bc := Bc.ee hb
 replace Br := Br.ee hb
 replace hw := upB hw hb
 clear hb
 have Fa := Ba.f
 have Fb := Bb.f
 have Fc := Bc.f
 have Fr := Br.f
 go_wp2_with fail
 go_region
 go_wp2_with fail
 refine zA2 fun W7 hW => ?_
 have Ca : Box W7 (w.heap.size) [.int .i64 b.x, .int .i64 b.y] 30 := by rw [hW]; exact (((((((Ba.set 0 (.int .i64 b.x)).set 1 (.int .i64 b.y)).set_ne ⟨w.heap.size + 1, 0, none⟩ (.int .i64 a.x) (by show (w.heap.size + 1 : Nat) ≠ _; omega)).set_ne ⟨w.heap.size + 1, 1, none⟩ (.int .i64 a.y) (by show (w.heap.size + 1 : Nat) ≠ _; omega)).set_ne ⟨w.heap.size + 1 + 1, 0, none⟩ (.int .i64 c.x) (by show (w.heap.size + 1 + 1 : Nat) ≠ _; omega)).set_ne ⟨w.heap.size + 1 + 1, 1, none⟩ (.int .i64 c.y) (by show (w.heap.size + 1 + 1 : Nat) ≠ _; omega))).drew
 have Cb : Box W7 (w.heap.size + 1) [.int .i64 a.x, .int .i64 a.y] 30 := by rw [hW]; exact (((((((Bb.set_ne ⟨w.heap.size, 0, none⟩ (.int .i64 b.x) (by show (w.heap.size : Nat) ≠ _; omega)).set_ne ⟨w.heap.size, 1, none⟩ (.int .i64 b.y) (by show (w.heap.size : Nat) ≠ _; omega)).set 0 (.int .i64 a.x)).set 1 (.int .i64 a.y)).set_ne ⟨w.heap.size + 1 + 1, 0, none⟩ (.int .i64 c.x) (by show (w.heap.size + 1 + 1 : Nat) ≠ _; omega)).set_ne ⟨w.heap.size + 1 + 1, 1, none⟩ (.int .i64 c.y) (by show (w.heap.size + 1 + 1 : Nat) ≠ _; omega))).drew
 have Cc : Box W7 (w.heap.size + 1 + 1) [.int .i64 c.x, .int .i64 c.y] 30 := by rw [hW]; exact (((((((Bc.set_ne ⟨w.heap.size, 0, none⟩ (.int .i64 b.x) (by show (w.heap.size : Nat) ≠ _; omega)).set_ne ⟨w.heap.size, 1, none⟩ (.int .i64 b.y) (by show (w.heap.size : Nat) ≠ _; omega)).set_ne ⟨w.heap.size + 1, 0, none⟩ (.int .i64 a.x) (by show (w.heap.size + 1 : Nat) ≠ _; omega)).set_ne ⟨w.heap.size + 1, 1, none⟩ (.int .i64 a.y) (by show (w.heap.size + 1 : Nat) ≠ _; omega)).set 0 (.int .i64 c.x)).set 1 (.int .i64 c.y))).drew
 have Cr : Box W7 (w.heap.size + 1 + 1 + 1) [.int .i64 0, .int .i64 0, .int .i64 0, .int .i64 0, .int .i64 0, .int .i64 0] 38 := by rw [hW]; exact (((((((Br.set_ne ⟨w.heap.size, 0, none⟩ (.int .i64 b.x) (by show (w.heap.size : Nat) ≠ _; omega)).set_ne ⟨w.heap.size, 1, none⟩ (.int .i64 b.y) (by show (w.heap.size : Nat) ≠ _; omega)).set_ne ⟨w.heap.size + 1, 0, none⟩ (.int .i64 a.x) (by show (w.heap.size + 1 : Nat) ≠ _; omega)).set_ne ⟨w.heap.size + 1, 1, none⟩ (.int .i64 a.y) (by show (w.heap.size + 1 : Nat) ≠ _; omega)).set_ne ⟨w.heap.size + 1 + 1, 0, none⟩ (.int .i64 c.x) (by show (w.heap.size + 1 + 1 : Nat) ≠ _; omega)).set_ne ⟨w.heap.size + 1 + 1, 1, none⟩ (.int .i64 c.y) (by show (w.heap.size + 1 + 1 : Nat) ≠ _; omega))).drew
 replace hw : Below w.heap.size w W7 := by have hl := hw.size; rw [hW]; go_grown
 clear Fa Fb Fc Fr
 clear hW Ba Bb Bc Br
 have Ba := Ca
 have Bb := Cb
 have Bc := Cc
 have Br := Cr
 clear Ca Cb Cc Cr
 try rw [rounds_succ]
 have Fa := Ba.f
 have Fb := Bb.f
 have Fc := Bc.f
 have Fr := Br.f
 go_wp2_with fail
 refine (kab _).mono ?_
 rintro e w8 ⟨rfl, hb⟩
 clear Fa Fb Fc Fr
 replace Ba := Ba.ee hb
 replace Bb := Bb.ee hb
 replace Bc := Bc.ee hb
 replace Br := Br.ee hb
 replace hw := upB hw hb
 clear hb
 have Fa := Ba.f
 have Fb := Bb.f
 have Fc := Bc.f
 have Fr := Br.f
 go_wp2_with fail
 refine (kcb _).mono ?_
 rintro e w9 ⟨rfl, hb⟩
 clear Fa Fb Fc Fr
 replace Ba := Ba.ee hb
 replace Bb := Bb.ee hb
 replace Bc := Bc.ee hb
 replace Br := Br.ee hb
 replace hw := upB hw hb
 clear hb
 have Fa := Ba.f
 have Fb := Bb.f
 have Fc := Bc.f
 have Fr := Br.f
 go_wp2_with fail
 refine bodyPost_ret (v := .tuple #[.agg #[.int .i64 b.x, .int .i64 b.y, .int .i64 a.x, .int .i64 a.y, .int .i64 c.x, .int .i64 c.y], .bool true]) (by simp [results, Tryz.results47, go_sem, Fr]) rfl ⟨rfl, by have hl := hw.size; go_grown⟩
theorem rmake_n3 (a b c : Pt) (h0 : ori a b c = -1) (tca : decide (cmpP c a < 0) = false) (tba : decide (cmpP b a < 0) = true) (tbc : decide (cmpP b c < 0) = true) (tab : decide (cmpP a b < 0) = false) (tcb : decide (cmpP c b < 0) = false) (w : World) :
    Calls Tryz.prog 47 #[.agg #[.int .i64 a.x, .int .i64 a.y], .agg #[.int .i64 b.x, .int .i64 b.y], .agg #[.int .i64 c.x, .int .i64 c.y]] w fun e w' => e = .returned (.tuple #[.agg #[.int .i64 b.x, .int .i64 b.y, .int .i64 a.x, .int .i64 a.y, .int .i64 c.x, .int .i64 c.y], .bool true]) ∧ Below w.heap.size w w' := by
 have co := zA7 a b c
 rw [h0] at co
 clear h0
 have kca := zAb c a
 generalize cmpP c a = nca at *
 have kba := zAb b a
 generalize cmpP b a = nba at *
 have kbc := zAb b c
 generalize cmpP b c = nbc at *
 have kab := zAb a b
 generalize cmpP a b = nab at *
 have kcb := zAb c b
 generalize cmpP c b = ncb at *
 go_enter Tryz.func47, Tryz.ntmps47
 go_wp2_with fail
 refine zA1 fun W1 hW => ?_
 have Ba : Box W1 (w.heap.size) [.int .i64 a.x, .int .i64 a.y] 30 := by rw [hW]; exact (((Box.new rfl).old _).old _).old _
 have Bb : Box W1 (w.heap.size + 1) [.int .i64 b.x, .int .i64 b.y] 30 := by rw [hW]; exact ((Box.new (by simp)).old _).old _
 have Bc : Box W1 (w.heap.size + 1 + 1) [.int .i64 c.x, .int .i64 c.y] 30 := by rw [hW]; exact (Box.new (by simp)).old _
 have Br : Box W1 (w.heap.size + 1 + 1 + 1) [.int .i64 0, .int .i64 0, .int .i64 0, .int .i64 0, .int .i64 0, .int .i64 0] 38 := by rw [hW]; exact Box.new (by simp)
 have hw : Below w.heap.size w W1 := by rw [hW]; go_grown
 clear hW
 refine (co _).mono ?_
 rintro e w2 ⟨rfl, hb⟩
 replace Ba := Ba.ee hb
 replace Bb := Bb.ee hb
 replace Bc := Bc.ee hb
 replace Br := Br.ee hb
 replace hw := upB hw hb
 clear hb
 have Fa := Ba.f
 have Fb := Bb.f
 have Fc := Bc.f
 have Fr := Br.f
 go_wp2_with fail
 refine zA2 fun W3 hW => ?_
 have Ca : Box W3 (w.heap.size) [.int .i64 a.x, .int .i64 a.y] 30 := by rw [hW]; exact ((((Ba.set_ne ⟨w.heap.size + 1, 0, none⟩ (.int .i64 c.x) (by show (w.heap.size + 1 : Nat) ≠ _; omega)).set_ne ⟨w.heap.size + 1, 1, none⟩ (.int .i64 c.y) (by show (w.heap.size + 1 : Nat) ≠ _; omega)).set_ne ⟨w.heap.size + 1 + 1, 0, none⟩ (.int .i64 b.x) (by show (w.heap.size + 1 + 1 : Nat) ≠ _; omega)).set_ne ⟨w.heap.size + 1 + 1, 1, none⟩ (.int .i64 b.y) (by show (w.heap.size + 1 + 1 : Nat) ≠ _; omega))
 have Cb : Box W3 (w.heap.size + 1) [.int .i64 c.x, .int .i64 c.y] 30 := by rw [hW]; exact ((((Bb.set 0 (.int .i64 c.x)).set 1 (.int .i64 c.y)).set_ne ⟨w.heap.size + 1 + 1, 0, none⟩ (.int .i64 b.x) (by show (w.heap.size + 1 + 1 : Nat) ≠ _; omega)).set_ne ⟨w.heap.size + 1 + 1, 1, none⟩ (.int .i64 b.y) (by show (w.heap.size + 1 + 1 : Nat) ≠ _; omega))
 have Cc : Box W3 (w.heap.size + 1 + 1) [.int .i64 b.x, .int .i64 b.y] 30 := by rw [hW]; exact ((((Bc.set_ne ⟨w.heap.size + 1, 0, none⟩ (.int .i64 c.x) (by show (w.heap.size + 1 : Nat) ≠ _; omega)).set_ne ⟨w.heap.size + 1, 1, none⟩ (.int .i64 c.y) (by show (w.heap.size + 1 : Nat) ≠ _; omega)).set 0 (.int .i64 b.x)).set 1 (.int .i64 b.y))
 have Cr : Box W3 (w.heap.size + 1 + 1 + 1) [.int .i64 0, .int .i64 0, .int .i64 0, .int .i64 0, .int .i64 0, .int .i64 0] 38 := by rw [hW]; exact ((((Br.set_ne ⟨w.heap.size + 1, 0, none⟩ (.int .i64 c.x) (by show (w.heap.size + 1 : Nat) ≠ _; omega)).set_ne ⟨w.heap.size + 1, 1, none⟩ (.int .i64 c.y) (by show (w.heap.size + 1 : Nat) ≠ _; omega)).set_ne ⟨w.heap.size + 1 + 1, 0, none⟩ (.int .i64 b.x) (by show (w.heap.size + 1 + 1 : Nat) ≠ _; omega)).set_ne ⟨w.heap.size + 1 + 1, 1, none⟩ (.int .i64 b.y) (by show (w.heap.size + 1 + 1 : Nat) ≠ _; omega))
 replace hw : Below w.heap.size w W3 := by have hl := hw.size; rw [hW]; go_grown
 clear Fa Fb Fc Fr
 clear hW Ba Bb Bc Br
 have Ba := Ca
 have Bb := Cb
 have Bc := Cc
 have Br := Cr
 clear Ca Cb Cc Cr
 refine wp_loop_rounds 4 ?_
 try rw [rounds_succ]
 have Fa := Ba.f
 have Fb := Bb.f
 have Fc := Bc.f
 have Fr := Br.f
 go_wp2_with fail
 refine (kca _).mono ?_
 rintro e w4 ⟨rfl, hb⟩
 clear Fa Fb Fc Fr
 replace Ba := Ba.ee hb
 replace Bb := Bb.ee hb
 replace Bc := Bc.ee hb
 replace Br := Br.ee hb
 replace hw := upB hw hb
 clear hb
 have Fa := Ba.f
 have Fb := Bb.f
 have Fc := Bc.f
 have Fr := Br.f
 go_wp2_with fail
 refine (kba _).mono ?_
 rintro e w5 ⟨rfl, hb⟩
 clear Fa Fb Fc Fr
 replace Ba := Ba.ee hb
 replace Bb := Bb.ee hb
 replace Bc := Bc.ee hb
 replace Br := Br.ee hb
 replace hw := upB hw hb
 clear hb
 have Fa := Ba.f
 have Fb := Bb.f
 have Fc := Bc.f
 have Fr := Br.f
 go_wp2_with fail
 go_region
 go_wp2_with fail
 refine zA2 fun W6 hW => ?_
 have Ca : Box W6 (w.heap.size) [.int .i64 c.x, .int .i64 c.y] 30 := by rw [hW]; exact (((((((Ba.set 0 (.int .i64 c.x)).set 1 (.int .i64 c.y)).set_ne ⟨w.heap.size + 1, 0, none⟩ (.int .i64 b.x) (by show (w.heap.size + 1 : Nat) ≠ _; omega)).set_ne ⟨w.heap.size + 1, 1, none⟩ (.int .i64 b.y) (by show (w.heap.size + 1 : Nat) ≠ _; omega)).set_ne ⟨w.heap.size + 1 + 1, 0, none⟩ (.int .i64 a.x) (by show (w.heap.size + 1 + 1 : Nat) ≠ _; omega)).set_ne ⟨w.heap.size + 1 + 1, 1, none⟩ (.int .i64 a.y) (by show (w.heap.size + 1 + 1 : Nat) ≠ _; omega))).drew
 have Cb : Box W6 (w.heap.size + 1) [.int .i64 b.x, .int .i64 b.y] 30 := by rw [hW]; exact (((((((Bb.set_ne ⟨w.heap.size, 0, none⟩ (.int .i64 c.x) (by show (w.heap.size : Nat) ≠ _; omega)).set_ne ⟨w.heap.size, 1, none⟩ (.int .i64 c.y) (by show (w.heap.size : Nat) ≠ _; omega)).set 0 (.int .i64 b.x)).set 1 (.int .i64 b.y)).set_ne ⟨w.heap.size + 1 + 1, 0, none⟩ (.int .i64 a.x) (by show (w.heap.size + 1 + 1 : Nat) ≠ _; omega)).set_ne ⟨w.heap.size + 1 + 1, 1, none⟩ (.int .i64 a.y) (by show (w.heap.size + 1 + 1 : Nat) ≠ _; omega))).drew
 have Cc : Box W6 (w.heap.size + 1 + 1) [.int .i64 a.x, .int .i64 a.y] 30 := by rw [hW]; exact (((((((Bc.set_ne ⟨w.heap.size, 0, none⟩ (.int .i64 c.x) (by show (w.heap.size : Nat) ≠ _; omega)).set_ne ⟨w.heap.size, 1, none⟩ (.int .i64 c.y) (by show (w.heap.size : Nat) ≠ _; omega)).set_ne ⟨w.heap.size + 1, 0, none⟩ (.int .i64 b.x) (by show (w.heap.size + 1 : Nat) ≠ _; omega)).set_ne ⟨w.heap.size + 1, 1, none⟩ (.int .i64 b.y) (by show (w.heap.size + 1 : Nat) ≠ _; omega)).set 0 (.int .i64 a.x)).set 1 (.int .i64 a.y))).drew
 have Cr : Box W6 (w.heap.size + 1 + 1 + 1) [.int .i64 0, .int .i64 0, .int .i64 0, .int .i64 0, .int .i64 0, .int .i64 0] 38 := by rw [hW]; exact (((((((Br.set_ne ⟨w.heap.size, 0, none⟩ (.int .i64 c.x) (by show (w.heap.size : Nat) ≠ _; omega)).set_ne ⟨w.heap.size, 1, none⟩ (.int .i64 c.y) (by show (w.heap.size : Nat) ≠ _; omega)).set_ne ⟨w.heap.size + 1, 0, none⟩ (.int .i64 b.x) (by show (w.heap.size + 1 : Nat) ≠ _; omega)).set_ne ⟨w.heap.size + 1, 1, none⟩ (.int .i64 b.y) (by show (w.heap.size + 1 : Nat) ≠ _; omega)).set_ne ⟨w.heap.size + 1 + 1, 0, none⟩ (.int .i64 a.x) (by show (w.heap.size + 1 + 1 : Nat) ≠ _; omega)).set_ne ⟨w.heap.size + 1 + 1, 1, none⟩ (.int .i64 a.y) (by show (w.heap.size + 1 + 1 : Nat) ≠ _; omega))).drew
 replace hw : Below w.heap.size w W6 := by have hl := hw.size; rw [hW]; go_grown
 clear Fa Fb Fc Fr
 clear hW Ba Bb Bc Br
 have Ba := Ca
 have Bb := Cb
 have Bc := Cc
 have Br := Cr
 clear Ca Cb Cc Cr
 try rw [rounds_succ]
 have Fa := Ba.f
 have Fb := Bb.f
 have Fc := Bc.f
 have Fr := Br.f
 go_wp2_with fail
 refine (kbc _).mono ?_
 rintro e w7 ⟨rfl, hb⟩
 clear Fa Fb Fc Fr
 replace Ba := Ba.ee hb
 replace Bb := Bb.ee hb
 replace Bc := Bc.ee hb
 replace Br := Br.ee hb
 replace hw := upB hw hb
 clear hb
 have Fa := Ba.f
 have Fb := Bb.f
 have Fc := Bc.f
 have Fr := Br.f
 go_wp2_with fail
 go_region
 go_wp2_with fail
 refine zA2 fun W8 hW => ?_
 have Ca : Box W8 (w.heap.size) [.int .i64 b.x, .int .i64 b.y] 30 := by rw [hW]; exact (((((((Ba.set 0 (.int .i64 b.x)).set 1 (.int .i64 b.y)).set_ne ⟨w.heap.size + 1, 0, none⟩ (.int .i64 a.x) (by show (w.heap.size + 1 : Nat) ≠ _; omega)).set_ne ⟨w.heap.size + 1, 1, none⟩ (.int .i64 a.y) (by show (w.heap.size + 1 : Nat) ≠ _; omega)).set_ne ⟨w.heap.size + 1 + 1, 0, none⟩ (.int .i64 c.x) (by show (w.heap.size + 1 + 1 : Nat) ≠ _; omega)).set_ne ⟨w.heap.size + 1 + 1, 1, none⟩ (.int .i64 c.y) (by show (w.heap.size + 1 + 1 : Nat) ≠ _; omega))).drew
 have Cb : Box W8 (w.heap.size + 1) [.int .i64 a.x, .int .i64 a.y] 30 := by rw [hW]; exact (((((((Bb.set_ne ⟨w.heap.size, 0, none⟩ (.int .i64 b.x) (by show (w.heap.size : Nat) ≠ _; omega)).set_ne ⟨w.heap.size, 1, none⟩ (.int .i64 b.y) (by show (w.heap.size : Nat) ≠ _; omega)).set 0 (.int .i64 a.x)).set 1 (.int .i64 a.y)).set_ne ⟨w.heap.size + 1 + 1, 0, none⟩ (.int .i64 c.x) (by show (w.heap.size + 1 + 1 : Nat) ≠ _; omega)).set_ne ⟨w.heap.size + 1 + 1, 1, none⟩ (.int .i64 c.y) (by show (w.heap.size + 1 + 1 : Nat) ≠ _; omega))).drew
 have Cc : Box W8 (w.heap.size + 1 + 1) [.int .i64 c.x, .int .i64 c.y] 30 := by rw [hW]; exact (((((((Bc.set_ne ⟨w.heap.size, 0, none⟩ (.int .i64 b.x) (by show (w.heap.size : Nat) ≠ _; omega)).set_ne ⟨w.heap.size, 1, none⟩ (.int .i64 b.y) (by show (w.heap.size : Nat) ≠ _; omega)).set_ne ⟨w.heap.size + 1, 0, none⟩ (.int .i64 a.x) (by show (w.heap.size + 1 : Nat) ≠ _; omega)).set_ne ⟨w.heap.size + 1, 1, none⟩ (.int .i64 a.y) (by show (w.heap.size + 1 : Nat) ≠ _; omega)).set 0 (.int .i64 c.x)).set 1 (.int .i64 c.y))).drew
 have Cr : Box W8 (w.heap.size + 1 + 1 + 1) [.int .i64 0, .int .i64 0, .int .i64 0, .int .i64 0, .int .i64 0, .int .i64 0] 38 := by rw [hW]; exact (((((((Br.set_ne ⟨w.heap.size, 0, none⟩ (.int .i64 b.x) (by show (w.heap.size : Nat) ≠ _; omega)).set_ne ⟨w.heap.size, 1, none⟩ (.int .i64 b.y) (by show (w.heap.size : Nat) ≠ _; omega)).set_ne ⟨w.heap.size + 1, 0, none⟩ (.int .i64 a.x) (by show (w.heap.size + 1 : Nat) ≠ _; omega)).set_ne ⟨w.heap.size + 1, 1, none⟩ (.int .i64 a.y) (by show (w.heap.size + 1 : Nat) ≠ _; omega)).set_ne ⟨w.heap.size + 1 + 1, 0, none⟩ (.int .i64 c.x) (by show (w.heap.size + 1 + 1 : Nat) ≠ _; omega)).set_ne ⟨w.heap.size + 1 + 1, 1, none⟩ (.int .i64 c.y) (by show (w.heap.size + 1 + 1 : Nat) ≠ _; omega))).drew
 replace hw : Below w.heap.size w W8 := by have hl := hw.size; rw [hW]; go_grown
 clear Fa Fb Fc Fr
 clear hW Ba Bb Bc Br
 have Ba := Ca
 have Bb := Cb
 have Bc := Cc
 have Br := Cr
 clear Ca Cb Cc Cr
 try rw [rounds_succ]
 have Fa := Ba.f
 have Fb := Bb.f
 have Fc := Bc.f
 have Fr := Br.f
 go_wp2_with fail
 refine (kab _).mono ?_
 rintro e w9 ⟨rfl, hb⟩
 clear Fa Fb Fc Fr
 replace Ba := Ba.ee hb
 replace Bb := Bb.ee hb
 replace Bc := Bc.ee hb
 replace Br := Br.ee hb
 replace hw := upB hw hb
 clear hb
 have Fa := Ba.f
 have Fb := Bb.f
 have Fc := Bc.f
 have Fr := Br.f
 go_wp2_with fail
 refine (kcb _).mono ?_
 rintro e w10 ⟨rfl, hb⟩
 clear Fa Fb Fc Fr
 replace Ba := Ba.ee hb
 replace Bb := Bb.ee hb
 replace Bc := Bc.ee hb
 replace Br := Br.ee hb
 replace hw := upB hw hb
 clear hb
 have Fa := Ba.f
 have Fb := Bb.f
 have Fc := Bc.f
 have Fr := Br.f
 go_wp2_with fail
 refine bodyPost_ret (v := .tuple #[.agg #[.int .i64 b.x, .int .i64 b.y, .int .i64 a.x, .int .i64 a.y, .int .i64 c.x, .int .i64 c.y], .bool true]) (by simp [results, Tryz.results47, go_sem, Fr]) rfl ⟨rfl, by have hl := hw.size; go_grown⟩
end Go.Proofs.YtmobnmjjmafibaaGreat
