/- The document's own ValidTri and HasPoint, over the program. -/
import Derived.Test.YtijdbddjhnjcdaaRows
import Derived.Test.YtijdbddjhnjcdaaExV
import Derived.Test.YtijdbddjhnjcdaaPost
import Derived.WalkKit
import Derived.WalkSpells
import Derived.WalkLawsBesides
import Derived.Laws.Externs
import Derived.Deep.QuietTactic
import Derived.BigQuiet
import Derived.Lib.Hide
import Derived.Handy
namespace Go.Proofs.Ytijdbddjhnjcdaa
open Go.RowKit Go.Sort
attribute [local go_sem] rOper rAt rUpon cell_set sg_i64 sg_u64 alloc_cell alloc_frozen
attribute [local go_sem 10000] pt_eql pt_neq tri_eql
attribute [local irreducible] rWalk

def valT (T : Tri3) : Bool := !decide (ori T.A T.B T.C = 0) && teq (mk T.A T.B T.C) T
def hasP (T : Tri3) (p : Pt) : Bool := valT T && (vld p && (decide (0 ≤ ori T.A T.B p) && (decide (0 ≤ ori T.B T.C p) && decide (0 ≤ ori T.C T.A p))))
theorem ht_pos {u : Pt} (h : u ≠ ⟨0, 0⟩) : 0 < ht u := by
  have h1 := sq_pos u.x
  have h2 := sq_pos u.y
  have h3 : ht u ≠ 0 := fun h0 => by
    unfold ht at h0
    have g1 : u.x * u.x = 0 := by omega
    have g2 : u.y * u.y = 0 := by omega
    apply h; rw [Pt.eq_iff]
    exact ⟨by rcases Int.mul_eq_zero.1 g1 with k | k <;> exact k, by rcases Int.mul_eq_zero.1 g2 with k | k <;> exact k⟩
  have : 0 ≤ ht u := by unfold ht; omega
  omega
theorem way_ne {d a : Pt} (h : d ≠ a) : way d a ≠ ⟨0, 0⟩ := fun k => h (by rw [Pt.eq_iff] at k ⊢; unfold way at k; simp only at k; omega)
/-- Who is in a triangle, and no corner, is in its circle. -/
theorem in_circ {a b c d : Pt} (h : ori a b c = 1) (hv : vld d = true) (o1 : 0 ≤ ori a b d) (o2 : 0 ≤ ori b c d) (o3 : 0 ≤ ori c a d) (e1 : d ≠ a) (e2 : d ≠ b) (e3 : d ≠ c) : circ a b c d = 1 := by
  have h0 : ¬ ori a b c = 0 := by omega
  obtain ⟨va, vb, vc⟩ := ori_vld h0
  rw [ori_v va vb hv] at o1
  rw [ori_v vb vc hv] at o2
  rw [ori_v vc va hv] at o3
  rw [ori_v va vb vc, sgn_pos] at h
  have p1 := ht_pos (way_ne e1)
  have p2 := ht_pos (way_ne e2)
  have p3 := ht_pos (way_ne e3)
  have i1 : det a b d = cr (way d a) (way d b) := by unfold det cr way; grind
  have i2 : det b c d = cr (way d b) (way d c) := by unfold det cr way; grind
  have i3 : det c a d = cr (way d c) (way d a) := by unfold det cr way; grind
  have i4 : det a b c = cr (way d b) (way d c) + cr (way d c) (way d a) + cr (way d a) (way d b) := by unfold det cr way; grind
  rw [i1] at o1
  rw [i2] at o2
  rw [i3] at o3
  rw [i4] at h
  have hl : 0 < lft a b c d := by
    unfold lft
    generalize way d a = u at *
    generalize way d b = v at *
    generalize way d c = z at *
    have c1 := sgn_cases (cr u v)
    have c2 := sgn_cases (cr v z)
    have c3 := sgn_cases (cr z u)
    have t1 : 0 ≤ ht u * cr v z := Int.mul_nonneg (by omega) (by omega)
    have t2 : 0 ≤ ht v * cr z u := Int.mul_nonneg (by omega) (by omega)
    have t3 : 0 ≤ ht z * cr u v := Int.mul_nonneg (by omega) (by omega)
    by_cases k1 : 0 < cr v z
    · have := Int.mul_pos p1 k1; omega
    · by_cases k2 : 0 < cr z u
      · have := Int.mul_pos p2 k2; omega
      · have := Int.mul_pos p3 (show 0 < cr u v by omega); omega
  rw [circ_main h0 hv e1 e2 e3, sgn_p hl, if_pos (by omega)]
theorem mk_circ {a b c d : Pt} (h0 : ¬ ori a b c = 0) (hh : hasP (mk a b c) d = true) (e1 : d ≠ a) (e2 : d ≠ b) (e3 : d ≠ c) : circ (mk a b c).A (mk a b c).B (mk a b c).C d = 1 := by
  obtain ⟨va, vb, vc⟩ := ori_vld h0
  obtain ⟨d1, d2, d3⟩ := ori_distinct h0
  have n1 : key a ≠ key b := fun h => d1 (key_inj va vb h).symm
  have n2 : key a ≠ key c := fun h => d2 (key_inj va vc h).symm
  have n3 : key b ≠ key c := fun h => d3 (key_inj vb vc h).symm
  have hb := ori_bd a b c
  unfold hasP at hh
  simp only [Bool.and_eq_true, decide_eq_true_eq] at hh
  obtain ⟨_, hv, o1, o2, o3⟩ := hh
  by_cases h1 : ori a b c = 1
  · rw [show mk a b c = mkT a b c by unfold mk; rw [if_neg h0, if_pos h1]] at o1 o2 o3 ⊢
    rcases mkT_rot va vb vc n1 n2 n3 with ⟨_, _, e⟩ | ⟨_, _, e⟩ | ⟨_, _, e⟩ <;> rw [e] at o1 o2 o3 ⊢
    · exact in_circ h1 hv o1 o2 o3 e1 e2 e3
    · exact in_circ (by rw [ori_cyc]; exact h1) hv o1 o2 o3 e2 e3 e1
    · exact in_circ (by rw [← ori_cyc]; exact h1) hv o1 o2 o3 e3 e1 e2
  · have h2 : ori a c b = 1 := by rw [ori_swap2]; omega
    rw [show mk a b c = mkT a c b by unfold mk; rw [if_neg h0, if_neg h1]] at o1 o2 o3 ⊢
    rcases mkT_rot va vc vb n2 n1 n3.symm with ⟨_, _, e⟩ | ⟨_, _, e⟩ | ⟨_, _, e⟩ <;> rw [e] at o1 o2 o3 ⊢
    · exact in_circ h2 hv o1 o2 o3 e1 e3 e2
    · exact in_circ (by rw [ori_cyc]; exact h2) hv o1 o2 o3 e3 e2 e1
    · exact in_circ (by rw [← ori_cyc]; exact h2) hv o1 o2 o3 e2 e1 e3
end Go.Proofs.Ytijdbddjhnjcdaa
