/- Put together: ExW, TrA, Row. -/
import Derived.Test.YtpeehjkpglkikaaRows
import Derived.Test.YtpeehjkpglkikaaPut16
import Derived.Test.YtpeehjkpglkikaaPut2
import Derived.WalkKit
import Derived.WalkSpells
import Derived.WalkLawsBesides
import Derived.Laws.Externs
import Derived.Deep.QuietTactic
import Derived.BigQuiet
import Derived.Lib.Hide
import Derived.Handy
import Derived.Test.YtpeehjkpglkikaaPut1
import Derived.Below
import Derived.Laws.AppendOwn
namespace Go.Proofs.Ytpeehjkpglkikaa
open Go.RowKit Go.Sort
attribute [local go_sem] rOper rAt rUpon cell_set sg_i64 sg_u64 alloc_cell alloc_frozen
attribute [local go_sem 10000] pt_eql pt_neq
attribute [local irreducible] rWalk

def valT (T : Tri3) : Bool := !decide (ori T.A T.B T.C = 0) && teq (mk T.A T.B T.C) T
def hasP (T : Tri3) (p : Pt) : Bool := valT T && (vld p && (decide (0 ≤ ori T.A T.B p) && (decide (0 ≤ ori T.B T.C p) && decide (0 ≤ ori T.C T.A p))))
theorem ht_pos {u : Pt} (h : u ≠ ⟨0, 0⟩) : 0 < ht u := by
  have h1 := sq_pos u.x
  have h2 := sq_pos u.y
  have h3 : ht u ≠ 0 := fun h0 => by
    unfold ht at h0
    have g1 : u.x * u.x = 0 := by omega
    have g2 : u.y * u.y = 0 := by omega
    apply h; rw [Pt.eq_iff]
    exact ⟨by rcases Int.mul_eq_zero.1 g1 with k | k <;> exact k, by rcases Int.mul_eq_zero.1 g2 with k | k <;> exact k⟩
  have : 0 ≤ ht u := by unfold ht; omega
  omega
theorem way_ne {d a : Pt} (h : d ≠ a) : way d a ≠ ⟨0, 0⟩ := fun k => h (by rw [Pt.eq_iff] at k ⊢; unfold way at k; simp only at k; omega)
/-- Who is in a triangle, and no corner, is in its circle. -/
theorem in_circ {a b c d : Pt} (h : ori a b c = 1) (hv : vld d = true) (o1 : 0 ≤ ori a b d) (o2 : 0 ≤ ori b c d) (o3 : 0 ≤ ori c a d) (e1 : d ≠ a) (e2 : d ≠ b) (e3 : d ≠ c) : circ a b c d = 1 := by
  have h0 : ¬ ori a b c = 0 := by omega
  obtain ⟨va, vb, vc⟩ := ori_vld h0
  rw [ori_v va vb hv] at o1
  rw [ori_v vb vc hv] at o2
  rw [ori_v vc va hv] at o3
  rw [ori_v va vb vc, sgn_pos] at h
  have p1 := ht_pos (way_ne e1)
  have p2 := ht_pos (way_ne e2)
  have p3 := ht_pos (way_ne e3)
  have i1 : det a b d = cr (way d a) (way d b) := by unfold det cr way; grind
  have i2 : det b c d = cr (way d b) (way d c) := by unfold det cr way; grind
  have i3 : det c a d = cr (way d c) (way d a) := by unfold det cr way; grind
  have i4 : det a b c = cr (way d b) (way d c) + cr (way d c) (way d a) + cr (way d a) (way d b) := by unfold det cr way; grind
  rw [i1] at o1
  rw [i2] at o2
  rw [i3] at o3
  rw [i4] at h
  have hl : 0 < lft a b c d := by
    unfold lft
    generalize way d a = u at *
    generalize way d b = v at *
    generalize way d c = z at *
    have c1 := sgn_cases (cr u v)
    have c2 := sgn_cases (cr v z)
    have c3 := sgn_cases (cr z u)
    have t1 : 0 ≤ ht u * cr v z := Int.mul_nonneg (by omega) (by omega)
    have t2 : 0 ≤ ht v * cr z u := Int.mul_nonneg (by omega) (by omega)
    have t3 : 0 ≤ ht z * cr u v := Int.mul_nonneg (by omega) (by omega)
    by_cases k1 : 0 < cr v z
    · have := Int.mul_pos p1 k1; omega
    · by_cases k2 : 0 < cr z u
      · have := Int.mul_pos p2 k2; omega
      · have := Int.mul_pos p3 (show 0 < cr u v by omega); omega
  rw [circ_main h0 hv e1 e2 e3, sgn_p hl, if_pos (by omega)]
theorem mk_circ {a b c d : Pt} (h0 : ¬ ori a b c = 0) (hh : hasP (mk a b c) d = true) (e1 : d ≠ a) (e2 : d ≠ b) (e3 : d ≠ c) : circ (mk a b c).A (mk a b c).B (mk a b c).C d = 1 := by
  obtain ⟨va, vb, vc⟩ := ori_vld h0
  obtain ⟨d1, d2, d3⟩ := ori_distinct h0
  have n1 : key a ≠ key b := fun h => d1 (key_inj va vb h).symm
  have n2 : key a ≠ key c := fun h => d2 (key_inj va vc h).symm
  have n3 : key b ≠ key c := fun h => d3 (key_inj vb vc h).symm
  have hb := ori_bd a b c
  unfold hasP at hh
  simp only [Bool.and_eq_true, decide_eq_true_eq] at hh
  obtain ⟨_, hv, o1, o2, o3⟩ := hh
  by_cases h1 : ori a b c = 1
  · rw [show mk a b c = mkT a b c by unfold mk; rw [if_neg h0, if_pos h1]] at o1 o2 o3 ⊢
    rcases mkT_rot va vb vc n1 n2 n3 with ⟨_, _, e⟩ | ⟨_, _, e⟩ | ⟨_, _, e⟩ <;> rw [e] at o1 o2 o3 ⊢
    · exact in_circ h1 hv o1 o2 o3 e1 e2 e3
    · exact in_circ (by rw [ori_cyc]; exact h1) hv o1 o2 o3 e2 e3 e1
    · exact in_circ (by rw [← ori_cyc]; exact h1) hv o1 o2 o3 e3 e1 e2
  · have h2 : ori a c b = 1 := by rw [ori_swap2]; omega
    rw [show mk a b c = mkT a c b by unfold mk; rw [if_neg h0, if_neg h1]] at o1 o2 o3 ⊢
    rcases mkT_rot va vc vb n2 n1 n3.symm with ⟨_, _, e⟩ | ⟨_, _, e⟩ | ⟨_, _, e⟩ <;> rw [e] at o1 o2 o3 ⊢
    · exact in_circ h2 hv o1 o2 o3 e1 e3 e2
    · exact in_circ (by rw [ori_cyc]; exact h2) hv o1 o2 o3 e3 e2 e1
    · exact in_circ (by rw [← ori_cyc]; exact h2) hv o1 o2 o3 e2 e1 e3
end Go.Proofs.Ytpeehjkpglkikaa

namespace Go.Proofs.Ytpeehjkpglkikaa
open Go.RowKit Go.Sort
attribute [local go_sem] rOper rAt rUpon cell_set sg_i64 sg_u64 alloc_cell alloc_frozen
attribute [local go_sem 10000] pt_eql pt_neq
attribute [local irreducible] rWalk

/-- i modulo 3, from 0 on. -/
def plc (i : Int) : Int := i % 3
theorem plc_cases (i : Int) : plc i = 0 ∨ plc i = 1 ∨ plc i = 2 := by unfold plc; omega
theorem place_eq (i : Int) : (wrap64 (i.tmod 3 + 3)).tmod 3 = plc i := by
  have h := @Int.tmod_eq_emod i 3
  have h2 : i.tmod 3 = i % 3 ∨ i.tmod 3 = i % 3 - 3 := by
    split at h
    · left; omega
    · right; simp at h; omega
  rw [show wrap64 (i.tmod 3 + 3) = i.tmod 3 + 3 by rw [w64]; omega, Int.tmod_eq_emod_of_nonneg (by omega)]
  unfold plc; omega
theorem round_any (i : Int) (w : World) :
    Calls Try.prog 31 #[.int .i64 i, .int .i64 3] w fun e w' => e = .returned (.int .i64 (plc i)) ∧ Below w.heap.size w w' := by
  rw [← place_eq]
  go_enter Try.func31, Try.ntmps31
  go_wp2
  go_ret
  exact ⟨rfl, by go_grown⟩
/-- The corner at a place. -/
def crn (T : Tri3) (i : Int) : Pt := if plc i = 0 then T.A else if plc i = 1 then T.B else T.C
theorem crn_plc (T : Tri3) (i : Int) : crn T (plc i) = crn T i := by
  have : plc (plc i) = plc i := by unfold plc; omega
  unfold crn; rw [this]
theorem crn_next (T : Tri3) (i : Int) : crn T (plc i + 1) = crn T (i + 1) := by
  have : plc (plc i + 1) = plc (i + 1) := by unfold plc; omega
  unfold crn; rw [this]
def leq (p q : Pt) : Bool := decide (cmpP p q ≤ 0)
/-- Is its first corner the least? -/
def lds (T : Tri3) : Bool := leq T.A T.B && leq T.A T.C
def valS (T : Tri3) : Bool := decide (0 < ori T.A T.B T.C) && lds T
theorem ori_bd1 {a b c : Pt} (h : decide (0 < ori a b c) = true) : ori a b c = 1 := by
  have := ori_bd a b c
  simp at h; omega
theorem leq_key {p q : Pt} (hp : vld p = true) (hq : vld q = true) : leq p q = decide (key p ≤ key q) := by
  have h := cmp_lt hq hp
  have h2 := cmpP_key hp hq
  have h3 := sgn_cases (key p - key q)
  unfold leq
  by_cases hh : key p ≤ key q
  · rw [decide_eq_true hh, decide_eq_true]; omega
  · rw [decide_eq_false hh, decide_eq_false]; omega
theorem teq_iff {s u : Tri3} : teq s u = true ↔ s = u := by
  unfold teq
  simp only [Bool.and_eq_true, peqI_iff]
  cases s with | mk a b c => cases u with | mk d e f => cases a; cases b; cases c; cases d; cases e; cases f; simp [and_assoc]
theorem Tri3.eq_iff {s u : Tri3} : s = u ↔ s.A = u.A ∧ s.B = u.B ∧ s.C = u.C := by
  cases s; cases u; simp
/-- The two Valids are one. -/
theorem val_eq (T : Tri3) : valT T = valS T := by
  obtain ⟨a, b, c⟩ := T
  unfold valT valS lds
  simp only
  have hb := ori_bd a b c
  by_cases h0 : ori a b c = 0
  · simp [h0]
  · obtain ⟨va, vb, vc⟩ := ori_vld h0
    obtain ⟨d1, d2, d3⟩ := ori_distinct h0
    have n1 : key a ≠ key b := fun h => d1 (key_inj va vb h).symm
    have n2 : key a ≠ key c := fun h => d2 (key_inj va vc h).symm
    have n3 : key b ≠ key c := fun h => d3 (key_inj vb vc h).symm
    rw [leq_key va vb, leq_key va vc, show (!decide (ori a b c = 0)) = true by simp [h0], Bool.true_and]
    rw [Bool.eq_iff_iff, teq_iff]
    by_cases h1 : ori a b c = 1
    · rw [show mk a b c = mkT a b c by unfold mk; rw [if_neg h0, if_pos h1]]
      rcases mkT_rot va vb vc n1 n2 n3 with ⟨x1, x2, e⟩ | ⟨x1, x2, e⟩ | ⟨x1, x2, e⟩ <;> rw [e, Tri3.eq_iff] <;> simp only [Bool.and_eq_true, decide_eq_true_eq]
      · simp; omega
      · exact ⟨fun h => absurd h.1 d1, fun h => by omega⟩
      · exact ⟨fun h => absurd h.1 d2, fun h => by omega⟩
    · have h2 : ori a b c = -1 := by omega
      rw [show mk a b c = mkT a c b by unfold mk; rw [if_neg h0, if_neg h1]]
      rcases mkT_rot va vc vb n2 n1 n3.symm with ⟨x1, x2, e⟩ | ⟨x1, x2, e⟩ | ⟨x1, x2, e⟩ <;> rw [e, Tri3.eq_iff] <;> simp only [Bool.and_eq_true, decide_eq_true_eq]
      · exact ⟨fun h => absurd h.2.1 d3, fun h => by omega⟩
      · exact ⟨fun h => absurd h.1 d2, fun h => by omega⟩
      · exact ⟨fun h => absurd h.1 d1, fun h => by omega⟩
end Go.Proofs.Ytpeehjkpglkikaa

namespace Go.Proofs.Ytpeehjkpglkikaa
open Go.RowKit

instance : DecidableEq Tri3 := fun p q => decidable_of_iff (p.A = q.A ∧ p.B = q.B ∧ p.C = q.C) Tri3.eq_iff.symm
instance : Inhabited Tri3 := ⟨⟨⟨0, 0⟩, ⟨0, 0⟩, ⟨0, 0⟩⟩⟩
def cP (p : Pt) : List Value := [.int .i64 p.x, .int .i64 p.y]
def cT (t : Tri3) : List Value := [.int .i64 t.A.x, .int .i64 t.A.y, .int .i64 t.B.x, .int .i64 t.B.y, .int .i64 t.C.x, .int .i64 t.C.y]
@[reducible] def eT (t : Tri3) : Value := .agg #[.int .i64 t.A.x, .int .i64 t.A.y, .int .i64 t.B.x, .int .i64 t.B.y, .int .i64 t.C.x, .int .i64 t.C.y]
def okT (t : Tri3) : Prop := okP t.A ∧ okP t.B ∧ okP t.C
theorem eT_inj {v w : Tri3} (h : eT v = eT w) : v = w := by
  obtain ⟨⟨a, b⟩, ⟨c, d⟩, ⟨i, j⟩⟩ := v
  obtain ⟨⟨e, f⟩, ⟨g, k⟩, ⟨l, m⟩⟩ := w
  simpa [eT, and_assoc] using h

section
variable {α : Type}
/-- A slice whose elements are the list's: at a, of a's length. -/
def RowAt (c : α → List Value) (k : Nat) (w : World) (a : Option Addr) (L : List α) : Prop :=
  ∀ (j : Nat) (x : α), L[j]? = some x → ∃ ad, a = some ad ∧ ad.block < w.heap.size ∧ ∀ i u, (c x)[i]? = some u → w.cell? ((ad.add (j * k)).add i) = some u
theorem addr_block (a : Addr) (n : Nat) : (a.add n).block = a.block := by unfold Addr.add; split <;> rfl
theorem RowAt.ext {c : α → List Value} {k : Nat} {w w' : World} {a : Option Addr} {L : List α} {n : Nat} (h : RowAt c k w a L) (hb : Below n w w') (hn : n = w.heap.size) : RowAt c k w' a L := fun j x hx => by
  obtain ⟨ad, h1, h2, h3⟩ := h j x hx
  refine ⟨ad, h1, Nat.lt_of_lt_of_le h2 hb.size, fun i u hu => ?_⟩
  rw [hb.cell (p := (ad.add (j * k)).add i) (by rw [addr_block, addr_block, hn]; exact h2)]
  exact h3 i u hu
theorem RowAt.kept {c : α → List Value} {k : Nat} {w w' : World} {a : Option Addr} {L : List α} {row : Option Nat} (h : RowAt c k w a L) (hg : w.grownBy w' row) (hne : ∀ ad, a = some ad → some ad.block ≠ row) : RowAt c k w' a L := fun j x hx => by
  obtain ⟨ad, h1, h2, h3⟩ := h j x hx
  refine ⟨ad, h1, Nat.lt_of_lt_of_le h2 hg.size, fun i u hu => ?_⟩
  exact hg.cell (h3 i u hu) (by rw [addr_block, addr_block]; exact hne ad h1)
theorem RowAt.nil {c : α → List Value} {k : Nat} {w : World} {a : Option Addr} : RowAt c k w a [] := fun j x h => by simp at h
theorem RowAt.old {c : α → List Value} {k : Nat} {w : World} {a : Option Addr} {L : List α} (h : RowAt c k w a L) (o : Obj) : RowAt c k (w.alloc o) a L :=
  h.kept (World.grownBy_alloc w o none) (by simp)
/-- One triangle of a slice, cell by cell, in every world that extends w. -/
theorem RowAt.tri {w : World} {a : Option Addr} {L : List Tri3} (h : RowAt cT 6 w a L) {j : Nat} (hj : j < L.length) :
    ∃ ad A, a = some ad ∧ ad.add (j * 6) = A ∧ (A.block = w.heap.size) = False ∧ A.block < w.heap.size ∧ (w.cell? A = some (.int .i64 L[j].A.x) ∧ w.cell? ⟨A.block, A.off + 1, none⟩ = some (.int .i64 L[j].A.y) ∧ w.cell? ⟨A.block, A.off + 2, none⟩ = some (.int .i64 L[j].B.x) ∧
      w.cell? ⟨A.block, A.off + 3, none⟩ = some (.int .i64 L[j].B.y) ∧ w.cell? ⟨A.block, A.off + 4, none⟩ = some (.int .i64 L[j].C.x) ∧ w.cell? ⟨A.block, A.off + 5, none⟩ = some (.int .i64 L[j].C.y)) := by
  obtain ⟨ad, h1, h2, h3⟩ := h j L[j] (List.getElem?_eq_getElem hj)
  have hb : (ad.add (j * 6)).block = ad.block := addr_block _ _
  refine ⟨ad, _, h1, rfl, by rw [hb]; simp; omega, by rw [hb]; exact h2, ?_⟩
  have e0 := h3 0 _ rfl
  have e1 := h3 1 _ rfl
  have e2 := h3 2 _ rfl
  have e3 := h3 3 _ rfl
  have e4 := h3 4 _ rfl
  have e5 := h3 5 _ rfl
  simp only [Addr.add_zero', Addr.add_succ'] at e0 e1 e2 e3 e4 e5
  exact ⟨e0, e1, e2, e3, e4, e5⟩
theorem RowAt.pt {w : World} {a : Option Addr} {L : List Pt} (h : RowAt cP 2 w a L) {j : Nat} (hj : j < L.length) :
    ∃ ad A, a = some ad ∧ ad.add (j * 2) = A ∧ (A.block = w.heap.size) = False ∧ A.block < w.heap.size ∧ (w.cell? A = some (.int .i64 L[j].x) ∧ w.cell? ⟨A.block, A.off + 1, none⟩ = some (.int .i64 L[j].y)) := by
  obtain ⟨ad, h1, h2, h3⟩ := h j L[j] (List.getElem?_eq_getElem hj)
  have hb : (ad.add (j * 2)).block = ad.block := addr_block _ _
  refine ⟨ad, _, h1, rfl, by rw [hb]; simp; omega, by rw [hb]; exact h2, ?_⟩
  have e0 := h3 0 _ rfl
  have e1 := h3 1 _ rfl
  simp only [Addr.add_zero', Addr.add_succ'] at e0 e1
  exact ⟨e0, e1⟩
end
theorem idx_self {α : Type} (L : List α) (j : Nat) (hj : j < L.length) : L[j]? = some L[j] := List.getElem?_eq_getElem hj
end Go.Proofs.Ytpeehjkpglkikaa
