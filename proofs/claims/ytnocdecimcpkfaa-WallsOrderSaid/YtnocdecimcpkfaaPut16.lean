/- Put together: ExV, ExW, TrA, Row, RegD. -/
import Derived.Test.YtnocdecimcpkfaaRows
import Derived.Test.YtnocdecimcpkfaaPut12
import Derived.Test.YtnocdecimcpkfaaPut2
import Derived.Test.YtnocdecimcpkfaaPut15
import Derived.WalkKit
import Derived.WalkSpells
import Derived.WalkLawsBesides
import Derived.Laws.Externs
import Derived.Deep.QuietTactic
import Derived.BigQuiet
import Derived.Lib.Hide
import Derived.Handy
import Derived.Test.YtnocdecimcpkfaaPut1
import Derived.Below
import Derived.Laws.AppendOwn
import Derived.Deep.Draws
import Derived.Sort.Grow
namespace Go.Proofs.Ytnocdecimcpkfaa
open Go.RowKit Go.Sort
attribute [local go_sem] rOper rAt rUpon cell_set sg_i64 sg_u64 alloc_cell alloc_frozen
attribute [local go_sem 10000] pt_eql pt_neq
attribute [local irreducible] rWalk

/-- Three points in their order. -/
structure Tri3 where
  A : Pt
  B : Pt
  C : Pt
def mkT (x y z : Pt) : Tri3 := if cmpP y x < 0 ∨ cmpP z x < 0 then (if cmpP z y < 0 ∨ cmpP x y < 0 then ⟨z, x, y⟩ else ⟨y, z, x⟩) else ⟨x, y, z⟩
/-- The triangle of three points; of a line none. -/
def mk (a b c : Pt) : Tri3 := if ori a b c = 0 then ⟨⟨0, 0⟩, ⟨0, 0⟩, ⟨0, 0⟩⟩ else if ori a b c = 1 then mkT a b c else mkT a c b
theorem mkT_rot {x y z : Pt} (hx : vld x = true) (hy : vld y = true) (hz : vld z = true) (n1 : key x ≠ key y) (n2 : key x ≠ key z) (n3 : key y ≠ key z) :
    (key x < key y ∧ key x < key z ∧ mkT x y z = ⟨x, y, z⟩) ∨ (key y < key x ∧ key y < key z ∧ mkT x y z = ⟨y, z, x⟩) ∨ (key z < key x ∧ key z < key y ∧ mkT x y z = ⟨z, x, y⟩) := by
  unfold mkT
  simp only [cmp_lt hy hx, cmp_lt hz hx, cmp_lt hz hy, cmp_lt hx hy]
  (repeat' split) <;> simp <;> omega
theorem dlt {p q : Pt} (hp : vld p = true) (hq : vld q = true) (h : key p < key q) : decide (cmpP p q < 0) = true := by simpa using (cmp_lt hp hq).2 h
theorem dge {p q : Pt} (hp : vld p = true) (hq : vld q = true) (h : key q ≤ key p) : decide (cmpP p q < 0) = false := by
  have := cmp_lt hp hq
  simp; omega
/-- Are two triangles one? -/
def teq (s u : Tri3) : Bool := peqI s.A.x s.A.y u.A.x u.A.y && (peqI s.B.x s.B.y u.B.x u.B.y && peqI s.C.x s.C.y u.C.x u.C.y)
end Go.Proofs.Ytnocdecimcpkfaa

namespace Go.Proofs.Ytnocdecimcpkfaa
open Go.RowKit Go.Sort
attribute [local go_sem] rOper rAt rUpon cell_set sg_i64 sg_u64 alloc_cell alloc_frozen
attribute [local go_sem 10000] pt_eql pt_neq
attribute [local irreducible] rWalk

def valT (T : Tri3) : Bool := !decide (ori T.A T.B T.C = 0) && teq (mk T.A T.B T.C) T
def hasP (T : Tri3) (p : Pt) : Bool := valT T && (vld p && (decide (0 ≤ ori T.A T.B p) && (decide (0 ≤ ori T.B T.C p) && decide (0 ≤ ori T.C T.A p))))
theorem ht_pos {u : Pt} (h : u ≠ ⟨0, 0⟩) : 0 < ht u := by
  have h1 := sq_pos u.x
  have h2 := sq_pos u.y
  have h3 : ht u ≠ 0 := fun h0 => by
    unfold ht at h0
    have g1 : u.x * u.x = 0 := by omega
    have g2 : u.y * u.y = 0 := by omega
    apply h; rw [Pt.eq_iff]
    exact ⟨by rcases Int.mul_eq_zero.1 g1 with k | k <;> exact k, by rcases Int.mul_eq_zero.1 g2 with k | k <;> exact k⟩
  have : 0 ≤ ht u := by unfold ht; omega
  omega
theorem way_ne {d a : Pt} (h : d ≠ a) : way d a ≠ ⟨0, 0⟩ := fun k => h (by rw [Pt.eq_iff] at k ⊢; unfold way at k; simp only at k; omega)
/-- Who is in a triangle, and no corner, is in its circle. -/
theorem in_circ {a b c d : Pt} (h : ori a b c = 1) (hv : vld d = true) (o1 : 0 ≤ ori a b d) (o2 : 0 ≤ ori b c d) (o3 : 0 ≤ ori c a d) (e1 : d ≠ a) (e2 : d ≠ b) (e3 : d ≠ c) : circ a b c d = 1 := by
  have h0 : ¬ ori a b c = 0 := by omega
  obtain ⟨va, vb, vc⟩ := ori_vld h0
  rw [ori_v va vb hv] at o1
  rw [ori_v vb vc hv] at o2
  rw [ori_v vc va hv] at o3
  rw [ori_v va vb vc, sgn_pos] at h
  have p1 := ht_pos (way_ne e1)
  have p2 := ht_pos (way_ne e2)
  have p3 := ht_pos (way_ne e3)
  have i1 : det a b d = cr (way d a) (way d b) := by unfold det cr way; grind
  have i2 : det b c d = cr (way d b) (way d c) := by unfold det cr way; grind
  have i3 : det c a d = cr (way d c) (way d a) := by unfold det cr way; grind
  have i4 : det a b c = cr (way d b) (way d c) + cr (way d c) (way d a) + cr (way d a) (way d b) := by unfold det cr way; grind
  rw [i1] at o1
  rw [i2] at o2
  rw [i3] at o3
  rw [i4] at h
  have hl : 0 < lft a b c d := by
    unfold lft
    generalize way d a = u at *
    generalize way d b = v at *
    generalize way d c = z at *
    have c1 := sgn_cases (cr u v)
    have c2 := sgn_cases (cr v z)
    have c3 := sgn_cases (cr z u)
    have t1 : 0 ≤ ht u * cr v z := Int.mul_nonneg (by omega) (by omega)
    have t2 : 0 ≤ ht v * cr z u := Int.mul_nonneg (by omega) (by omega)
    have t3 : 0 ≤ ht z * cr u v := Int.mul_nonneg (by omega) (by omega)
    by_cases k1 : 0 < cr v z
    · have := Int.mul_pos p1 k1; omega
    · by_cases k2 : 0 < cr z u
      · have := Int.mul_pos p2 k2; omega
      · have := Int.mul_pos p3 (show 0 < cr u v by omega); omega
  rw [circ_main h0 hv e1 e2 e3, sgn_p hl, if_pos (by omega)]
theorem mk_circ {a b c d : Pt} (h0 : ¬ ori a b c = 0) (hh : hasP (mk a b c) d = true) (e1 : d ≠ a) (e2 : d ≠ b) (e3 : d ≠ c) : circ (mk a b c).A (mk a b c).B (mk a b c).C d = 1 := by
  obtain ⟨va, vb, vc⟩ := ori_vld h0
  obtain ⟨d1, d2, d3⟩ := ori_distinct h0
  have n1 : key a ≠ key b := fun h => d1 (key_inj va vb h).symm
  have n2 : key a ≠ key c := fun h => d2 (key_inj va vc h).symm
  have n3 : key b ≠ key c := fun h => d3 (key_inj vb vc h).symm
  have hb := ori_bd a b c
  unfold hasP at hh
  simp only [Bool.and_eq_true, decide_eq_true_eq] at hh
  obtain ⟨_, hv, o1, o2, o3⟩ := hh
  by_cases h1 : ori a b c = 1
  · rw [show mk a b c = mkT a b c by unfold mk; rw [if_neg h0, if_pos h1]] at o1 o2 o3 ⊢
    rcases mkT_rot va vb vc n1 n2 n3 with ⟨_, _, e⟩ | ⟨_, _, e⟩ | ⟨_, _, e⟩ <;> rw [e] at o1 o2 o3 ⊢
    · exact in_circ h1 hv o1 o2 o3 e1 e2 e3
    · exact in_circ (by rw [ori_cyc]; exact h1) hv o1 o2 o3 e2 e3 e1
    · exact in_circ (by rw [← ori_cyc]; exact h1) hv o1 o2 o3 e3 e1 e2
  · have h2 : ori a c b = 1 := by rw [ori_swap2]; omega
    rw [show mk a b c = mkT a c b by unfold mk; rw [if_neg h0, if_neg h1]] at o1 o2 o3 ⊢
    rcases mkT_rot va vc vb n2 n1 n3.symm with ⟨_, _, e⟩ | ⟨_, _, e⟩ | ⟨_, _, e⟩ <;> rw [e] at o1 o2 o3 ⊢
    · exact in_circ h2 hv o1 o2 o3 e1 e3 e2
    · exact in_circ (by rw [ori_cyc]; exact h2) hv o1 o2 o3 e3 e2 e1
    · exact in_circ (by rw [← ori_cyc]; exact h2) hv o1 o2 o3 e2 e1 e3
end Go.Proofs.Ytnocdecimcpkfaa

namespace Go.Proofs.Ytnocdecimcpkfaa
open Go.RowKit Go.Sort
attribute [local go_sem] rOper rAt rUpon cell_set sg_i64 sg_u64 alloc_cell alloc_frozen
attribute [local go_sem 10000] pt_eql pt_neq
attribute [local irreducible] rWalk

/-- i modulo 3, from 0 on. -/
def plc (i : Int) : Int := i % 3
theorem plc_cases (i : Int) : plc i = 0 ∨ plc i = 1 ∨ plc i = 2 := by unfold plc; omega
theorem place_eq (i : Int) : (wrap64 (i.tmod 3 + 3)).tmod 3 = plc i := by
  have h := @Int.tmod_eq_emod i 3
  have h2 : i.tmod 3 = i % 3 ∨ i.tmod 3 = i % 3 - 3 := by
    split at h
    · left; omega
    · right; simp at h; omega
  rw [show wrap64 (i.tmod 3 + 3) = i.tmod 3 + 3 by rw [w64]; omega, Int.tmod_eq_emod_of_nonneg (by omega)]
  unfold plc; omega
theorem round_any (i : Int) (w : World) :
    Calls Try.prog 31 #[.int .i64 i, .int .i64 3] w fun e w' => e = .returned (.int .i64 (plc i)) ∧ Below w.heap.size w w' := by
  rw [← place_eq]
  go_enter Try.func31, Try.ntmps31
  go_wp2
  go_ret
  exact ⟨rfl, by go_grown⟩
/-- The corner at a place. -/
def crn (T : Tri3) (i : Int) : Pt := if plc i = 0 then T.A else if plc i = 1 then T.B else T.C
theorem crn_plc (T : Tri3) (i : Int) : crn T (plc i) = crn T i := by
  have : plc (plc i) = plc i := by unfold plc; omega
  unfold crn; rw [this]
theorem crn_next (T : Tri3) (i : Int) : crn T (plc i + 1) = crn T (i + 1) := by
  have : plc (plc i + 1) = plc (i + 1) := by unfold plc; omega
  unfold crn; rw [this]
def leq (p q : Pt) : Bool := decide (cmpP p q ≤ 0)
/-- Is its first corner the least? -/
def lds (T : Tri3) : Bool := leq T.A T.B && leq T.A T.C
def valS (T : Tri3) : Bool := decide (0 < ori T.A T.B T.C) && lds T
theorem ori_bd1 {a b c : Pt} (h : decide (0 < ori a b c) = true) : ori a b c = 1 := by
  have := ori_bd a b c
  simp at h; omega
theorem leq_key {p q : Pt} (hp : vld p = true) (hq : vld q = true) : leq p q = decide (key p ≤ key q) := by
  have h := cmp_lt hq hp
  have h2 := cmpP_key hp hq
  have h3 := sgn_cases (key p - key q)
  unfold leq
  by_cases hh : key p ≤ key q
  · rw [decide_eq_true hh, decide_eq_true]; omega
  · rw [decide_eq_false hh, decide_eq_false]; omega
theorem teq_iff {s u : Tri3} : teq s u = true ↔ s = u := by
  unfold teq
  simp only [Bool.and_eq_true, peqI_iff]
  cases s with | mk a b c => cases u with | mk d e f => cases a; cases b; cases c; cases d; cases e; cases f; simp [and_assoc]
theorem Tri3.eq_iff {s u : Tri3} : s = u ↔ s.A = u.A ∧ s.B = u.B ∧ s.C = u.C := by
  cases s; cases u; simp
/-- The two Valids are one. -/
theorem val_eq (T : Tri3) : valT T = valS T := by
  obtain ⟨a, b, c⟩ := T
  unfold valT valS lds
  simp only
  have hb := ori_bd a b c
  by_cases h0 : ori a b c = 0
  · simp [h0]
  · obtain ⟨va, vb, vc⟩ := ori_vld h0
    obtain ⟨d1, d2, d3⟩ := ori_distinct h0
    have n1 : key a ≠ key b := fun h => d1 (key_inj va vb h).symm
    have n2 : key a ≠ key c := fun h => d2 (key_inj va vc h).symm
    have n3 : key b ≠ key c := fun h => d3 (key_inj vb vc h).symm
    rw [leq_key va vb, leq_key va vc, show (!decide (ori a b c = 0)) = true by simp [h0], Bool.true_and]
    rw [Bool.eq_iff_iff, teq_iff]
    by_cases h1 : ori a b c = 1
    · rw [show mk a b c = mkT a b c by unfold mk; rw [if_neg h0, if_pos h1]]
      rcases mkT_rot va vb vc n1 n2 n3 with ⟨x1, x2, e⟩ | ⟨x1, x2, e⟩ | ⟨x1, x2, e⟩ <;> rw [e, Tri3.eq_iff] <;> simp only [Bool.and_eq_true, decide_eq_true_eq]
      · simp; omega
      · exact ⟨fun h => absurd h.1 d1, fun h => by omega⟩
      · exact ⟨fun h => absurd h.1 d2, fun h => by omega⟩
    · have h2 : ori a b c = -1 := by omega
      rw [show mk a b c = mkT a c b by unfold mk; rw [if_neg h0, if_neg h1]]
      rcases mkT_rot va vc vb n2 n1 n3.symm with ⟨x1, x2, e⟩ | ⟨x1, x2, e⟩ | ⟨x1, x2, e⟩ <;> rw [e, Tri3.eq_iff] <;> simp only [Bool.and_eq_true, decide_eq_true_eq]
      · exact ⟨fun h => absurd h.2.1 d3, fun h => by omega⟩
      · exact ⟨fun h => absurd h.1 d2, fun h => by omega⟩
      · exact ⟨fun h => absurd h.1 d1, fun h => by omega⟩
end Go.Proofs.Ytnocdecimcpkfaa

namespace Go.Proofs.Ytnocdecimcpkfaa
open Go.RowKit

instance : DecidableEq Tri3 := fun p q => decidable_of_iff (p.A = q.A ∧ p.B = q.B ∧ p.C = q.C) Tri3.eq_iff.symm
instance : Inhabited Tri3 := ⟨⟨⟨0, 0⟩, ⟨0, 0⟩, ⟨0, 0⟩⟩⟩
def cP (p : Pt) : List Value := [.int .i64 p.x, .int .i64 p.y]
def cT (t : Tri3) : List Value := [.int .i64 t.A.x, .int .i64 t.A.y, .int .i64 t.B.x, .int .i64 t.B.y, .int .i64 t.C.x, .int .i64 t.C.y]
@[reducible] def eT (t : Tri3) : Value := .agg #[.int .i64 t.A.x, .int .i64 t.A.y, .int .i64 t.B.x, .int .i64 t.B.y, .int .i64 t.C.x, .int .i64 t.C.y]
def okT (t : Tri3) : Prop := okP t.A ∧ okP t.B ∧ okP t.C
theorem eT_inj {v w : Tri3} (h : eT v = eT w) : v = w := by
  obtain ⟨⟨a, b⟩, ⟨c, d⟩, ⟨i, j⟩⟩ := v
  obtain ⟨⟨e, f⟩, ⟨g, k⟩, ⟨l, m⟩⟩ := w
  simpa [eT, and_assoc] using h

section
variable {α : Type}
/-- A slice whose elements are the list's: at a, of a's length. -/
def RowAt (c : α → List Value) (k : Nat) (w : World) (a : Option Addr) (L : List α) : Prop :=
  ∀ (j : Nat) (x : α), L[j]? = some x → ∃ ad, a = some ad ∧ ad.block < w.heap.size ∧ ∀ i u, (c x)[i]? = some u → w.cell? ((ad.add (j * k)).add i) = some u
theorem addr_block (a : Addr) (n : Nat) : (a.add n).block = a.block := by unfold Addr.add; split <;> rfl
theorem RowAt.ext {c : α → List Value} {k : Nat} {w w' : World} {a : Option Addr} {L : List α} {n : Nat} (h : RowAt c k w a L) (hb : Below n w w') (hn : n = w.heap.size) : RowAt c k w' a L := fun j x hx => by
  obtain ⟨ad, h1, h2, h3⟩ := h j x hx
  refine ⟨ad, h1, Nat.lt_of_lt_of_le h2 hb.size, fun i u hu => ?_⟩
  rw [hb.cell (p := (ad.add (j * k)).add i) (by rw [addr_block, addr_block, hn]; exact h2)]
  exact h3 i u hu
theorem RowAt.kept {c : α → List Value} {k : Nat} {w w' : World} {a : Option Addr} {L : List α} {row : Option Nat} (h : RowAt c k w a L) (hg : w.grownBy w' row) (hne : ∀ ad, a = some ad → some ad.block ≠ row) : RowAt c k w' a L := fun j x hx => by
  obtain ⟨ad, h1, h2, h3⟩ := h j x hx
  refine ⟨ad, h1, Nat.lt_of_lt_of_le h2 hg.size, fun i u hu => ?_⟩
  exact hg.cell (h3 i u hu) (by rw [addr_block, addr_block]; exact hne ad h1)
theorem RowAt.nil {c : α → List Value} {k : Nat} {w : World} {a : Option Addr} : RowAt c k w a [] := fun j x h => by simp at h
theorem RowAt.old {c : α → List Value} {k : Nat} {w : World} {a : Option Addr} {L : List α} (h : RowAt c k w a L) (o : Obj) : RowAt c k (w.alloc o) a L :=
  h.kept (World.grownBy_alloc w o none) (by simp)
/-- One triangle of a slice, cell by cell, in every world that extends w. -/
theorem RowAt.tri {w : World} {a : Option Addr} {L : List Tri3} (h : RowAt cT 6 w a L) {j : Nat} (hj : j < L.length) :
    ∃ ad A, a = some ad ∧ ad.add (j * 6) = A ∧ (A.block = w.heap.size) = False ∧ A.block < w.heap.size ∧ (w.cell? A = some (.int .i64 L[j].A.x) ∧ w.cell? ⟨A.block, A.off + 1, none⟩ = some (.int .i64 L[j].A.y) ∧ w.cell? ⟨A.block, A.off + 2, none⟩ = some (.int .i64 L[j].B.x) ∧
      w.cell? ⟨A.block, A.off + 3, none⟩ = some (.int .i64 L[j].B.y) ∧ w.cell? ⟨A.block, A.off + 4, none⟩ = some (.int .i64 L[j].C.x) ∧ w.cell? ⟨A.block, A.off + 5, none⟩ = some (.int .i64 L[j].C.y)) := by
  obtain ⟨ad, h1, h2, h3⟩ := h j L[j] (List.getElem?_eq_getElem hj)
  have hb : (ad.add (j * 6)).block = ad.block := addr_block _ _
  refine ⟨ad, _, h1, rfl, by rw [hb]; simp; omega, by rw [hb]; exact h2, ?_⟩
  have e0 := h3 0 _ rfl
  have e1 := h3 1 _ rfl
  have e2 := h3 2 _ rfl
  have e3 := h3 3 _ rfl
  have e4 := h3 4 _ rfl
  have e5 := h3 5 _ rfl
  simp only [Addr.add_zero', Addr.add_succ'] at e0 e1 e2 e3 e4 e5
  exact ⟨e0, e1, e2, e3, e4, e5⟩
theorem RowAt.pt {w : World} {a : Option Addr} {L : List Pt} (h : RowAt cP 2 w a L) {j : Nat} (hj : j < L.length) :
    ∃ ad A, a = some ad ∧ ad.add (j * 2) = A ∧ (A.block = w.heap.size) = False ∧ A.block < w.heap.size ∧ (w.cell? A = some (.int .i64 L[j].x) ∧ w.cell? ⟨A.block, A.off + 1, none⟩ = some (.int .i64 L[j].y)) := by
  obtain ⟨ad, h1, h2, h3⟩ := h j L[j] (List.getElem?_eq_getElem hj)
  have hb : (ad.add (j * 2)).block = ad.block := addr_block _ _
  refine ⟨ad, _, h1, rfl, by rw [hb]; simp; omega, by rw [hb]; exact h2, ?_⟩
  have e0 := h3 0 _ rfl
  have e1 := h3 1 _ rfl
  simp only [Addr.add_zero', Addr.add_succ'] at e0 e1
  exact ⟨e0, e1⟩
end
theorem idx_self {α : Type} (L : List α) (j : Nat) (hj : j < L.length) : L[j]? = some L[j] := List.getElem?_eq_getElem hj
end Go.Proofs.Ytnocdecimcpkfaa

namespace Go.Proofs.Ytnocdecimcpkfaa.Dr
open Go.RowKit Go.Sort

section
variable {P : Program} {ops : Array Oper} {md : Region.Mode} {C : World → Prop}
/-- A world that extends another one. -/
def Ext (w w' : World) : Prop := Below w.heap.size w w' ∧ w.drawn ≤ w'.drawn
/-- One operation, carried out in w, has yielded v in w itself; or it is a call that hands back v in a world that extends w. -/
def rUpon (P : Program) (w : World) (v : Value) : Result Next → Prop
  | .ok (.value u) w' => w' = w ∧ u = v
  | .ok .skip w' => w' = w ∧ v = undef
  | .ok (.enter f args) w' => w' = w ∧ Calls P f args w (fun e w'' => e = .returned v ∧ Ext w w'')
  | _ => False
def rAt (P : Program) (o : Oper) (a : Act) (w : World) (v : Value) : Prop := rUpon P w v ((execOp a.eval o).run P w)
def rOper (P : Program) (o : Oper) (a : Act) (C : World → Prop) (next : Act → Prop) : Prop := ∃ v, (∀ w, C w → rAt P o a w v) ∧ next (a.put o.dst v)
/-- The walk in the order of a list. -/
def rWalk (P : Program) (ops : Array Oper) (C : World → Prop) (Q : Act → Prop) : List Oper → Act → Prop
  | [], a => Q a
  | o :: rest, a => if Region.wanted o (yielded ops a.tmps) then rOper P o a C (rWalk P ops C Q rest) else rWalk P ops C Q rest (a.put o.dst undef)
theorem rWalk_nil {Q : Act → Prop} {a : Act} (h : Q a) : rWalk P ops C Q [] a := h
theorem rWalk_step {Q : Act → Prop} {a : Act} {o : Oper} {rest : List Oper}
    (h : ∀ K : Act → Prop, (∀ a, rWalk P ops C Q rest a → K a) → if Region.wanted o (yielded ops a.tmps) then rOper P o a C K else K (a.put o.dst undef)) : rWalk P ops C Q (o :: rest) a :=
  h _ (fun _ h => h)

/-- Operation o leaves v in its temporary, in state a, in every world of the class. -/
def rYields (P : Program) (ops : Array Oper) (C : World → Prop) (o : Oper) (v : Value) (a : Act) : Prop :=
  (Region.wanted o (yielded ops a.tmps) = true ∧ ∀ w, C w → rAt P o a w v) ∨ (Region.wanted o (yielded ops a.tmps) = false ∧ v = undef)
theorem rYields.same {o : Oper} {v : Value} {a a' : Act} (hy : rYields P ops C o v a) (he : execOp a'.eval o = execOp a.eval o)
    (hw : Region.wanted o (yielded ops a'.tmps) = Region.wanted o (yielded ops a.tmps)) : rYields P ops C o v a' := by
  unfold rYields rAt at *
  rw [he, hw]
  exact hy
theorem rYields.of_walk {o : Oper} {rest : List Oper} {Q : Act → Prop} {a : Act} (h : rWalk P ops C Q (o :: rest) a) : ∃ v, rYields P ops C o v a ∧ rWalk P ops C Q rest (a.put o.dst v) := by
  simp only [rWalk] at h
  cases hw : Region.wanted o (yielded ops a.tmps) with
  | true =>
    rw [hw, if_pos rfl] at h
    obtain ⟨v, h1, h2⟩ := h
    exact ⟨v, .inl ⟨hw, h1⟩, h2⟩
  | false =>
    rw [hw, if_neg (by simp)] at h
    exact ⟨undef, .inr ⟨hw, rfl⟩, h⟩

/-- Whatever order is picked among the first n operations; L: what holds when they are all done. -/
def rAny (P : Program) (md : Region.Mode) (ops : Array Oper) (C : World → Prop) (n : Nat) (L : Array Bool → Act → Prop) : Nat → Array Bool → Act → Prop
  | 0, listed, a => L listed a
  | f + 1, listed, a => Region.ready md ops listed ≠ [] ∧
    ∀ i ∈ Region.ready md ops listed, i < n ∧ ∃ o v, ops[i]? = some o ∧ rYields P ops C o v a ∧ rAny P md ops C n L f (listed.setIfInBounds i true) (a.put o.dst v)

/-- No tail operation is ready while one of the head is not done; 'k', done ahead by fiat, counts as the caller says. -/
def TailWaits (md : Region.Mode) (ops : Array Oper) (n : Nat) (listed : Array Bool) : Prop :=
  ∀ i, i < n → listed.getD i true = false → ∀ t, n ≤ t → t ∉ Region.ready md ops listed

theorem rAny_first {n i : Nat} {oi : Oper} {v : Value} {L : Array Bool → Act → Prop} (hi : ops[i]? = some oi) (hsel : ∀ (j : Nat) (o : Oper) cs b, ops[j]? = some o → o.op ≠ .select cs b)
    (hin : i < n) (Inv : Array Bool → Prop) (hinv : ∀ listed j, Inv listed → j ∈ Region.ready md ops listed → j < n → Inv (listed.setIfInBounds j true))
    (htail : ∀ listed, Inv listed → TailWaits md ops n listed)
    (hdone : ∀ listed a, L listed a → ∀ j ∈ Region.ready md ops listed, n ≤ j) :
    ∀ (f : Nat) (listed : Array Bool) (a : Act), Inv listed →
      (∀ j oj, ops[j]? = some oj → j ≠ i → listed.getD j true = false → (∀ e ∈ oj.after, Region.binds md e = true → e.on ≠ i) → oi.apart ops oj = true) →
      i ∈ Region.ready md ops listed → rYields P ops C oi v a →
      rAny P md ops C n L f (listed.setIfInBounds i true) (a.put oi.dst v) → rAny P md ops C n L (f + 1) listed a := by
  intro f
  induction f with
  | zero =>
    intro listed a inv _ hr hy H
    have hun := (mem_ready.1 hr).1
    refine ⟨fun h => (by rw [h] at hr; cases hr), fun j hj => ?_⟩
    have hjn : j < n := by
      rcases Nat.lt_or_ge j n with h | h
      · exact h
      · exact absurd hj (htail _ inv i hin hun j h)
    by_cases hji : j = i
    · subst hji; exact ⟨hjn, oi, v, hi, hy, H⟩
    · have := hdone _ _ H j (ready_mono hj hji)
      omega
  | succ f ih =>
    intro listed a inv hfree hr hy H
    have hun := (mem_ready.1 hr).1
    refine ⟨fun h => (by rw [h] at hr; cases hr), fun j hj => ?_⟩
    have hjn : j < n := by
      rcases Nat.lt_or_ge j n with h | h
      · exact h
      · exact absurd hj (htail _ inv i hin hun j h)
    by_cases hji : j = i
    · subst hji; exact ⟨hjn, oi, v, hi, hy, H⟩
    · obtain ⟨_, oj, u, hoj, hyj, hK⟩ := H.2 j (ready_mono hj hji)
      obtain ⟨hjun, oj', hoj', hall⟩ := mem_ready.1 hj
      have hoo : oj' = oj := Option.some.inj (hoj'.symm.trans hoj)
      subst hoo
      have hnot : ∀ e ∈ oj'.after, Region.binds md e = true → e.on ≠ i := fun e he hb heq => by
        have h1 := hall e he hb
        rw [heq, getD_both hun] at h1
        cases h1
      obtain ⟨h1, h2, h3⟩ := Oper.apart_spec (hfree j oj' hoj hji hjun hnot)
      have hyj' : rYields P ops C oj' u a := hyj.same (execOp_put oj' (fun cs b => hsel j oj' cs b hoj) a oi.dst v h1).symm (wanted_put oj' a oi.dst v h1).symm
      have hyi' : rYields P ops C oi v (a.put oj'.dst u) := hy.same (execOp_put oi (fun cs b => hsel i oi cs b hi) a oj'.dst u h3) (wanted_put oi a oj'.dst u h3)
      refine ⟨hjn, oj', u, hoj, hyj', ?_⟩
      refine ih (listed.setIfInBounds j true) _ (hinv _ _ inv hj hjn) (fun k ok hk hki hun' hno => ?_) (ready_mono hr (Ne.symm hji)) hyi' ?_
      · refine hfree k ok hk hki ?_ hno
        by_cases hjk : j = k
        · subst hjk; exact hjun
        · rw [getD_set_ne true hjk] at hun'; exact hun'
      · rw [Array.setIfInBounds_comm _ _ hji, ← Act.put_comm a v u h2]
        exact hK

/-- The check: the operations 'is', one behind the other, each ready and apart from all that may run beside it; behind them g tail operations in forced order from n on. -/
def orderB (md : Region.Mode) (ops : Array Oper) (n g : Nat) : List Nat → Array Bool → Bool
  | [], listed => Region.seqB md ops g n listed
  | k :: is, listed => decide (k < n) && (Region.ready md ops listed).contains k && Region.free md ops listed k && orderB md ops n g is (listed.setIfInBounds k true)

theorem rAny_order {n g : Nat} {Lq : Act → Prop} (hsel : Region.noSelect ops = true) (Inv : Array Bool → Prop)
    (hinv : ∀ listed j, Inv listed → j ∈ Region.ready md ops listed → j < n → Inv (listed.setIfInBounds j true)) (htail : ∀ listed, Inv listed → TailWaits md ops n listed) :
    ∀ (is : List Nat) (l : List Oper) (listed : Array Bool) (a : Act), is.map (fun i => ops[i]?) = l.map some → Inv listed → orderB md ops n g is listed = true → rWalk P ops C Lq l a →
      rAny P md ops C n (fun listed' a' => Region.seqB md ops g n listed' = true ∧ Lq a') is.length listed a
  | [], [], listed, a, _, _, hB, h => ⟨hB, h⟩
  | [], _ :: _, _, _, hl, _, _, _ => by cases hl
  | _ :: _, [], _, _, hl, _, _, _ => by cases hl
  | k :: is, o :: l, listed, a, hl, inv, hB, h => by
    simp only [List.map_cons, List.cons.injEq] at hl
    obtain ⟨h0, hl⟩ := hl
    simp only [orderB, Bool.and_eq_true, decide_eq_true_eq] at hB
    obtain ⟨⟨⟨hkn, hr⟩, hf⟩, hB'⟩ := hB
    have hr' : k ∈ Region.ready md ops listed := by simpa using hr
    obtain ⟨v, hy, hK⟩ := rYields.of_walk h
    exact rAny_first h0 (Region.noSelect_spec hsel) hkn Inv hinv htail (fun listed' a' hL => seqB_ready hL.1) is.length listed a inv (Region.free_spec h0 hf) hr' hy
      (rAny_order hsel Inv hinv htail is l _ _ hl (hinv _ _ inv hr' hkn) hB' hK)

theorem Ext.trans {a b c : World} (h : Ext a b) (k : Ext b c) : Ext a c := ⟨Below.trans h.1 (Below.mono k.1 h.1.size), Nat.le_trans h.2 k.2⟩

/-- One operation that yields, in an actual world. -/
theorem wpOp_of_yields {i : Nat} {o : Oper} {v : Value} {a : Act} {K : Act → World → Prop} {Q : Exit → Act → World → Prop} {w : World} (hi : ops[i]? = some o) (hC : C w) (hy : rYields P ops C o v a)
    (h : ∀ w', Ext w w' → K (a.put o.dst v) w') : wpOp P ops Q i K a w := by
  have hrefl : Ext w w := ⟨Below.refl _ _, Nat.le_refl _⟩
  unfold wpOp
  simp only [hi]
  rcases hy with ⟨hw, hv⟩ | ⟨hw, rfl⟩
  · rw [if_pos hw]
    refine .inl ?_
    have h3 := hv w hC
    unfold rAt at h3
    unfold Oper.wp
    generalize (execOp a.eval o).run P w = r at *
    cases r with
    | ok n w' =>
      cases n <;> simp only [rUpon] at h3 <;> simp only [Oper.upon]
      case value u => obtain ⟨e1, e2⟩ := h3; rw [e1, e2]; exact h _ hrefl
      case skip => obtain ⟨e1, e2⟩ := h3; rw [e1, ← e2]; exact h _ hrefl
      case enter f args =>
        obtain ⟨e1, hc⟩ := h3
        rw [e1]
        exact hc.mono fun e w'' ⟨he, hw''⟩ => by subst he; exact h _ hw''
    | halt x w' => simp only [rUpon] at h3
  · rw [hw, if_neg (by simp)]
    exact h _ hrefl

/-- What is left of the head behind the new block (or without one), then the tail: D: the worlds met here. -/
theorem rAny_then_tail {n g : Nat} {Q : Exit → Act → World → Prop} {Lq : Act → Prop} {l : List Oper} {dst : Option Tmp} {u : Value} {D : World → Prop} (hsel : Region.noSelect ops = true)
    (hg : l.length = g) (hl : ∀ j, l[j]? = ops[n + j]?) (hD : ∀ w, D w → C w) (hDe : ∀ w w', D w → Ext w w' → D w')
    (J : Nat → Prop) (hap : ∀ i o, i < n → ¬ J i → ops[i]? = some o → (∀ d, dst = some d → d ∉ o.looksAt ops) ∧ (∀ d, dst = some d → o.dst ≠ some d))
    (hQ : ∀ a w, D w → Lq a → wpList P ops Q l (a.put dst u) w) :
    ∀ (f : Nat) (listed : Array Bool) (a : Act) (w : World), D w → (∀ i, J i → listed.getD i true = true) →
      rAny P md ops C n (fun listed' a' => Region.seqB md ops g n listed' = true ∧ Lq a') f listed a → wpAny P md ops Q (f + g) listed (a.put dst u) w
  | 0, listed, a, w, hw, _, h => by
    rw [Nat.zero_add]
    subst hg
    exact wpAny_of_seq l n listed _ w hl h.1 (hQ a w hw h.2)
  | f + 1, listed, a, w, hw, hJ, h => by
    rw [show f + 1 + g = (f + g) + 1 by omega]
    refine ⟨fun h0 => absurd h0 h.1, fun i hi => ?_⟩
    obtain ⟨hin, o, v, ho, hy, hK⟩ := h.2 i hi
    have hiun := (mem_ready.1 hi).1
    have hnJ : ¬ J i := fun hj => by rw [hJ i hj] at hiun; cases hiun
    obtain ⟨h1, h2⟩ := hap i o hin hnJ ho
    have hy' : rYields P ops C o v (a.put dst u) := hy.same (execOp_put o (fun cs b => Region.noSelect_spec hsel i o cs b ho) a dst u h1) (wanted_put o a dst u h1)
    refine wpOp_of_yields ho (hD w hw) hy' fun w' hw' => ?_
    rw [Act.put_comm a u v h2]
    refine rAny_then_tail hsel hg hl hD hDe J hap hQ f _ _ w' (hDe _ _ hw hw') (fun k hk => ?_) hK
    by_cases hik : i = k
    · subst hik; exact absurd hk hnJ
    · rw [getD_set_ne true hik]; exact hJ k hk

/-- The check for a region without a new block in its head. -/
def plainB (md : Region.Mode) (ops : Array Oper) (n : Nat) : Bool :=
  Region.noSelect ops && decide (n < ops.size) && Region.sinkB md ops n && Region.chainB md ops n && orderB md ops n (ops.size - n) (List.range n) (Array.replicate ops.size false)

theorem headInv0 {n : Nat} : HeadInv md ops n (Array.replicate ops.size false) :=
  ⟨by simp, fun j oj _ hl => (by rw [getD_replicate_false] at hl; cases hl), fun t _ ht => getD_in (by simpa using ht) (getD_replicate_false _ _)⟩

theorem wp_region_tail {id : Nat} {Q : Exit → Act → World → Prop} {a : Act} {w : World} {l : List Oper} (n : Nat) (hm : P.follows .mixedOrders = true) (hB : plainB .any l.toArray n = true)
    (hC : ∀ w', Below w.heap.size w w' → C w')
    (h : rWalk P l.toArray C (fun a' => ∀ w', Ext w w' → wpList P l.toArray Q (l.drop n) a' w') (l.take n) a) : (Code.region id l.toArray true).wp P Q a w := by
  simp only [plainB, Bool.and_eq_true, decide_eq_true_eq] at hB
  obtain ⟨⟨⟨⟨hsel, hn⟩, hs⟩, hc⟩, ho⟩ := hB
  have hn' : n < l.length := by simpa using hn
  have hmap : (List.range n).map (fun i => l.toArray[i]?) = (l.take n).map some := by
    apply List.ext_getElem?
    intro j
    simp only [List.getElem?_map, List.getElem?_take]
    by_cases hj : j < n
    · simp [hj, show j < l.length by omega]
    · simp [hj]
  have H := rAny_order (md := .any) (g := l.toArray.size - n) hsel (HeadInv .any l.toArray n) (fun listed j inv hj hjn => inv.set hj hjn) (fun listed inv i hi hun => tail_waits hs hc hn inv _ i rfl hi hun)
    (List.range n) (l.take n) _ a hmap headInv0 ho h
  refine wp_region_any hm ?_
  have := rAny_then_tail (md := .any) (Q := Q) (l := l.drop n) (dst := none) (u := undef) (D := fun w' => Ext w w') hsel (by simp) (fun j => by simp [List.getElem?_drop])
    (fun w' h => hC w' h.1) (fun a b ha hb => Ext.trans (a := w) ha hb) (fun _ => False) (fun i o _ _ _ => ⟨fun d hd => (by cases hd), fun d hd => (by cases hd)⟩)
    (fun a' w' hw' hl => hl w' hw') _ _ _ { w with drawn := w.drawn + 1 } ⟨⟨rfl, rfl, rfl, Nat.le_refl _, fun _ _ => rfl⟩, by simp⟩ (fun i hi => hi.elim) H
  rw [List.length_range, show n + (l.toArray.size - n) = l.toArray.size by omega] at this
  exact this

end
theorem toExt {P : Program} {f : FuncId} {args : Array Value} {v : Value} (c : ∀ w : World, Calls P f args w fun e w' => e = .returned v ∧ Ext w w') : ∀ w : World, Calls P f args w fun e w' => e = .returned v ∧ Ext w w' := c
theorem Ext.grown {w w' : World} (h : Ext w w') : ∃ q os, w' = grow (w.drewN q) os := by
  obtain ⟨p, hp⟩ := regrown_of_below h.1
  refine ⟨p.d - w.drawn, p.os, ?_⟩
  have h2 := h.2
  have e : w'.drawn = p.d := by rw [hp]; rfl
  rw [e] at h2
  rw [hp]
  have : redrawn w p.d = w.drewN (p.d - w.drawn) := by unfold redrawn World.drewN; congr 1; omega
  rw [this]
end Go.Proofs.Ytnocdecimcpkfaa.Dr
