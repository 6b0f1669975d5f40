/- Put together: ExP, ExQ, ExV, ExW, TrA, Row, TrB, TrL, Alike, MesB, MesC, MesD, MesE. -/
import Derived.Test.YtmobnmjjmafibaaGreatPuw2
import Derived.Test.YtmobnmjjmafibaaGreatPuw3
import Derived.Test.YtmobnmjjmafibaaGreatRows
import Derived.Test.YtmobnmjjmafibaaGreatPuw0
import Derived.WalkKit
import Derived.WalkSpells
import Derived.WalkLawsBesides
import Derived.Laws.Externs
import Derived.Deep.QuietTactic
import Derived.BigQuiet
import Derived.Lib.Hide
import Derived.Handy
import Derived.Below
import Derived.Laws.AppendOwn
import Derived.Test.YtmobnmjjmafibaaGreatPuw1
import Derived.LoopN
import Derived.RegionTactic
import Derived.Laws.Cover3
set_option maxRecDepth 100000
set_option maxHeartbeats 8000000
namespace Go.Proofs.YtmobnmjjmafibaaGreat
open Go.RowKit
def kk (a b p : Pt) : Int := (p.x - a.x) * (b.x - a.x) + (p.y - a.y) * (b.y - a.y)
def EE (a b : Pt) : Int := (b.x - a.x) * (b.x - a.x) + (b.y - a.y) * (b.y - a.y)
theorem EE_pos {a b : Pt} (h : a ≠ b) : 0 < EE a b := by
 have h1 := zDa (b.x - a.x);have h2 := zDa (b.y - a.y);have h3 : EE a b ≠ 0 := fun h0 => by
  unfold EE at h0;have g1 : (b.x - a.x) * (b.x - a.x) = 0 := by omega
  have g2 : (b.y - a.y) * (b.y - a.y) = 0 := by omega
  apply h; rw [Pt.eq_iff];have k1 : b.x - a.x = 0 := by rcases Int.mul_eq_zero.1 g1 with k | k <;> exact k
  have k2 : b.y - a.y = 0 := by rcases Int.mul_eq_zero.1 g2 with k | k <;> exact k
  omega
 have : 0 ≤ EE a b := by unfold EE; omega
 omega
theorem I1 (a b c d : Pt) : EE a b * det c d a = kk a b c * det a b d - det a b c * kk a b d := by unfold EE kk det; grind
theorem I2 (a b c d : Pt) : EE a b * det c d b = (kk a b c - EE a b) * det a b d - det a b c * (kk a b d - EE a b) := by unfold EE kk det; grind
structure Seg2 (a b c d : Pt) : Prop where
 va : vld a = true
 vb : vld b = true
 vc : vld c = true
 vd : vld d = true
 nab : a ≠ b
 ncd : c ≠ d
theorem zH4 {a b c d : Pt} (h : ¬ Seg2 a b c d) : meetS a b c d = 0 := by
 unfold meetS;cases va : vld a with
 | false => rfl
 | true => cases vb : vld b with
  | false => rfl
  | true => cases vc : vld c with
   | false => rfl
   | true => cases vd : vld d with
    | false => rfl
    | true =>
     by_cases e1 : a = b
     ·rw [if_neg (by simp), if_neg (by simp), if_neg (by simp), if_neg (by simp), if_pos (pp e1)]
     ·by_cases e2 : c = d
      ·rw [if_neg (by simp), if_neg (by simp), if_neg (by simp), if_neg (by simp), if_neg (np e1), if_pos (pp e2)]
      ·exact absurd ⟨va, vb, vc, vd, e1, e2⟩ h
section
variable {a b c d : Pt} (s : Seg2 a b c d)
include s
theorem meetS_line (h : det a b c = 0 ∧ det a b d = 0) : meetS a b c d = mil a b c d := by
 unfold meetS;rw [if_neg (by rw [s.va]; simp), if_neg (by rw [s.vb]; simp), if_neg (by rw [s.vc]; simp), if_neg (by rw [s.vd]; simp), if_neg (np s.nab), if_neg (np s.ncd),
  if_pos ⟨by rw [ori_v s.va s.vb s.vc, h.1]; rfl, by rw [ori_v s.va s.vb s.vd, h.2]; rfl⟩]
theorem zJk (h : ¬ (det a b c = 0 ∧ det a b d = 0)) : ¬ (ori a b c = 0 ∧ ori a b d = 0) := fun k => h ⟨by rw [← zBu, ← ori_v s.va s.vb s.vc]; exact k.1, by rw [← zBu, ← ori_v s.va s.vb s.vd]; exact k.2⟩
theorem meetS_end (h : ¬ (det a b c = 0 ∧ det a b d = 0)) (e : a = c ∨ a = d ∨ b = c ∨ b = d) : meetS a b c d = 0 := by
 unfold meetS;rw [if_neg (by rw [s.va]; simp), if_neg (by rw [s.vb]; simp), if_neg (by rw [s.vc]; simp), if_neg (by rw [s.vd]; simp), if_neg (np s.nab), if_neg (np s.ncd), if_neg (zJk s h)];by_cases e1 : a = c
 ·rw [if_pos (pp e1)]
 rw [if_neg (np e1)];by_cases e2 : a = d
 ·rw [if_pos (pp e2)]
 rw [if_neg (np e2)];by_cases e3 : b = c
 ·rw [if_pos (pp e3)]
 rw [if_neg (np e3)];by_cases e4 : b = d
 ·rw [if_pos (pp e4)]
 rcases e with e | e | e | e
 ·exact absurd e e1
 ·exact absurd e e2
 ·exact absurd e e3
 ·exact absurd e e4
theorem meetS_fin (h : ¬ (det a b c = 0 ∧ det a b d = 0)) (e : ¬ (a = c ∨ a = d ∨ b = c ∨ b = d)) : meetS a b c d = fin (sgn (det c d a)) (sgn (det c d b)) (sgn (det a b c)) (sgn (det a b d)) := by
 unfold meetS;rw [if_neg (by rw [s.va]; simp), if_neg (by rw [s.vb]; simp), if_neg (by rw [s.vc]; simp), if_neg (by rw [s.vd]; simp), if_neg (np s.nab), if_neg (np s.ncd), if_neg (zJk s h),
  if_neg (np (fun k => e (.inl k))), if_neg (np (fun k => e (.inr (.inl k)))), if_neg (np (fun k => e (.inr (.inr (.inl k))))), if_neg (np (fun k => e (.inr (.inr (.inr k))))),
  ori_v s.va s.vb s.vc, ori_v s.va s.vb s.vd, ori_v s.vc s.vd s.va, ori_v s.vc s.vd s.vb]
end
theorem zKr {p q : Pt} (hp : vld p = true) (hq : vld q = true) : vld (lo2 p q) = true ∧ key (lo2 p q) = min (key p) (key q) := by
 unfold lo2; rw [zDg hq hp];have := zAj (key q - key p);split
 ·exact ⟨hq, by omega⟩
 ·exact ⟨hp, by omega⟩
theorem zKv {p q : Pt} (hp : vld p = true) (hq : vld q = true) : vld (hi2 p q) = true ∧ key (hi2 p q) = max (key p) (key q) := by
 unfold hi2; rw [zDg hq hp];have := zAj (key q - key p);split
 ·exact ⟨hp, by omega⟩
 ·exact ⟨hq, by omega⟩
theorem zGo {p q : Pt} (hp : vld p = true) (hq : vld q = true) : cmpP p q < 0 ↔ key p < key q := by
 rw [zDg hp hq]; have := zAj (key p - key q); omega
theorem mil_key {a b c d : Pt} (s : Seg2 a b c d) : mil a b c d = if min (key a) (key b) < max (key c) (key d) ∧ min (key c) (key d) < max (key a) (key b) then 3 else 0 := by
 obtain ⟨u1, u2⟩ := zKr s.va s.vb;obtain ⟨u3, u4⟩ := zKv s.va s.vb;obtain ⟨u5, u6⟩ := zKr s.vc s.vd;obtain ⟨u7, u8⟩ := zKv s.vc s.vd;unfold mil;simp only [zGo u1 u7, zGo u5 u3, u2, u4, u6, u8]
 (repeat' split) <;> omega
end Go.Proofs.YtmobnmjjmafibaaGreat
namespace Go.Proofs.YtmobnmjjmafibaaGreat
open Go.RowKit Go.Sort
attribute [local go_sem] rOper rAt rUpon cell_set sg_i64 sg_u64 alloc_cell alloc_frozen
attribute [local go_sem 10000] pt_eql pt_neq
attribute [local irreducible] rWalk
structure Tri3 where
 A : Pt
 B : Pt
 C : Pt
def mkT (x y z : Pt) : Tri3 := if cmpP y x < 0 ∨ cmpP z x < 0 then (if cmpP z y < 0 ∨ cmpP x y < 0 then ⟨z, x, y⟩ else ⟨y, z, x⟩) else ⟨x, y, z⟩
def mk (a b c : Pt) : Tri3 := if ori a b c = 0 then ⟨⟨0, 0⟩, ⟨0, 0⟩, ⟨0, 0⟩⟩ else if ori a b c = 1 then mkT a b c else mkT a c b
theorem zDo {x y z : Pt} (hx : vld x = true) (hy : vld y = true) (hz : vld z = true) (n1 : key x ≠ key y) (n2 : key x ≠ key z) (n3 : key y ≠ key z) :
    (key x < key y ∧ key x < key z ∧ mkT x y z = ⟨x, y, z⟩) ∨ (key y < key x ∧ key y < key z ∧ mkT x y z = ⟨y, z, x⟩) ∨ (key z < key x ∧ key z < key y ∧ mkT x y z = ⟨z, x, y⟩) := by
 unfold mkT;simp only [zGo hy hx, zGo hz hx, zGo hz hy, zGo hx hy]
 (repeat' split) <;> simp <;> omega
theorem dlt {p q : Pt} (hp : vld p = true) (hq : vld q = true) (h : key p < key q) : decide (cmpP p q < 0) = true := by simpa using (zGo hp hq).2 h
theorem dge {p q : Pt} (hp : vld p = true) (hq : vld q = true) (h : key q ≤ key p) : decide (cmpP p q < 0) = false := by
 have := zGo hp hq;simp; omega
theorem zB7 (a b c : Pt) (w : World) :
    Calls Tryz.prog 47 #[.agg #[.int .i64 a.x, .int .i64 a.y], .agg #[.int .i64 b.x, .int .i64 b.y], .agg #[.int .i64 c.x, .int .i64 c.y]] w fun e w' => e = .returned (.tuple #[.agg #[.int .i64 (mk a b c).A.x, .int .i64 (mk a b c).A.y, .int .i64 (mk a b c).B.x, .int .i64 (mk a b c).B.y, .int .i64 (mk a b c).C.x, .int .i64 (mk a b c).C.y], .bool (!decide (ori a b c = 0))]) ∧ Below w.heap.size w w' := by
 by_cases h0 : ori a b c = 0
 ·rw [show mk a b c = ⟨⟨0, 0⟩, ⟨0, 0⟩, ⟨0, 0⟩⟩ by unfold mk; rw [if_pos h0], show (!decide (ori a b c = 0)) = false by simp [h0]];exact rmake_0 a b c h0 w
 ·obtain ⟨va, vb, vc⟩ := zCq h0;obtain ⟨d1, d2, d3⟩ := zBd h0;have n1 : key a ≠ key b := fun h => d1 (zBx va vb h).symm;have n2 : key a ≠ key c := fun h => d2 (zBx va vc h).symm;have n3 : key b ≠ key c := fun h => d3 (zBx vb vc h).symm;rw [show (!decide (ori a b c = 0)) = true by simp [h0]];have hb := zB4 a b c;by_cases h1 : ori a b c = 1
  ·rw [show mk a b c = mkT a b c by unfold mk; rw [if_neg h0, if_pos h1]];rcases zDo va vb vc n1 n2 n3 with ⟨x1, x2, e⟩ | ⟨x1, x2, e⟩ | ⟨x1, x2, e⟩ <;> rw [e]
   ·exact rmake_p0 a b c h1 (dge vb va (by omega)) (dge vc va (by omega)) w
   ·exact rmake_p1 a b c h1 (dlt vb va (by omega)) (dge vc vb (by omega)) (dge va vb (by omega)) w
   ·rcases Int.lt_or_le (key b) (key a) with y | y
    ·exact rmake_p2 a b c h1 (dlt vb va (by omega)) (dlt vc vb (by omega)) (dge va vc (by omega)) (dge vb vc (by omega)) w
    ·exact rmake_p3 a b c h1 (dge vb va (by omega)) (dlt vc va (by omega)) (dlt vc vb (by omega)) (dge va vc (by omega)) (dge vb vc (by omega)) w
  ·have h2 : ori a b c = -1 := by omega
   rw [show mk a b c = mkT a c b by unfold mk; rw [if_neg h0, if_neg h1]];rcases zDo va vc vb n2 n1 n3.symm with ⟨x1, x2, e⟩ | ⟨x1, x2, e⟩ | ⟨x1, x2, e⟩ <;> rw [e]
   ·exact rmake_n0 a b c h2 (dge vc va (by omega)) (dge vb va (by omega)) w
   ·exact rmake_n1 a b c h2 (dlt vc va (by omega)) (dge vb vc (by omega)) (dge va vc (by omega)) w
   ·rcases Int.lt_or_le (key c) (key a) with y | y
    ·exact rmake_n2 a b c h2 (dlt vc va (by omega)) (dlt vb vc (by omega)) (dge va vb (by omega)) (dge vc vb (by omega)) w
    ·exact rmake_n3 a b c h2 (dge vc va (by omega)) (dlt vb va (by omega)) (dlt vb vc (by omega)) (dge va vb (by omega)) (dge vc vb (by omega)) w
def teq (s u : Tri3) : Bool := peqI s.A.x s.A.y u.A.x u.A.y && (peqI s.B.x s.B.y u.B.x u.B.y && peqI s.C.x s.C.y u.C.x u.C.y)
theorem tri_eql (s u : Tri3) (w : World) : (binOp .eql 38 (.agg #[.int .i64 s.A.x, .int .i64 s.A.y, .int .i64 s.B.x, .int .i64 s.B.y, .int .i64 s.C.x, .int .i64 s.C.y]) (.agg #[.int .i64 u.A.x, .int .i64 u.A.y, .int .i64 u.B.x, .int .i64 u.B.y, .int .i64 u.C.x, .int .i64 u.C.y])).run Tryz.prog w = .ok (.bool (teq s u)) w := by
 unfold teq peqI;by_cases h1 : s.A.x = u.A.x
 case neg => simp [go_sem, h1]
 case pos =>
 by_cases h2 : s.A.y = u.A.y
 case neg => simp [go_sem, h1, h2]
 case pos =>
 by_cases h3 : s.B.x = u.B.x
 case neg => simp [go_sem, h1, h2, h3]
 case pos =>
 by_cases h4 : s.B.y = u.B.y
 case neg => simp [go_sem, h1, h2, h3, h4]
 case pos =>
 by_cases h5 : s.C.x = u.C.x
 case neg => simp [go_sem, h1, h2, h3, h4, h5]
 case pos =>
 by_cases h6 : s.C.y = u.C.y
 ·simp [go_sem, h1, h2, h3, h4, h5, h6]
 ·simp [go_sem, h1, h2, h3, h4, h5, h6]
end Go.Proofs.YtmobnmjjmafibaaGreat
namespace Go.Proofs.YtmobnmjjmafibaaGreat
open Go.RowKit Go.Sort
attribute [local go_sem] rOper rAt rUpon cell_set sg_i64 sg_u64 alloc_cell alloc_frozen
attribute [local go_sem 10000] pt_eql pt_neq tri_eql
attribute [local irreducible] rWalk
def valT (T : Tri3) : Bool := !decide (ori T.A T.B T.C = 0) && teq (mk T.A T.B T.C) T
theorem rvalT_0 (T : Tri3) (h : (!decide (ori T.A T.B T.C = 0)) = false) (w : World) :
    Calls Tryz.prog 58 #[.agg #[.int .i64 T.A.x, .int .i64 T.A.y, .int .i64 T.B.x, .int .i64 T.B.y, .int .i64 T.C.x, .int .i64 T.C.y]] w fun e w' => e = .returned (.bool false) ∧ Below w.heap.size w w' := by
 have cm := zB7 T.A T.B T.C;rw [h] at cm;clear h;generalize mk T.A T.B T.C = M at *
 go_enter Tryz.func58, Tryz.ntmps58
 go_wp2_with fail;refine zA1 fun W1 hW => ?_;obtain ⟨Bt, hw⟩ := N1 hW;clear hW;refine (cm _).mono ?_;rintro e w2 ⟨rfl, hb⟩;obtain ⟨Bt, hw, Ft⟩ := X1 Bt hw hb;clear hb;go_wp2
 go_ret
 exact ⟨rfl, by have hl := hw.size; go_grown⟩
theorem rvalT_1 (T : Tri3) (h : (!decide (ori T.A T.B T.C = 0)) = true) (w : World) :
    Calls Tryz.prog 58 #[.agg #[.int .i64 T.A.x, .int .i64 T.A.y, .int .i64 T.B.x, .int .i64 T.B.y, .int .i64 T.C.x, .int .i64 T.C.y]] w fun e w' => e = .returned (.bool (teq (mk T.A T.B T.C) T)) ∧ Below w.heap.size w w' := by
 have cm := zB7 T.A T.B T.C;rw [h] at cm;clear h;generalize mk T.A T.B T.C = M at *
 go_enter Tryz.func58, Tryz.ntmps58
 go_wp2_with fail;refine zA1 fun W1 hW => ?_;obtain ⟨Bt, hw⟩ := N1 hW;clear hW;refine (cm _).mono ?_;rintro e w2 ⟨rfl, hb⟩;obtain ⟨Bt, hw, Ft⟩ := X1 Bt hw hb;clear hb;go_wp2
 go_ret
 exact ⟨rfl, by have hl := hw.size; go_grown⟩
theorem zBh (T : Tri3) (w : World) :
    Calls Tryz.prog 58 #[.agg #[.int .i64 T.A.x, .int .i64 T.A.y, .int .i64 T.B.x, .int .i64 T.B.y, .int .i64 T.C.x, .int .i64 T.C.y]] w fun e w' => e = .returned (.bool (valT T)) ∧ Below w.heap.size w w' := by
 unfold valT;cases h : (!decide (ori T.A T.B T.C = 0)) with
 | false => exact rvalT_0 T h w
 | true => exact rvalT_1 T h w
def hasP (T : Tri3) (p : Pt) : Bool := valT T && (vld p && (decide (0 ≤ ori T.A T.B p) && (decide (0 ≤ ori T.B T.C p) && decide (0 ≤ ori T.C T.A p))))
theorem rhasP_0 (T : Tri3) (p : Pt) (h0 : valT T = false) (w : World) :
    Calls Tryz.prog 49 #[.agg #[.int .i64 T.A.x, .int .i64 T.A.y, .int .i64 T.B.x, .int .i64 T.B.y, .int .i64 T.C.x, .int .i64 T.C.y], .agg #[.int .i64 p.x, .int .i64 p.y]] w fun e w' => e = .returned (.bool false) ∧ Below w.heap.size w w' := by
 have cv := zBh T;rw [h0] at cv;clear h0
 go_enter Tryz.func49, Tryz.ntmps49
 go_wp2_with fail;refine zA1 fun W1 hW => ?_;obtain ⟨Bt, Bp, hw⟩ := N2 hW;clear hW;refine (cv _).mono ?_;rintro e w2 ⟨rfl, hb⟩;obtain ⟨Bt, Bp, hw, F_tp⟩ := X2 Bt Bp hw hb;clear hb;go_wp2
 go_ret
 exact ⟨rfl, hw⟩
theorem rhasP_1 (T : Tri3) (p : Pt) (h0 : valT T = true) (h1 : vld p = false) (w : World) :
    Calls Tryz.prog 49 #[.agg #[.int .i64 T.A.x, .int .i64 T.A.y, .int .i64 T.B.x, .int .i64 T.B.y, .int .i64 T.C.x, .int .i64 T.C.y], .agg #[.int .i64 p.x, .int .i64 p.y]] w fun e w' => e = .returned (.bool false) ∧ Below w.heap.size w w' := by
 have cv := zBh T;rw [h0] at cv;clear h0;have cp := zA2 p;rw [h1] at cp;clear h1
 go_enter Tryz.func49, Tryz.ntmps49
 go_wp2_with fail;refine zA1 fun W1 hW => ?_;obtain ⟨Bt, Bp, hw⟩ := N2 hW;clear hW;refine (cv _).mono ?_;rintro e w2 ⟨rfl, hb⟩;obtain ⟨Bt, Bp, hw, F_tp⟩ := X2 Bt Bp hw hb;clear hb;go_wp2_with fail;refine (cp _).mono ?_;rintro e w3 ⟨rfl, hb⟩;clear F_tp;obtain ⟨Bt, Bp, hw, F_tp⟩ := X2 Bt Bp hw hb;clear hb;go_wp2
 go_ret
 exact ⟨rfl, hw⟩
theorem rhasP_2 (T : Tri3) (p : Pt) (h0 : valT T = true) (h1 : vld p = true) (g0 : decide (0 ≤ ori T.A T.B p) = false) (w : World) :
    Calls Tryz.prog 49 #[.agg #[.int .i64 T.A.x, .int .i64 T.A.y, .int .i64 T.B.x, .int .i64 T.B.y, .int .i64 T.C.x, .int .i64 T.C.y], .agg #[.int .i64 p.x, .int .i64 p.y]] w fun e w' => e = .returned (.bool false) ∧ Below w.heap.size w w' := by
 have cv := zBh T;rw [h0] at cv;clear h0;have cp := zA2 p;rw [h1] at cp;clear h1;have o0 := zA4 T.A T.B p;generalize ori T.A T.B p = O0 at *
 go_enter Tryz.func49, Tryz.ntmps49
 go_wp2_with fail;refine zA1 fun W1 hW => ?_;obtain ⟨Bt, Bp, hw⟩ := N2 hW;clear hW;refine (cv _).mono ?_;rintro e w2 ⟨rfl, hb⟩;obtain ⟨Bt, Bp, hw, F_tp⟩ := X2 Bt Bp hw hb;clear hb;go_wp2_with fail;refine (cp _).mono ?_;rintro e w3 ⟨rfl, hb⟩;clear F_tp;obtain ⟨Bt, Bp, hw, F_tp⟩ := X2 Bt Bp hw hb;clear hb;go_wp2_with fail;refine (o0 _).mono ?_;rintro e w4 ⟨rfl, hb⟩;clear F_tp;obtain ⟨Bt, Bp, hw, F_tp⟩ := X2 Bt Bp hw hb;clear hb;go_wp2
 go_ret
 exact ⟨rfl, hw⟩
theorem rhasP_3 (T : Tri3) (p : Pt) (h0 : valT T = true) (h1 : vld p = true) (g0 : decide (0 ≤ ori T.A T.B p) = true) (g1 : decide (0 ≤ ori T.B T.C p) = false) (w : World) :
    Calls Tryz.prog 49 #[.agg #[.int .i64 T.A.x, .int .i64 T.A.y, .int .i64 T.B.x, .int .i64 T.B.y, .int .i64 T.C.x, .int .i64 T.C.y], .agg #[.int .i64 p.x, .int .i64 p.y]] w fun e w' => e = .returned (.bool false) ∧ Below w.heap.size w w' := by
 have cv := zBh T;rw [h0] at cv;clear h0;have cp := zA2 p;rw [h1] at cp;clear h1;have o0 := zA4 T.A T.B p;generalize ori T.A T.B p = O0 at *
 have o1 := zA4 T.B T.C p;generalize ori T.B T.C p = O1 at *
 go_enter Tryz.func49, Tryz.ntmps49
 go_wp2_with fail;refine zA1 fun W1 hW => ?_;obtain ⟨Bt, Bp, hw⟩ := N2 hW;clear hW;refine (cv _).mono ?_;rintro e w2 ⟨rfl, hb⟩;obtain ⟨Bt, Bp, hw, F_tp⟩ := X2 Bt Bp hw hb;clear hb;go_wp2_with fail;refine (cp _).mono ?_;rintro e w3 ⟨rfl, hb⟩;clear F_tp;obtain ⟨Bt, Bp, hw, F_tp⟩ := X2 Bt Bp hw hb;clear hb;go_wp2_with fail;refine (o0 _).mono ?_;rintro e w4 ⟨rfl, hb⟩;clear F_tp;obtain ⟨Bt, Bp, hw, F_tp⟩ := X2 Bt Bp hw hb;clear hb;go_wp2_with fail;refine (o1 _).mono ?_;rintro e w5 ⟨rfl, hb⟩;clear F_tp;obtain ⟨Bt, Bp, hw, F_tp⟩ := X2 Bt Bp hw hb;clear hb;go_wp2
 go_ret
 exact ⟨rfl, hw⟩
theorem rhasP_4 (T : Tri3) (p : Pt) (h0 : valT T = true) (h1 : vld p = true) (g0 : decide (0 ≤ ori T.A T.B p) = true) (g1 : decide (0 ≤ ori T.B T.C p) = true) (w : World) :
    Calls Tryz.prog 49 #[.agg #[.int .i64 T.A.x, .int .i64 T.A.y, .int .i64 T.B.x, .int .i64 T.B.y, .int .i64 T.C.x, .int .i64 T.C.y], .agg #[.int .i64 p.x, .int .i64 p.y]] w fun e w' => e = .returned (.bool (decide (0 ≤ ori T.C T.A p))) ∧ Below w.heap.size w w' := by
 have cv := zBh T;rw [h0] at cv;clear h0;have cp := zA2 p;rw [h1] at cp;clear h1;have o0 := zA4 T.A T.B p;generalize ori T.A T.B p = O0 at *
 have o1 := zA4 T.B T.C p;generalize ori T.B T.C p = O1 at *
 have o2 := zA4 T.C T.A p;generalize ori T.C T.A p = O2 at *
 go_enter Tryz.func49, Tryz.ntmps49
 go_wp2_with fail;refine zA1 fun W1 hW => ?_;obtain ⟨Bt, Bp, hw⟩ := N2 hW;clear hW;refine (cv _).mono ?_;rintro e w2 ⟨rfl, hb⟩;obtain ⟨Bt, Bp, hw, F_tp⟩ := X2 Bt Bp hw hb;clear hb;go_wp2_with fail;refine (cp _).mono ?_;rintro e w3 ⟨rfl, hb⟩;clear F_tp;obtain ⟨Bt, Bp, hw, F_tp⟩ := X2 Bt Bp hw hb;clear hb;go_wp2_with fail;refine (o0 _).mono ?_;rintro e w4 ⟨rfl, hb⟩;clear F_tp;obtain ⟨Bt, Bp, hw, F_tp⟩ := X2 Bt Bp hw hb;clear hb;go_wp2_with fail;refine (o1 _).mono ?_;rintro e w5 ⟨rfl, hb⟩;clear F_tp;obtain ⟨Bt, Bp, hw, F_tp⟩ := X2 Bt Bp hw hb;clear hb;go_wp2_with fail;refine (o2 _).mono ?_;rintro e w6 ⟨rfl, hb⟩;clear F_tp;obtain ⟨Bt, Bp, hw, F_tp⟩ := X2 Bt Bp hw hb;clear hb;go_wp2
 go_ret
 exact ⟨rfl, hw⟩
theorem zD3 (T : Tri3) (p : Pt) (w : World) :
    Calls Tryz.prog 49 #[.agg #[.int .i64 T.A.x, .int .i64 T.A.y, .int .i64 T.B.x, .int .i64 T.B.y, .int .i64 T.C.x, .int .i64 T.C.y], .agg #[.int .i64 p.x, .int .i64 p.y]] w fun e w' => e = .returned (.bool (hasP T p)) ∧ Below w.heap.size w w' := by
 unfold hasP;cases h0 : valT T with
 | false => exact rhasP_0 T p h0 w
 | true => cases h1 : vld p with
  | false => exact rhasP_1 T p h0 h1 w
  | true => cases g0 : decide (0 ≤ ori T.A T.B p) with
   | false => exact rhasP_2 T p h0 h1 g0 w
   | true => cases g1 : decide (0 ≤ ori T.B T.C p) with
    | false => exact rhasP_3 T p h0 h1 g0 g1 w
    | true => exact rhasP_4 T p h0 h1 g0 g1 w
end Go.Proofs.YtmobnmjjmafibaaGreat
namespace Go.Proofs.YtmobnmjjmafibaaGreat
open Go.RowKit Go.Sort
attribute [local go_sem] rOper rAt rUpon cell_set sg_i64 sg_u64 alloc_cell alloc_frozen
attribute [local go_sem 10000] pt_eql pt_neq
attribute [local irreducible] rWalk
def plc (i : Int) : Int := i % 3
theorem zG7 (i : Int) : plc i = 0 ∨ plc i = 1 ∨ plc i = 2 := by unfold plc; omega
theorem zG8 (i : Int) : (wrap64 (i.tmod 3 + 3)).tmod 3 = plc i := by
 have h := @Int.tmod_eq_emod i 3;have h2 : i.tmod 3 = i % 3 ∨ i.tmod 3 = i % 3 - 3 := by
  split at h
  ·left; omega
  ·right; simp at h; omega
 rw [show wrap64 (i.tmod 3 + 3) = i.tmod 3 + 3 by rw [w64]; omega, Int.tmod_eq_emod_of_nonneg (by omega)];unfold plc; omega
theorem zEh (i : Int) (w : World) :
    Calls Tryz.prog 125 #[.int .i64 i] w fun e w' => e = .returned (.int .i64 (plc i)) ∧ Below w.heap.size w w' := by
 rw [← zG8]
 go_enter Tryz.func125, Tryz.ntmps125
 go_wp2
 go_ret
 exact ⟨rfl, by go_grown⟩
def crn (T : Tri3) (i : Int) : Pt := if plc i = 0 then T.A else if plc i = 1 then T.B else T.C
theorem crn_plc (T : Tri3) (i : Int) : crn T (plc i) = crn T i := by
 have : plc (plc i) = plc i := by unfold plc; omega
 unfold crn; rw [this]
theorem crn_next (T : Tri3) (i : Int) : crn T (plc i + 1) = crn T (i + 1) := by
 have : plc (plc i + 1) = plc (i + 1) := by unfold plc; omega
 unfold crn; rw [this]
theorem corner_0 (T : Tri3) (i : Int) (h : plc i = 0) (w : World) :
    Calls Tryz.prog 117 #[.agg #[.int .i64 T.A.x, .int .i64 T.A.y, .int .i64 T.B.x, .int .i64 T.B.y, .int .i64 T.C.x, .int .i64 T.C.y], .int .i64 i] w fun e w' => e = .returned (.agg #[.int .i64 T.A.x, .int .i64 T.A.y]) ∧ Below w.heap.size w w' := by
 have cp := zEh i;rw [h] at cp;clear h
 go_enter Tryz.func117, Tryz.ntmps117
 go_wp2_with fail;refine zA1 fun W1 hW => ?_;obtain ⟨Bt, Br, hw⟩ := N2 hW;clear hW;refine (cp _).mono ?_;rintro e w2 ⟨rfl, hb⟩;obtain ⟨Bt, Br, hw, -⟩ := X2 Bt Br hw hb;clear hb;have Ft := Bt.f;have Fr := Br.f;go_wp2_with fail;refine bodyPost_ret (v := .agg #[.int .i64 T.A.x, .int .i64 T.A.y]) (by simp [results, Tryz.results117, go_sem, Fr]) rfl ⟨rfl, by have hl := hw.size; go_grown⟩
theorem corner_1 (T : Tri3) (i : Int) (h : plc i = 1) (w : World) :
    Calls Tryz.prog 117 #[.agg #[.int .i64 T.A.x, .int .i64 T.A.y, .int .i64 T.B.x, .int .i64 T.B.y, .int .i64 T.C.x, .int .i64 T.C.y], .int .i64 i] w fun e w' => e = .returned (.agg #[.int .i64 T.B.x, .int .i64 T.B.y]) ∧ Below w.heap.size w w' := by
 have cp := zEh i;rw [h] at cp;clear h
 go_enter Tryz.func117, Tryz.ntmps117
 go_wp2_with fail;refine zA1 fun W1 hW => ?_;obtain ⟨Bt, Br, hw⟩ := N2 hW;clear hW;refine (cp _).mono ?_;rintro e w2 ⟨rfl, hb⟩;obtain ⟨Bt, Br, hw, -⟩ := X2 Bt Br hw hb;clear hb;have Ft := Bt.f;have Fr := Br.f;go_wp2_with fail;refine bodyPost_ret (v := .agg #[.int .i64 T.B.x, .int .i64 T.B.y]) (by simp [results, Tryz.results117, go_sem, Fr]) rfl ⟨rfl, by have hl := hw.size; go_grown⟩
theorem corner_2 (T : Tri3) (i : Int) (h : plc i = 2) (w : World) :
    Calls Tryz.prog 117 #[.agg #[.int .i64 T.A.x, .int .i64 T.A.y, .int .i64 T.B.x, .int .i64 T.B.y, .int .i64 T.C.x, .int .i64 T.C.y], .int .i64 i] w fun e w' => e = .returned (.agg #[.int .i64 T.C.x, .int .i64 T.C.y]) ∧ Below w.heap.size w w' := by
 have cp := zEh i;rw [h] at cp;clear h
 go_enter Tryz.func117, Tryz.ntmps117
 go_wp2_with fail;refine zA1 fun W1 hW => ?_;obtain ⟨Bt, Br, hw⟩ := N2 hW;clear hW;refine (cp _).mono ?_;rintro e w2 ⟨rfl, hb⟩;obtain ⟨Bt, Br, hw, -⟩ := X2 Bt Br hw hb;clear hb;have Ft := Bt.f;have Fr := Br.f;go_wp2_with fail;refine bodyPost_ret (v := .agg #[.int .i64 T.C.x, .int .i64 T.C.y]) (by simp [results, Tryz.results117, go_sem, Fr]) rfl ⟨rfl, by have hl := hw.size; go_grown⟩
theorem zHf (T : Tri3) (i : Int) (w : World) :
    Calls Tryz.prog 117 #[.agg #[.int .i64 T.A.x, .int .i64 T.A.y, .int .i64 T.B.x, .int .i64 T.B.y, .int .i64 T.C.x, .int .i64 T.C.y], .int .i64 i] w fun e w' => e = .returned (.agg #[.int .i64 (crn T i).x, .int .i64 (crn T i).y]) ∧ Below w.heap.size w w' := by
 rcases zG7 i with h | h | h
 ·rw [show crn T i = T.A by unfold crn; simp [h]]; exact corner_0 T i h w
 ·rw [show crn T i = T.B by unfold crn; simp [h]]; exact corner_1 T i h w
 ·rw [show crn T i = T.C by unfold crn; simp [h]]; exact corner_2 T i h w
def leq (p q : Pt) : Bool := decide (cmpP p q ≤ 0)
def lds (T : Tri3) : Bool := leq T.A T.B && leq T.A T.C
theorem leads_0 (T : Tri3) (h : leq T.A T.B = false) (w : World) :
    Calls Tryz.prog 120 #[.agg #[.int .i64 T.A.x, .int .i64 T.A.y, .int .i64 T.B.x, .int .i64 T.B.y, .int .i64 T.C.x, .int .i64 T.C.y]] w fun e w' => e = .returned (.bool false) ∧ Below w.heap.size w w' := by
 have c1 := zAs T.A T.B;unfold leq at h;generalize cmpP T.A T.B = n at *
 go_enter Tryz.func120, Tryz.ntmps120
 go_wp2_with fail;refine zA1 fun W1 hW => ?_;obtain ⟨Bt, hw⟩ := N1 hW;clear hW;refine (c1 _).mono ?_;rintro e w2 ⟨rfl, hb⟩;obtain ⟨Bt, hw, Ft⟩ := X1 Bt hw hb;clear hb;go_wp2
 go_ret
 exact ⟨rfl, by have hl := hw.size; go_grown⟩
theorem leads_1 (T : Tri3) (h : leq T.A T.B = true) (w : World) :
    Calls Tryz.prog 120 #[.agg #[.int .i64 T.A.x, .int .i64 T.A.y, .int .i64 T.B.x, .int .i64 T.B.y, .int .i64 T.C.x, .int .i64 T.C.y]] w fun e w' => e = .returned (.bool (leq T.A T.C)) ∧ Below w.heap.size w w' := by
 have c1 := zAs T.A T.B;have c2 := zAs T.A T.C;unfold leq at h ⊢;generalize cmpP T.A T.B = n at *
 generalize cmpP T.A T.C = m at *
 go_enter Tryz.func120, Tryz.ntmps120
 go_wp2_with fail;refine zA1 fun W1 hW => ?_;obtain ⟨Bt, hw⟩ := N1 hW;clear hW;refine (c1 _).mono ?_;rintro e w2 ⟨rfl, hb⟩;obtain ⟨Bt, hw, Ft⟩ := X1 Bt hw hb;clear hb;go_wp2_with fail;refine (c2 _).mono ?_;rintro e w3 ⟨rfl, hb⟩;clear Ft;obtain ⟨Bt, hw, Ft⟩ := X1 Bt hw hb;clear hb;go_wp2
 go_ret
 exact ⟨rfl, by have hl := hw.size; go_grown⟩
theorem leads_any (T : Tri3) (w : World) :
    Calls Tryz.prog 120 #[.agg #[.int .i64 T.A.x, .int .i64 T.A.y, .int .i64 T.B.x, .int .i64 T.B.y, .int .i64 T.C.x, .int .i64 T.C.y]] w fun e w' => e = .returned (.bool (lds T)) ∧ Below w.heap.size w w' := by
 unfold lds;cases h : leq T.A T.B with
 | false => exact leads_0 T h w
 | true => exact leads_1 T h w
def valS (T : Tri3) : Bool := decide (0 < ori T.A T.B T.C) && lds T
theorem tvalid_0 (T : Tri3) (h : decide (0 < ori T.A T.B T.C) = false) (w : World) :
    Calls Tryz.prog 100 #[.agg #[.int .i64 T.A.x, .int .i64 T.A.y, .int .i64 T.B.x, .int .i64 T.B.y, .int .i64 T.C.x, .int .i64 T.C.y]] w fun e w' => e = .returned (.bool false) ∧ Below w.heap.size w w' := by
 have c1 := zA7 T.A T.B T.C;generalize ori T.A T.B T.C = n at *
 go_enter Tryz.func100, Tryz.ntmps100
 go_wp2_with fail;refine zA1 fun W1 hW => ?_;obtain ⟨Bt, hw⟩ := N1 hW;clear hW;refine (c1 _).mono ?_;rintro e w2 ⟨rfl, hb⟩;obtain ⟨Bt, hw, Ft⟩ := X1 Bt hw hb;clear hb;go_wp2
 go_ret
 exact ⟨rfl, by have hl := hw.size; go_grown⟩
theorem tvalid_1 (T : Tri3) (h : decide (0 < ori T.A T.B T.C) = true) (w : World) :
    Calls Tryz.prog 100 #[.agg #[.int .i64 T.A.x, .int .i64 T.A.y, .int .i64 T.B.x, .int .i64 T.B.y, .int .i64 T.C.x, .int .i64 T.C.y]] w fun e w' => e = .returned (.bool (lds T)) ∧ Below w.heap.size w w' := by
 have c1 := zA7 T.A T.B T.C;have c2 := leads_any T;generalize ori T.A T.B T.C = n at *
 generalize lds T = m at *
 go_enter Tryz.func100, Tryz.ntmps100
 go_wp2_with fail;refine zA1 fun W1 hW => ?_;obtain ⟨Bt, hw⟩ := N1 hW;clear hW;refine (c1 _).mono ?_;rintro e w2 ⟨rfl, hb⟩;obtain ⟨Bt, hw, Ft⟩ := X1 Bt hw hb;clear hb;go_wp2_with fail;refine (c2 _).mono ?_;rintro e w3 ⟨rfl, hb⟩;clear Ft;obtain ⟨Bt, hw, Ft⟩ := X1 Bt hw hb;clear hb;go_wp2
 go_ret
 exact ⟨rfl, by have hl := hw.size; go_grown⟩
theorem zC7 {p q : Pt} (hp : vld p = true) (hq : vld q = true) : leq p q = decide (key p ≤ key q) := by
 have h := zGo hq hp;have h2 := zDg hp hq;have h3 := zAj (key p - key q);unfold leq;by_cases hh : key p ≤ key q
 ·rw [decide_eq_true hh, decide_eq_true]; omega
 ·rw [decide_eq_false hh, decide_eq_false]; omega
theorem zFa {s u : Tri3} : teq s u = true ↔ s = u := by
 unfold teq;simp only [Bool.and_eq_true, zC2];cases s with | mk a b c => cases u with | mk d e f => cases a; cases b; cases c; cases d; cases e; cases f; simp [and_assoc]
theorem Tri3.eq_iff {s u : Tri3} : s = u ↔ s.A = u.A ∧ s.B = u.B ∧ s.C = u.C := by
 cases s; cases u; simp
theorem zKd (T : Tri3) : valT T = valS T := by
 obtain ⟨a, b, c⟩ := T;unfold valT valS lds;simp only;have hb := zB4 a b c;by_cases h0 : ori a b c = 0
 ·simp [h0]
 ·obtain ⟨va, vb, vc⟩ := zCq h0;obtain ⟨d1, d2, d3⟩ := zBd h0;have n1 : key a ≠ key b := fun h => d1 (zBx va vb h).symm;have n2 : key a ≠ key c := fun h => d2 (zBx va vc h).symm;have n3 : key b ≠ key c := fun h => d3 (zBx vb vc h).symm;rw [zC7 va vb, zC7 va vc, show (!decide (ori a b c = 0)) = true by simp [h0], Bool.true_and];rw [Bool.eq_iff_iff, zFa];by_cases h1 : ori a b c = 1
  ·rw [show mk a b c = mkT a b c by unfold mk; rw [if_neg h0, if_pos h1]];rcases zDo va vb vc n1 n2 n3 with ⟨x1, x2, e⟩ | ⟨x1, x2, e⟩ | ⟨x1, x2, e⟩ <;> rw [e, Tri3.eq_iff] <;> simp only [Bool.and_eq_true, decide_eq_true_eq]
   ·simp; omega
   ·exact ⟨fun h => absurd h.1 d1, fun h => by omega⟩
   ·exact ⟨fun h => absurd h.1 d2, fun h => by omega⟩
  ·have h2 : ori a b c = -1 := by omega
   rw [show mk a b c = mkT a c b by unfold mk; rw [if_neg h0, if_neg h1]];rcases zDo va vc vb n2 n1 n3.symm with ⟨x1, x2, e⟩ | ⟨x1, x2, e⟩ | ⟨x1, x2, e⟩ <;> rw [e, Tri3.eq_iff] <;> simp only [Bool.and_eq_true, decide_eq_true_eq]
   ·exact ⟨fun h => absurd h.2.1 d3, fun h => by omega⟩
   ·exact ⟨fun h => absurd h.1 d2, fun h => by omega⟩
   ·exact ⟨fun h => absurd h.1 d1, fun h => by omega⟩
theorem zBg (T : Tri3) (w : World) :
    Calls Tryz.prog 100 #[.agg #[.int .i64 T.A.x, .int .i64 T.A.y, .int .i64 T.B.x, .int .i64 T.B.y, .int .i64 T.C.x, .int .i64 T.C.y]] w fun e w' => e = .returned (.bool (valT T)) ∧ Below w.heap.size w w' := by
 rw [zKd];unfold valS;cases h : decide (0 < ori T.A T.B T.C) with
 | false => exact tvalid_0 T h w
 | true => exact tvalid_1 T h w
end Go.Proofs.YtmobnmjjmafibaaGreat
namespace Go.Proofs.YtmobnmjjmafibaaGreat
open Go.RowKit
instance : DecidableEq Tri3 := fun p q => decidable_of_iff (p.A = q.A ∧ p.B = q.B ∧ p.C = q.C) Tri3.eq_iff.symm
instance : Inhabited Tri3 := ⟨⟨⟨0, 0⟩, ⟨0, 0⟩, ⟨0, 0⟩⟩⟩
def cP (p : Pt) : List Value := [.int .i64 p.x, .int .i64 p.y]
def cT (t : Tri3) : List Value := [.int .i64 t.A.x, .int .i64 t.A.y, .int .i64 t.B.x, .int .i64 t.B.y, .int .i64 t.C.x, .int .i64 t.C.y]
@[reducible] def eT (t : Tri3) : Value := .agg #[.int .i64 t.A.x, .int .i64 t.A.y, .int .i64 t.B.x, .int .i64 t.B.y, .int .i64 t.C.x, .int .i64 t.C.y]
def okT (t : Tri3) : Prop := okP t.A ∧ okP t.B ∧ okP t.C
section
variable {α : Type}
def RowAt (c : α → List Value) (k : Nat) (w : World) (a : Option Addr) (L : List α) : Prop :=
 ∀ (j : Nat) (x : α), L[j]? = some x → ∃ ad, a = some ad ∧ ad.block < w.heap.size ∧ ∀ i u, (c x)[i]? = some u → w.cell? ((ad.add (j * k)).add i) = some u
theorem zAk (a : Addr) (n : Nat) : (a.add n).block = a.block := by unfold Addr.add; split <;> rfl
theorem RowAt.ext {c : α → List Value} {k : Nat} {w w' : World} {a : Option Addr} {L : List α} {n : Nat} (h : RowAt c k w a L) (hb : Below n w w') (hn : n = w.heap.size) : RowAt c k w' a L := fun j x hx => by
 obtain ⟨ad, h1, h2, h3⟩ := h j x hx;refine ⟨ad, h1, Nat.lt_of_lt_of_le h2 hb.size, fun i u hu => ?_⟩;rw [hb.cell (p := (ad.add (j * k)).add i) (by rw [zAk, zAk, hn]; exact h2)];exact h3 i u hu
theorem RowAt.ee {c : α → List Value} {k : Nat} {w w' : World} {a : Option Addr} {L : List α} (h : RowAt c k w a L) (hb : Below w.heap.size w w') : RowAt c k w' a L := h.ext hb rfl
theorem RowAt.kept {c : α → List Value} {k : Nat} {w w' : World} {a : Option Addr} {L : List α} {row : Option Nat} (h : RowAt c k w a L) (hg : w.grownBy w' row) (hne : ∀ ad, a = some ad → some ad.block ≠ row) : RowAt c k w' a L := fun j x hx => by
 obtain ⟨ad, h1, h2, h3⟩ := h j x hx;refine ⟨ad, h1, Nat.lt_of_lt_of_le h2 hg.size, fun i u hu => ?_⟩;exact hg.cell (h3 i u hu) (by rw [zAk, zAk]; exact hne ad h1)
theorem RowAt.nil {c : α → List Value} {k : Nat} {w : World} {a : Option Addr} : RowAt c k w a [] := fun j x h => by simp at h
theorem RowAt.old {c : α → List Value} {k : Nat} {w : World} {a : Option Addr} {L : List α} (h : RowAt c k w a L) (o : Obj) : RowAt c k (w.alloc o) a L :=
 h.kept (World.grownBy_alloc w o none) (by simp)
theorem RowAt.tri {w : World} {a : Option Addr} {L : List Tri3} (h : RowAt cT 6 w a L) {j : Nat} (hj : j < L.length) :
    ∃ ad A, a = some ad ∧ ad.add (j * 6) = A ∧ (A.block = w.heap.size) = False ∧ A.block < w.heap.size ∧ (w.cell? A = some (.int .i64 L[j].A.x) ∧ w.cell? ⟨A.block, A.off + 1, none⟩ = some (.int .i64 L[j].A.y) ∧ w.cell? ⟨A.block, A.off + 2, none⟩ = some (.int .i64 L[j].B.x) ∧
     w.cell? ⟨A.block, A.off + 3, none⟩ = some (.int .i64 L[j].B.y) ∧ w.cell? ⟨A.block, A.off + 4, none⟩ = some (.int .i64 L[j].C.x) ∧ w.cell? ⟨A.block, A.off + 5, none⟩ = some (.int .i64 L[j].C.y)) := by
 obtain ⟨ad, h1, h2, h3⟩ := h j L[j] (List.getElem?_eq_getElem hj);have hb : (ad.add (j * 6)).block = ad.block := zAk _ _;refine ⟨ad, _, h1, rfl, by rw [hb]; simp; omega, by rw [hb]; exact h2, ?_⟩;have e0 := h3 0 _ rfl;have e1 := h3 1 _ rfl;have e2 := h3 2 _ rfl;have e3 := h3 3 _ rfl;have e4 := h3 4 _ rfl;have e5 := h3 5 _ rfl;simp only [Addr.add_zero', Addr.add_succ'] at e0 e1 e2 e3 e4 e5;exact ⟨e0, e1, e2, e3, e4, e5⟩
theorem RowAt.pt {w : World} {a : Option Addr} {L : List Pt} (h : RowAt cP 2 w a L) {j : Nat} (hj : j < L.length) :
    ∃ ad A, a = some ad ∧ ad.add (j * 2) = A ∧ (A.block = w.heap.size) = False ∧ A.block < w.heap.size ∧ (w.cell? A = some (.int .i64 L[j].x) ∧ w.cell? ⟨A.block, A.off + 1, none⟩ = some (.int .i64 L[j].y)) := by
 obtain ⟨ad, h1, h2, h3⟩ := h j L[j] (List.getElem?_eq_getElem hj);have hb : (ad.add (j * 2)).block = ad.block := zAk _ _;refine ⟨ad, _, h1, rfl, by rw [hb]; simp; omega, by rw [hb]; exact h2, ?_⟩;have e0 := h3 0 _ rfl;have e1 := h3 1 _ rfl;simp only [Addr.add_zero', Addr.add_succ'] at e0 e1;exact ⟨e0, e1⟩
end
end Go.Proofs.YtmobnmjjmafibaaGreat
namespace Go.Proofs.YtmobnmjjmafibaaGreat
open Go.RowKit Go.Sort
attribute [local go_sem] rOper rAt rUpon cell_set sg_i64 sg_u64 alloc_cell alloc_frozen
attribute [local go_sem 10000] pt_eql pt_neq tri_eql
attribute [local irreducible] rWalk
theorem zAw (T : Tri3) (i : Int) (w : World) :
    Calls Tryz.prog 91 #[.agg #[.int .i64 T.A.x, .int .i64 T.A.y, .int .i64 T.B.x, .int .i64 T.B.y, .int .i64 T.C.x, .int .i64 T.C.y], .int .i64 i] w fun e w' => e = .returned (.tuple #[.agg #[.int .i64 (crn T i).x, .int .i64 (crn T i).y], .agg #[.int .i64 (crn T (i + 1)).x, .int .i64 (crn T (i + 1)).y]]) ∧ Below w.heap.size w w' := by
 have cp := zEh i;have d1 := zHf T (plc i);have d2 := zHf T (plc i + 1);rw [crn_plc] at d1;rw [crn_next] at d2;have hk := zG7 i;have hq : wrap64 (plc i + 1) = plc i + 1 := by rw [w64]; omega
 have hq2 : IntKind.i64.wrap (plc i + 1) = plc i + 1 := by rw [IntKind.wrap_i64]; omega
 generalize crn T i = P at *
 generalize crn T (i + 1) = Q at *
 generalize plc i = k at *
 clear hk
 go_enter Tryz.func91, Tryz.ntmps91
 go_wp2_with fail;refine zA1 fun W1 hW => ?_;obtain ⟨Bt, Br, Bq, hw⟩ := N3 hW;clear hW;refine (cp _).mono ?_;rintro e w2 ⟨rfl, hb⟩;obtain ⟨Bt, Br, Bq, hw, -⟩ := X3 Bt Br Bq hw hb;clear hb;have Ft := Bt.f;have Fr := Br.f;have Fq := Bq.f;go_wp2_with fail;refine zA3 fun W9 hW => ?_;subst hW;clear Ft Fr Fq;have g_trq := J3 Bt.cells Br.cells Bq.cells;refine wrt 7 (by kernel_rfl) (by kernel_rfl) ?_;simp only [tK1, tK0, dP1, dP0];repeat (first | (refine zA0 (Eq.refl false) ?_; simp only [Act.put, sT2, sT1, sT0]) | (refine rWalk_step (fun K hK => ?_); go_simp; first | (refine hK _ ?_; clear hK K) | (apply Exists.intro; refine ⟨fun _ => ?_, hK _ ?_⟩; (first | with_reducible exact toExt d1 _ | with_reducible exact toExt d2 _); clear hK K)))
 refine rWalk_nil ?_;intro w3 hb;clear g_trq;obtain ⟨Bt, Br, Bq, hw, -⟩ := X3 Bt Br Bq hw hb;have Ft := Bt.f;have Fr := Br.f;have Fq := Bq.f;go_wp2_with fail;refine bodyPost_ret (v := .tuple #[.agg #[.int .i64 P.x, .int .i64 P.y], .agg #[.int .i64 Q.x, .int .i64 Q.y]]) (by simp [results, Tryz.results91, go_sem, Fr, Fq]) rfl ⟨rfl, by have hl := hw.size; go_grown⟩
def mn3 (x y z : Int) : Int := if z < (if y < x then y else x) then z else (if y < x then y else x)
theorem run_mn3 {P : Program} (w : World) (ts : Array TypeId) (t : TypeId) (k k' k'' : IntKind) (x y z : Int) : (Builtin.min_ ts t #[.int k x, .int k' y, .int k'' z]).run P w = .ok (.int k (mn3 x y z)) w := run_min_int3 w ts t k k' k'' x y z
attribute [local go_sem 10000] run_mn3
def sde (T : Tri3) (p : Pt) : Int := mn3 (ori T.A T.B p) (ori T.B T.C p) (ori T.C T.A p)
theorem side_any (T : Tri3) (p : Pt) (w : World) :
    Calls Tryz.prog 102 #[.agg #[.int .i64 T.A.x, .int .i64 T.A.y, .int .i64 T.B.x, .int .i64 T.B.y, .int .i64 T.C.x, .int .i64 T.C.y], .agg #[.int .i64 p.x, .int .i64 p.y]] w fun e w' => e = .returned (.int .i64 (sde T p)) ∧ Below w.heap.size w w' := by
 unfold sde;have d1 := zA7 T.A T.B p;have d2 := zA7 T.B T.C p;have d3 := zA7 T.C T.A p;generalize ori T.A T.B p = m at *
 generalize ori T.B T.C p = n at *
 generalize ori T.C T.A p = o at *
 go_enter Tryz.func102, Tryz.ntmps102
 go_wp2_with fail;refine zA3 fun W1 hW => ?_;obtain ⟨Bt, Bp, hw⟩ := N2 hW;clear hW;have g_tp := J2 Bt.cells Bp.cells;refine wrt 18 (by kernel_rfl) (by kernel_rfl) ?_;simp only [tK1, tK0, dP1, dP0];repeat (first | (refine zA0 (Eq.refl false) ?_; simp only [Act.put, sT2, sT1, sT0]) | (refine rWalk_step (fun K hK => ?_); go_simp; first | (refine hK _ ?_; clear hK K) | (apply Exists.intro; refine ⟨fun _ => ?_, hK _ ?_⟩; (first | with_reducible exact toExt d1 _ | with_reducible exact toExt d2 _ | with_reducible exact toExt d3 _); clear hK K)))
 refine rWalk_nil ?_;intro w2 hb;clear g_tp;obtain ⟨Bt, Bp, hw, F_tp⟩ := X2 Bt Bp hw hb;go_wp2
 go_ret
 exact ⟨zAq rfl, by have hl := hw.size; go_grown⟩
def hasS (T : Tri3) (p : Pt) : Bool := valT T && (vld p && decide (0 ≤ sde T p))
theorem has_0 (T : Tri3) (p : Pt) (h0 : valT T = false) (w : World) :
    Calls Tryz.prog 55 #[.agg #[.int .i64 T.A.x, .int .i64 T.A.y, .int .i64 T.B.x, .int .i64 T.B.y, .int .i64 T.C.x, .int .i64 T.C.y], .agg #[.int .i64 p.x, .int .i64 p.y]] w fun e w' => e = .returned (.bool false) ∧ Below w.heap.size w w' := by
 have c1 := zBg T;rw [h0] at c1;clear h0
 go_enter Tryz.func55, Tryz.ntmps55
 go_wp2_with fail;refine zA1 fun W1 hW => ?_;obtain ⟨Bt, Bp, hw⟩ := N2 hW;clear hW;refine (c1 _).mono ?_;rintro e w2 ⟨rfl, hb⟩;obtain ⟨Bt, Bp, hw, F_tp⟩ := X2 Bt Bp hw hb;clear hb;go_wp2
 go_ret
 exact ⟨rfl, by have hl := hw.size; go_grown⟩
theorem has_1 (T : Tri3) (p : Pt) (h0 : valT T = true) (h1 : vld p = false) (w : World) :
    Calls Tryz.prog 55 #[.agg #[.int .i64 T.A.x, .int .i64 T.A.y, .int .i64 T.B.x, .int .i64 T.B.y, .int .i64 T.C.x, .int .i64 T.C.y], .agg #[.int .i64 p.x, .int .i64 p.y]] w fun e w' => e = .returned (.bool false) ∧ Below w.heap.size w w' := by
 have c1 := zBg T;rw [h0] at c1;clear h0;have c2 := zA6 p;rw [h1] at c2;clear h1
 go_enter Tryz.func55, Tryz.ntmps55
 go_wp2_with fail;refine zA1 fun W1 hW => ?_;obtain ⟨Bt, Bp, hw⟩ := N2 hW;clear hW;refine (c1 _).mono ?_;rintro e w2 ⟨rfl, hb⟩;obtain ⟨Bt, Bp, hw, F_tp⟩ := X2 Bt Bp hw hb;clear hb;go_wp2_with fail;refine (c2 _).mono ?_;rintro e w3 ⟨rfl, hb⟩;clear F_tp;obtain ⟨Bt, Bp, hw, F_tp⟩ := X2 Bt Bp hw hb;clear hb;go_wp2
 go_ret
 exact ⟨rfl, by have hl := hw.size; go_grown⟩
theorem has_2 (T : Tri3) (p : Pt) (h0 : valT T = true) (h1 : vld p = true) (w : World) :
    Calls Tryz.prog 55 #[.agg #[.int .i64 T.A.x, .int .i64 T.A.y, .int .i64 T.B.x, .int .i64 T.B.y, .int .i64 T.C.x, .int .i64 T.C.y], .agg #[.int .i64 p.x, .int .i64 p.y]] w fun e w' => e = .returned (.bool (decide (0 ≤ sde T p))) ∧ Below w.heap.size w w' := by
 have c1 := zBg T;rw [h0] at c1;clear h0;have c2 := zA6 p;rw [h1] at c2;clear h1;have c3 := side_any T p;generalize sde T p = n at *
 go_enter Tryz.func55, Tryz.ntmps55
 go_wp2_with fail;refine zA1 fun W1 hW => ?_;obtain ⟨Bt, Bp, hw⟩ := N2 hW;clear hW;refine (c1 _).mono ?_;rintro e w2 ⟨rfl, hb⟩;obtain ⟨Bt, Bp, hw, F_tp⟩ := X2 Bt Bp hw hb;clear hb;go_wp2_with fail;refine (c2 _).mono ?_;rintro e w3 ⟨rfl, hb⟩;clear F_tp;obtain ⟨Bt, Bp, hw, F_tp⟩ := X2 Bt Bp hw hb;clear hb;go_wp2_with fail;refine (c3 _).mono ?_;rintro e w4 ⟨rfl, hb⟩;clear F_tp;obtain ⟨Bt, Bp, hw, F_tp⟩ := X2 Bt Bp hw hb;clear hb;go_wp2
 go_ret
 exact ⟨rfl, by have hl := hw.size; go_grown⟩
theorem has_any (T : Tri3) (p : Pt) (w : World) :
    Calls Tryz.prog 55 #[.agg #[.int .i64 T.A.x, .int .i64 T.A.y, .int .i64 T.B.x, .int .i64 T.B.y, .int .i64 T.C.x, .int .i64 T.C.y], .agg #[.int .i64 p.x, .int .i64 p.y]] w fun e w' => e = .returned (.bool (hasS T p)) ∧ Below w.heap.size w w' := by
 unfold hasS;cases h0 : valT T with
 | false => exact has_0 T p h0 w
 | true => cases h1 : vld p with
  | false => exact has_1 T p h0 h1 w
  | true => exact has_2 T p h0 h1 w
theorem mn3_le {x y z : Int} : (0 ≤ mn3 x y z ↔ 0 ≤ x ∧ 0 ≤ y ∧ 0 ≤ z) ∧ (0 < mn3 x y z ↔ 0 < x ∧ 0 < y ∧ 0 < z) := by unfold mn3; (repeat' split) <;> omega
theorem has_eq (T : Tri3) (p : Pt) : hasS T p = hasP T p := by
 unfold hasS hasP sde;rw [Bool.eq_iff_iff];simp only [Bool.and_eq_true, decide_eq_true_eq, mn3_le.1]
end Go.Proofs.YtmobnmjjmafibaaGreat
namespace Go.Proofs.YtmobnmjjmafibaaGreat
open Go.RowKit Go.Sort
theorem wp_region_lateG {P : Program} {C : World → Prop} {id : Nat} {Q : Exit → Act → World → Prop} {a : Act} {w : World} {l hd : List Oper} (n j s : Nat) (d t : Tmp) {T : TypeId} {zs us : List Value} {eff : Nat → World → World} (heff : ∀ (w : World) (b : Nat), w.heap[b]? = some (.cells zs.toArray T) → (eff b w).heap[b]? = some (.cells us.toArray T) ∧ (∀ B, B ≤ b → Below B w (eff b w))) (u : Value) {oj os : Oper}
    (hoj : l.toArray[j]? = some oj) (hos : l.toArray[s]? = some os) (hjd : oj.dst = some d) (hafter : oj.after = #[]) (hguard : oj.guard = none) (hsd : os.dst = none) (hsg : os.guard = none)
    (hdsz : d < a.tmps.size)
    (hrun : ∀ (ρ : Operand → Value) (w : World), (execOp ρ oj).run P w = .ok (.value (.pointer (some ⟨w.heap.size, 0, none⟩))) (w.alloc (.cells zs.toArray T)))
    (hm : P.follows .mixedOrders = true) (hB : lateB .any l.toArray n j s d t = true)
    (hhd : ((List.range n).filter fun i => i != j && i != s).map (fun i => l.toArray[i]?) = hd.map some)
    (hC : ∀ w', Below w.heap.size w w' → C w')
    (h : rWalk P l.toArray C (fun a' => a'.eval (.tmp t) = u ∧ ∀ w' b, Below w.heap.size w w' → w.heap.size ≤ b → b < w'.heap.size → Box w' b us T → wpList P l.toArray Q (l.drop n) (a'.put (some d) (.pointer (some ⟨b, 0, none⟩))) w') hd a)
    (hst : ∀ (ρ : Operand → Value) (w : World) (b : Nat), ρ (.tmp d) = .pointer (some ⟨b, 0, none⟩) → ρ (.tmp t) = u → Box w b zs T → (execOp ρ os).run P w = .ok .skip (eff b w)) :
    (Code.region id l.toArray true).wp P Q a w := by
 simp only [lateB, Bool.and_eq_true, decide_eq_true_eq] at hB;obtain ⟨⟨⟨⟨⟨⟨⟨⟨⟨⟨⟨⟨⟨hsel, hn⟩, hjn⟩, hsn⟩, hjs⟩, hdt⟩, hs⟩, hc⟩, hph⟩, hbk⟩, hsj⟩, hwr⟩, hqa⟩, ho⟩ := hB;have K : Late P .any l.toArray n j s d t T zs.toArray us.toArray u oj os eff :=
  ⟨hsel, hn, hjn, hsn, hjs, hs, hc, hbk, hoj, hos, hjd, hafter, hguard, hsd, hsg, hsj, hdt, hwr, hrun, hst, fun w b h => heff w b h⟩
 have hjz : (Array.replicate l.toArray.size false).getD j true = false := getD_in (by simp; simp at hn; omega) (getD_replicate_false _ _);have hsz : (Array.replicate l.toArray.size false).getD s true = false := getD_in (by simp; simp at hn; omega) (getD_replicate_false _ _);have tl : ∀ (m : Array Bool) (i : Nat), i < n → (m.size = l.toArray.size ∧ ∀ t', n ≤ t' → t' < l.toArray.size → m.getD t' true = false) → ((m.setIfInBounds i true).size = l.toArray.size ∧ ∀ t', n ≤ t' → t' < l.toArray.size → (m.setIfInBounds i true).getD t' true = false) :=
  fun m i hi ⟨h1, h2⟩ => ⟨by simpa using h1, fun t' ht ht' => by rw [getD_set_ne true (by omega)]; exact h2 t' ht ht'⟩
 have i0 : (Array.replicate l.toArray.size false).size = l.toArray.size ∧ ∀ t', n ≤ t' → t' < l.toArray.size → (Array.replicate l.toArray.size false).getD t' true = false :=
  ⟨by simp, fun t' _ ht' => getD_in (by simpa using ht') (getD_replicate_false _ _)⟩
 have H := zC1 (md := .any) (g := l.toArray.size - n) hsel (fun m => m.size = l.toArray.size ∧ ∀ t', n ≤ t' → t' < l.toArray.size → m.getD t' true = false) (fun m i hi _ hin => tl m i hin hi) (fun m hm => phase_waits hph hc hm.2)
  ((List.range n).filter fun i => i != j && i != s) hd _ a hhd (tl _ s hsn (tl _ j hjn i0)) ho h
 refine wp_region_any hm ?_;have R := late_zero (md := .any) (Q := Q) (l := l.drop n) (w0 := w) K hqa (g := l.toArray.size - n) (by simp) (fun j => by simp [List.getElem?_drop]) hC (fun a' hl => hl.1)
  (fun a' w' b h1 h2 h3 h4 hl => hl.2 w' b h1 h2 h3 h4) _ (Array.replicate l.toArray.size false) a { w with drawn := w.drawn + 1 } hdsz ⟨rfl, rfl, rfl, Nat.le_refl _, fun _ _ => rfl⟩ hjz hsz headInv0 H
 have hcount : ((List.range n).filter fun i => i != j && i != s).length + 1 + 1 = n := count_two hjn hsn hjs;rw [show ((List.range n).filter fun i => i != j && i != s).length + (l.toArray.size - n) + 1 + 1 = l.toArray.size by omega] at R;exact R
theorem zA5 {P : Program} {C : World → Prop} {id : Nat} {Q : Exit → Act → World → Prop} {a : Act} {w : World} {l : List Oper} (m : Nat) (d t : Tmp) {T : TypeId} {zs : List Value} (us : List Value) {eff : Nat → World → World} (heff : ∀ (w : World) (b : Nat), w.heap[b]? = some (.cells zs.toArray T) → (eff b w).heap[b]? = some (.cells us.toArray T) ∧ (∀ B, B ≤ b → Below B w (eff b w))) {oj os : Oper}
    (hoj : l.toArray[m]? = some oj) (hos : l.toArray[m + 1]? = some os) (hjd : oj.dst = some d) (hafter : oj.after = #[]) (hguard : oj.guard = none) (hsd : os.dst = none) (hsg : os.guard = none)
    (hdsz : d < a.tmps.size)
    (hrun : ∀ (ρ : Operand → Value) (w : World), (execOp ρ oj).run P w = .ok (.value (.pointer (some ⟨w.heap.size, 0, none⟩))) (w.alloc (.cells zs.toArray T)))
    (hm : P.follows .mixedOrders = true) (hB : lateB .any l.toArray (m + 2) m (m + 1) d t = true)
    (hC : ∀ w', Below w.heap.size w w' → C w')
    (h : rWalk P l.toArray C (fun a' => a'.eval (.tmp t) = .agg us.toArray ∧ ∀ w' b, Below w.heap.size w w' → w.heap.size ≤ b → b < w'.heap.size → Box w' b us T → wpList P l.toArray Q (l.drop (m + 2)) (a'.put (some d) (.pointer (some ⟨b, 0, none⟩))) w') (l.take m) a)
    (hst : ∀ (ρ : Operand → Value) (w : World) (b : Nat), ρ (.tmp d) = .pointer (some ⟨b, 0, none⟩) → ρ (.tmp t) = .agg us.toArray → Box w b zs T → (execOp ρ os).run P w = .ok .skip (eff b w)) :
    (Code.region id l.toArray true).wp P Q a w := by
 refine wp_region_lateG (hd := l.take m) (m + 2) m (m + 1) d t heff _ hoj hos hjd hafter hguard hsd hsg hdsz hrun hm hB ?_ hC h hst;have hn : m + 2 < l.length := by
  simp only [lateB, Bool.and_eq_true, decide_eq_true_eq] at hB;have := hB.1.1.1.1.1.1.1.1.1.1.1.1.2
  simpa using this
 rw [range_two];apply List.ext_getElem?;intro j;simp only [List.getElem?_map, List.getElem?_take];by_cases hj : j < m
 ·simp [hj, show j < l.length by omega]
 ·simp [hj]
def eff6 (c0 c1 c2 c3 c4 c5 : Value) (b : Nat) (w : World) : World := (((((w.setCell ⟨b, 0, none⟩ c0).setCell ⟨b, 1, none⟩ c1).setCell ⟨b, 2, none⟩ c2).setCell ⟨b, 3, none⟩ c3).setCell ⟨b, 4, none⟩ c4).setCell ⟨b, 5, none⟩ c5
theorem zAd {c0 c1 c2 c3 c4 c5 z : Value} {T : TypeId} (w : World) (b : Nat) (h : w.heap[b]? = some (.cells [z, z, z, z, z, z].toArray T)) : (eff6 c0 c1 c2 c3 c4 c5 b w).heap[b]? = some (.cells [c0, c1, c2, c3, c4, c5].toArray T) ∧ (∀ B, B ≤ b → Below B w (eff6 c0 c1 c2 c3 c4 c5 b w)) := by
 have B0 : Box w b [z, z, z, z, z, z] T := h;exact ⟨(((((B0.set 0 c0).set 1 c1).set 2 c2).set 3 c3).set 4 c4).set 5 c5, fun B hB => ((((((Below.refl B w).setCell hB _).setCell hB _).setCell hB _).setCell hB _).setCell hB _).setCell hB _⟩
attribute [local go_sem] rOper rAt rUpon cell_set sg_i64 sg_u64 alloc_cell alloc_frozen
attribute [local go_sem 10000] pt_eql pt_neq tri_eql
attribute [local irreducible] rWalk
theorem tri_neq (s u : Tri3) (w : World) : (binOp .neq 38 (.agg #[.int .i64 s.A.x, .int .i64 s.A.y, .int .i64 s.B.x, .int .i64 s.B.y, .int .i64 s.C.x, .int .i64 s.C.y]) (.agg #[.int .i64 u.A.x, .int .i64 u.A.y, .int .i64 u.B.x, .int .i64 u.B.y, .int .i64 u.C.x, .int .i64 u.C.y])).run Tryz.prog w = .ok (.bool (!teq s u)) w := by
 unfold teq peqI;by_cases h1 : s.A.x = u.A.x
 case neg => simp [go_sem, h1]
 case pos =>
 by_cases h2 : s.A.y = u.A.y
 case neg => simp [go_sem, h1, h2]
 case pos =>
 by_cases h3 : s.B.x = u.B.x
 case neg => simp [go_sem, h1, h2, h3]
 case pos =>
 by_cases h4 : s.B.y = u.B.y
 case neg => simp [go_sem, h1, h2, h3, h4]
 case pos =>
 by_cases h5 : s.C.x = u.C.x
 case neg => simp [go_sem, h1, h2, h3, h4, h5]
 case pos =>
 by_cases h6 : s.C.y = u.C.y
 ·simp [go_sem, h1, h2, h3, h4, h5, h6]
 ·simp [go_sem, h1, h2, h3, h4, h5, h6]
attribute [local go_sem 10000] tri_neq
theorem zKb (a1 a2 : Option Addr) (c1 c2 : Nat) (L1 L2 : List Tri3) (w : World) (h1 : RowAt cT 6 w a1 L1) (h2 : RowAt cT 6 w a2 L2) (hl1 : L1.length ≤ 1000000) :
    Calls Tryz.prog 17 #[.slice a1 L1.length c1, .slice a2 L2.length c2] w fun e w' => e = .returned (.bool (decide (L1 = L2))) ∧ Below w.heap.size w w' := by
 by_cases hl : L1.length = L2.length
 case neg =>
  have hne : L1 ≠ L2 := fun e => hl (by rw [e]);have hd : decide (L1 = L2) = false := by simpa using hne
  rw [hd];have hb2 : ((L1.length : Int) != L2.length) = true := by rw [bne_iff_ne]; omega
  clear h1 h2 hne hd;generalize L1.length = n1 at *
  generalize L2.length = n2 at *
  go_enter Tryz.func17, Tryz.ntmps17
  go_wp2
  go_ret
  exact ⟨rfl, Below.refl _ _⟩
 case pos =>
  obtain ⟨n, hn1⟩ : ∃ n, L1.length = n := ⟨_, rfl⟩;have hn2 : L2.length = n := by rw [← hl, hn1]
  have hb2 : ((n : Int) != n) = false := by simp
  rw [hn1, hn2];have hn : n ≤ 1000000 := hn1 ▸ hl1;have H1 := Lib.hid hn1;have H2 := Lib.hid hn2;clear hn1 hn2 hl hl1
  go_enter Tryz.func17, Tryz.ntmps17
  go_wp2
  go_loopw [5] (fun i wr => ∃ k : Nat, k ≤ n ∧ i = .int .i64 k ∧ Hid (L1.take k = L2.take k) ∧ Below w.heap.size w wr) (fun i _ => n - (intOf i).toNat)
  case atStart => exact ⟨0, Nat.zero_le _, rfl, Lib.hid rfl, Below.refl _ _⟩
  case round =>
   obtain ⟨k, hk, rfl, hT, hw⟩ := hrel;by_cases hlt : k < n
   ·have r1 := h1.ee hw;have r2 := h2.ee hw;obtain ⟨ad1, A1, ea1, eA1, _, _, q0, q1, q2, q3, q4, q5⟩ := r1.tri (j := k) (by rw [H1.out]; exact hlt);obtain ⟨ad2, A2, ea2, eA2, _, _, p0, p1, p2, p3, p4, p5⟩ := r2.tri (j := k) (by rw [H2.out]; exact hlt);clear r1 r2;have e1 : L1[k]'(by rw [H1.out]; exact hlt) = L1[k]'(by rw [H1.out]; exact hlt) := rfl;by_cases he : L1[k]'(by rw [H1.out]; exact hlt) = L2[k]'(by rw [H2.out]; exact hlt)
    ·have hd : teq (L1[k]'(by rw [H1.out]; exact hlt)) (L2[k]'(by rw [H2.out]; exact hlt)) = true := zFa.2 he;have HE := Lib.hid he;clear he e1;go_wp2
     go_quiet (fail)
     go_wp2
     go_roundw
     case rel => 
      refine ⟨k + 1, by omega, by go_num, Lib.hid ?_, ?_⟩
      ·rw [List.take_succ_eq_append_getElem (by rw [H1.out]; exact hlt), List.take_succ_eq_append_getElem (by rw [H2.out]; exact hlt), hT.out, HE.out]
      ·exact hw.trans ⟨rfl, rfl, rfl, Nat.le_refl _, fun _ _ => rfl⟩
     case measure => simp [intOf]; omega
    ·have hd : teq (L1[k]'(by rw [H1.out]; exact hlt)) (L2[k]'(by rw [H2.out]; exact hlt)) = false := by rw [← Bool.not_eq_true, zFa]; exact he
     have hne : decide (L1 = L2) = false := by rw [decide_eq_false_iff_not]; intro e; subst e; exact he rfl
     have HN := Lib.hid hne;clear he e1 hne;go_wp2
     go_quiet (fail)
     go_wp2
     go_ret
     exact ⟨zCu HN.out.symm, hw.trans ⟨rfl, rfl, rfl, Nat.le_refl _, fun _ _ => rfl⟩⟩
   ·have he : L1 = L2 := by
      have := hT.out
      rwa [List.take_of_length_le (by rw [H1.out]; omega), List.take_of_length_le (by rw [H2.out]; omega)] at this
    have hd : decide (L1 = L2) = true := by simpa using he
    have HN := Lib.hid hd;clear he hd;go_wp2
    go_ret
    exact ⟨zCu HN.out.symm, hw⟩
theorem zBi {p q : Pt} : peqI p.x p.y q.x q.y = true ↔ p = q := zC2.trans Pt.eq_iff.symm
end Go.Proofs.YtmobnmjjmafibaaGreat
namespace Go.Proofs.YtmobnmjjmafibaaGreat
open Go.RowKit Go.Sort
attribute [local go_sem] rOper rAt rUpon cell_set sg_i64 sg_u64 alloc_cell alloc_frozen
attribute [local go_sem 10000] pt_eql pt_neq tri_eql
attribute [local irreducible] rWalk
theorem zAt (w : World) : (zeroValue 38).run Tryz.prog w = .ok (.agg #[.int .i64 0, .int .i64 0, .int .i64 0, .int .i64 0, .int .i64 0, .int .i64 0]) w := by kernel_rfl
theorem HoldsMap.look_some {P : Program} {k e t : TypeId} {eK : Pt × Pt → Value} {ok : Pt × Pt → Prop} {w : World} {b : Nat} {E : List ((Pt × Pt) × Tri3)} (h : HoldsMap eK eT ok w b E) (V : KV P k e t eK ok) {z : Value} (hz : ∀ w, (zeroValue e).run P w = .ok z w) {x : Pt × Pt} (hx : ok x) {v : Tri3} (hg : getE E x = some v) :
    (Instr.lookup t (.map (some b)) (eK x) true).run P w = .ok (.tuple #[eT v, .bool true]) w := by
 rw [h.look V (hz w) hx, hg]
theorem HoldsMap.look_none {P : Program} {k e t : TypeId} {eK : Pt × Pt → Value} {ok : Pt × Pt → Prop} {w : World} {b : Nat} {E : List ((Pt × Pt) × Tri3)} (h : HoldsMap eK eT ok w b E) (V : KV P k e t eK ok) {z : Value} (hz : ∀ w, (zeroValue e).run P w = .ok z w) {x : Pt × Pt} (hx : ok x) (hg : getE E x = none) :
    (Instr.lookup t (.map (some b)) (eK x) true).run P w = .ok (.tuple #[z, .bool false]) w := by
 rw [h.look V (hz w) hx, hg]
def lftE (E : List ((Pt × Pt) × Tri3)) (p q : Pt) : Tri3 × Bool := match getE E (p, q) with | some t => (t, true) | none => (⟨⟨0, 0⟩, ⟨0, 0⟩, ⟨0, 0⟩⟩, false)
theorem zAi {E : List ((Pt × Pt) × Tri3)} {p q : Pt} {t : Tri3} (h : getE E (p, q) = some t) : lftE E p q = (t, true) := by unfold lftE; rw [h]
theorem zB3 {E : List ((Pt × Pt) × Tri3)} {p q : Pt} (h : getE E (p, q) = none) : lftE E p q = (⟨⟨0, 0⟩, ⟨0, 0⟩, ⟨0, 0⟩⟩, false) := by unfold lftE; rw [h]
theorem zJ6 (T : Tri3) (i : Int) (w : World) :
    Calls Tryz.prog 116 #[.agg #[.int .i64 T.A.x, .int .i64 T.A.y, .int .i64 T.B.x, .int .i64 T.B.y, .int .i64 T.C.x, .int .i64 T.C.y], .int .i64 i] w fun e w' => e = .returned (.agg #[.int .i64 (crn T i).x, .int .i64 (crn T i).y, .int .i64 (crn T (i + 1)).x, .int .i64 (crn T (i + 1)).y]) ∧ Below w.heap.size w w' := by
 have ce := zAw T i;generalize crn T i = P at *
 generalize crn T (i + 1) = Q at *
 go_enter Tryz.func116, Tryz.ntmps116
 go_wp2_with fail;refine zA1 fun W1 hW => ?_;obtain ⟨Bt, Br, hw⟩ := N2 hW;clear hW;refine (ce _).mono ?_;rintro e w2 ⟨rfl, hb⟩;obtain ⟨Bt, Br, hw, -⟩ := X2 Bt Br hw hb;clear hb;obtain ⟨xt, yt, zt, vt⟩ := Bt.f;obtain ⟨xr, yr, zr, vr⟩ := Br.f;go_wp2_with fail;refine bodyPost_ret (v := .agg #[.int .i64 P.x, .int .i64 P.y, .int .i64 Q.x, .int .i64 Q.y]) (by simp [results, Tryz.results116, go_sem, xr, zr, zt]) rfl ⟨rfl, by have hl := hw.size; go_grown⟩
theorem left_1 (mb b : Nat) (E : List ((Pt × Pt) × Tri3)) (p q : Pt) (T : Tri3) (hg : getE E (p, q) = some T) (hk : okW (p, q)) (w : World) (Bm : Box w mb [.map (some b)] 89) (Hm : HoldsMap eW eT okW w b E) :
    Calls Tryz.prog 38 #[.pointer (some ⟨mb, 0, none⟩), .agg #[.int .i64 p.x, .int .i64 p.y], .agg #[.int .i64 q.x, .int .i64 q.y]] w fun e w' => e = .returned (.tuple #[.agg #[.int .i64 T.A.x, .int .i64 T.A.y, .int .i64 T.B.x, .int .i64 T.B.y, .int .i64 T.C.x, .int .i64 T.C.y], .bool true]) ∧ Below w.heap.size w w' := by
 go_enter Tryz.func38, Tryz.ntmps38
 go_wp2_with fail;refine zA3 fun W1 hW => ?_;obtain ⟨Bp, Bq, Br, hw⟩ := N3 hW;clear hW;have BM : Box W1 (mb) [.map (some b)] 89 := Bm.ee hw;have hl : ∀ d os, (Instr.lookup 87 (.map (some b)) (.agg #[.int .i64 p.x, .int .i64 p.y, .int .i64 q.x, .int .i64 q.y]) true).run Tryz.prog (grow (redrawn W1 d) os) = .ok (.tuple #[.agg #[.int .i64 T.A.x, .int .i64 T.A.y, .int .i64 T.B.x, .int .i64 T.B.y, .int .i64 T.C.x, .int .i64 T.C.y], .bool true]) (grow (redrawn W1 d) os) := fun d os => ((Hm.ee hw).ext (below_regrown W1 d os) rfl).look_some kvM zAt hk hg;clear hg;have g_pqrM := J4 Bp.cells Bq.cells Br.cells BM.cells;refine zA5 11 8 22 [.int .i64 T.A.x, .int .i64 T.A.y, .int .i64 T.B.x, .int .i64 T.B.y, .int .i64 T.C.x, .int .i64 T.C.y] (zs := [.int .i64 0, .int .i64 0, .int .i64 0, .int .i64 0, .int .i64 0, .int .i64 0]) (eff := eff6 (.int .i64 T.A.x) (.int .i64 T.A.y) (.int .i64 T.B.x) (.int .i64 T.B.y) (.int .i64 T.C.x) (.int .i64 T.C.y)) zAd rfl rfl rfl rfl rfl rfl rfl (by simp) (fun ρ W => by simp [execOp, go_sem]; rfl) (by kernel_rfl) (by as_aux_lemma => kernel_rfl) (C := fun w' => ∃ p : Regrown, w' = grow (redrawn W1 p.d) p.os) rgB ?_ (fun ρ W b e1 e2 hB => by obtain ⟨x, y, _, _⟩ := hB.f; simp [execOp, go_sem, e1, e2, x, y, eff6]);simp only [tK1, tK0, dP1, dP0];repeat (first | (refine zA0 (Eq.refl false) ?_; simp only [Act.put, sT2, sT1, sT0]) | (refine rWalk_step (fun K hK => ?_); go_simp; refine hK _ ?_; clear hK K))
 refine rWalk_nil ⟨rfl, ?_⟩;intro w2 bks hb h1b h2b Bs;have lps := Bp.lt;have lqs := Bq.lt;have lrs := Br.lt;have lMs := BM.lt;have hw0z := hw.size;clear g_pqrM;obtain ⟨Bp, Bq, Br, BM, hw, -⟩ := X4 Bp Bq Br BM hw hb;have fs := h1b;have hwz : w.heap.size ≤ W1.heap.size := hw0z;clear hb h1b h2b hw0z;simp only [Act.put];clear hl;obtain ⟨xp, yp, zp, vp⟩ := Bp.f;obtain ⟨xq, yq, zq, vq⟩ := Bq.f;obtain ⟨xr, yr, zr, vr⟩ := Br.f;obtain ⟨xM, yM, zM, vM⟩ := BM.f;obtain ⟨xs, ys, zs, vs⟩ := Bs.f;go_wp2_with fail;refine bodyPost_ret (v := .tuple #[.agg #[.int .i64 T.A.x, .int .i64 T.A.y, .int .i64 T.B.x, .int .i64 T.B.y, .int .i64 T.C.x, .int .i64 T.C.y], .bool true]) (by simp [results, Tryz.results38, go_sem, xr]) rfl ⟨rfl, by have hl := hw.size; go_grown⟩
theorem left_0 (mb b : Nat) (E : List ((Pt × Pt) × Tri3)) (p q : Pt) (hg : getE E (p, q) = none) (hk : okW (p, q)) (w : World) (Bm : Box w mb [.map (some b)] 89) (Hm : HoldsMap eW eT okW w b E) :
    Calls Tryz.prog 38 #[.pointer (some ⟨mb, 0, none⟩), .agg #[.int .i64 p.x, .int .i64 p.y], .agg #[.int .i64 q.x, .int .i64 q.y]] w fun e w' => e = .returned (.tuple #[.agg #[.int .i64 0, .int .i64 0, .int .i64 0, .int .i64 0, .int .i64 0, .int .i64 0], .bool false]) ∧ Below w.heap.size w w' := by
 go_enter Tryz.func38, Tryz.ntmps38
 go_wp2_with fail;refine zA3 fun W1 hW => ?_;obtain ⟨Bp, Bq, Br, hw⟩ := N3 hW;clear hW;have BM : Box W1 (mb) [.map (some b)] 89 := Bm.ee hw;have hl : ∀ d os, (Instr.lookup 87 (.map (some b)) (.agg #[.int .i64 p.x, .int .i64 p.y, .int .i64 q.x, .int .i64 q.y]) true).run Tryz.prog (grow (redrawn W1 d) os) = .ok (.tuple #[.agg #[.int .i64 0, .int .i64 0, .int .i64 0, .int .i64 0, .int .i64 0, .int .i64 0], .bool false]) (grow (redrawn W1 d) os) := fun d os => ((Hm.ee hw).ext (below_regrown W1 d os) rfl).look_none kvM zAt hk hg;clear hg;have g_pqrM := J4 Bp.cells Bq.cells Br.cells BM.cells;refine zA5 11 8 22 [.int .i64 0, .int .i64 0, .int .i64 0, .int .i64 0, .int .i64 0, .int .i64 0] (zs := [.int .i64 0, .int .i64 0, .int .i64 0, .int .i64 0, .int .i64 0, .int .i64 0]) (eff := eff6 (.int .i64 0) (.int .i64 0) (.int .i64 0) (.int .i64 0) (.int .i64 0) (.int .i64 0)) zAd rfl rfl rfl rfl rfl rfl rfl (by simp) (fun ρ W => by simp [execOp, go_sem]; rfl) (by kernel_rfl) (by as_aux_lemma => kernel_rfl) (C := fun w' => ∃ p : Regrown, w' = grow (redrawn W1 p.d) p.os) rgB ?_ (fun ρ W b e1 e2 hB => by obtain ⟨x, y, _, _⟩ := hB.f; simp [execOp, go_sem, e1, e2, x, y, eff6]);simp only [tK1, tK0, dP1, dP0];repeat (first | (refine zA0 (Eq.refl false) ?_; simp only [Act.put, sT2, sT1, sT0]) | (refine rWalk_step (fun K hK => ?_); go_simp; refine hK _ ?_; clear hK K))
 refine rWalk_nil ⟨rfl, ?_⟩;intro w2 bks hb h1b h2b Bs;have lps := Bp.lt;have lqs := Bq.lt;have lrs := Br.lt;have lMs := BM.lt;have hw0z := hw.size;clear g_pqrM;obtain ⟨Bp, Bq, Br, BM, hw, -⟩ := X4 Bp Bq Br BM hw hb;have fs := h1b;have hwz : w.heap.size ≤ W1.heap.size := hw0z;clear hb h1b h2b hw0z;simp only [Act.put];clear hl;obtain ⟨xp, yp, zp, vp⟩ := Bp.f;obtain ⟨xq, yq, zq, vq⟩ := Bq.f;obtain ⟨xr, yr, zr, vr⟩ := Br.f;obtain ⟨xM, yM, zM, vM⟩ := BM.f;obtain ⟨xs, ys, zs, vs⟩ := Bs.f;go_wp2_with fail;refine bodyPost_ret (v := .tuple #[.agg #[.int .i64 0, .int .i64 0, .int .i64 0, .int .i64 0, .int .i64 0, .int .i64 0], .bool false]) (by simp [results, Tryz.results38, go_sem, xr]) rfl ⟨rfl, by have hl := hw.size; go_grown⟩
theorem left_any (mb b : Nat) (E : List ((Pt × Pt) × Tri3)) (p q : Pt) (hk : okW (p, q)) (w : World) (Bm : Box w mb [.map (some b)] 89) (Hm : HoldsMap eW eT okW w b E) :
    Calls Tryz.prog 38 #[.pointer (some ⟨mb, 0, none⟩), .agg #[.int .i64 p.x, .int .i64 p.y], .agg #[.int .i64 q.x, .int .i64 q.y]] w fun e w' => e = .returned (.tuple #[eT (lftE E p q).1, .bool (lftE E p q).2]) ∧ Below w.heap.size w w' := by
 cases h : getE E (p, q) with
 | none => rw [zB3 h]; exact left_0 mb b E p q h hk w Bm Hm
 | some t => rw [zAi h]; exact left_1 mb b E p q t h hk w Bm Hm
def hasE (E : List ((Pt × Pt) × Tri3)) (T : Tri3) : Bool := match getE E (T.A, T.B) with | some s => teq s T | none => false
def fitsE (E : List ((Pt × Pt) × Tri3)) (T : Tri3) : Bool := (getE E (T.A, T.B)).isNone && ((getE E (T.B, T.C)).isNone && ((getE E (T.C, T.A)).isNone && valT T))
theorem okT_w {T : Tri3} (h : okT T) : okW (T.A, T.B) ∧ okW (T.B, T.C) ∧ okW (T.C, T.A) := ⟨⟨h.1, h.2.1⟩, ⟨h.2.1, h.2.2⟩, ⟨h.2.2, h.1⟩⟩
theorem way_0 (T : Tri3) (w : World) : Calls Tryz.prog 116 #[.agg #[.int .i64 T.A.x, .int .i64 T.A.y, .int .i64 T.B.x, .int .i64 T.B.y, .int .i64 T.C.x, .int .i64 T.C.y], .int .i64 0] w fun e w' => e = .returned (.agg #[.int .i64 T.A.x, .int .i64 T.A.y, .int .i64 T.B.x, .int .i64 T.B.y]) ∧ Below w.heap.size w w' := zJ6 T 0 w
theorem way_1 (T : Tri3) (w : World) : Calls Tryz.prog 116 #[.agg #[.int .i64 T.A.x, .int .i64 T.A.y, .int .i64 T.B.x, .int .i64 T.B.y, .int .i64 T.C.x, .int .i64 T.C.y], .int .i64 1] w fun e w' => e = .returned (.agg #[.int .i64 T.B.x, .int .i64 T.B.y, .int .i64 T.C.x, .int .i64 T.C.y]) ∧ Below w.heap.size w w' := zJ6 T 1 w
theorem way_2 (T : Tri3) (w : World) : Calls Tryz.prog 116 #[.agg #[.int .i64 T.A.x, .int .i64 T.A.y, .int .i64 T.B.x, .int .i64 T.B.y, .int .i64 T.C.x, .int .i64 T.C.y], .int .i64 2] w fun e w' => e = .returned (.agg #[.int .i64 T.C.x, .int .i64 T.C.y, .int .i64 T.A.x, .int .i64 T.A.y]) ∧ Below w.heap.size w w' := zJ6 T 2 w
theorem mhas_1 (mb b : Nat) (E : List ((Pt × Pt) × Tri3)) (T : Tri3) (S : Tri3) (hg : getE E (T.A, T.B) = some S) (hk : okT T) (w : World) (Bm : Box w mb [.map (some b)] 89) (Hm : HoldsMap eW eT okW w b E) :
    Calls Tryz.prog 37 #[.pointer (some ⟨mb, 0, none⟩), .agg #[.int .i64 T.A.x, .int .i64 T.A.y, .int .i64 T.B.x, .int .i64 T.B.y, .int .i64 T.C.x, .int .i64 T.C.y]] w fun e w' => e = .returned (.bool (teq S T)) ∧ Below w.heap.size w w' := by
 go_enter Tryz.func37, Tryz.ntmps37
 go_wp2_with fail;refine zA1 fun W1 hW => ?_;obtain ⟨Bt, hw⟩ := N1 hW;clear hW;refine (left_1 mb b E T.A T.B S hg (okT_w hk).1 _ (Bm.ee hw) (Hm.ee hw)).mono ?_;rintro e w2 ⟨rfl, hb⟩;obtain ⟨Bt, hw, -⟩ := X1 Bt hw hb;clear hb;clear hg hk;have Ft := Bt.f;go_wp2
 go_ret
 exact ⟨rfl, by have hl := hw.size; go_grown⟩
theorem mhas_0 (mb b : Nat) (E : List ((Pt × Pt) × Tri3)) (T : Tri3) (hg : getE E (T.A, T.B) = none) (hk : okT T) (w : World) (Bm : Box w mb [.map (some b)] 89) (Hm : HoldsMap eW eT okW w b E) :
    Calls Tryz.prog 37 #[.pointer (some ⟨mb, 0, none⟩), .agg #[.int .i64 T.A.x, .int .i64 T.A.y, .int .i64 T.B.x, .int .i64 T.B.y, .int .i64 T.C.x, .int .i64 T.C.y]] w fun e w' => e = .returned (.bool false) ∧ Below w.heap.size w w' := by
 go_enter Tryz.func37, Tryz.ntmps37
 go_wp2_with fail;refine zA1 fun W1 hW => ?_;obtain ⟨Bt, hw⟩ := N1 hW;clear hW;refine (left_0 mb b E T.A T.B hg (okT_w hk).1 _ (Bm.ee hw) (Hm.ee hw)).mono ?_;rintro e w2 ⟨rfl, hb⟩;obtain ⟨Bt, hw, -⟩ := X1 Bt hw hb;clear hb;clear hg hk;have Ft := Bt.f;go_wp2
 go_ret
 exact ⟨rfl, by have hl := hw.size; go_grown⟩
theorem zJo (mb b : Nat) (E : List ((Pt × Pt) × Tri3)) (T : Tri3) (hk : okT T) (w : World) (Bm : Box w mb [.map (some b)] 89) (Hm : HoldsMap eW eT okW w b E) :
    Calls Tryz.prog 37 #[.pointer (some ⟨mb, 0, none⟩), .agg #[.int .i64 T.A.x, .int .i64 T.A.y, .int .i64 T.B.x, .int .i64 T.B.y, .int .i64 T.C.x, .int .i64 T.C.y]] w fun e w' => e = .returned (.bool (hasE E T)) ∧ Below w.heap.size w w' := by
 cases h : getE E (T.A, T.B) with
 | none => rw [show hasE E T = false by unfold hasE; rw [h]]; exact mhas_0 mb b E T h hk w Bm Hm
 | some S => rw [show hasE E T = teq S T by unfold hasE; rw [h]]; exact mhas_1 mb b E T S h hk w Bm Hm
theorem fits_0 (mb b : Nat) (E : List ((Pt × Pt) × Tri3)) (T : Tri3) (S : Tri3) (hg0 : getE E (T.A, T.B) = some S) (hk : okT T) (w : World) (Bm : Box w mb [.map (some b)] 89) (Hm : HoldsMap eW eT okW w b E) :
    Calls Tryz.prog 115 #[.pointer (some ⟨mb, 0, none⟩), .agg #[.int .i64 T.A.x, .int .i64 T.A.y, .int .i64 T.B.x, .int .i64 T.B.y, .int .i64 T.C.x, .int .i64 T.C.y]] w fun e w' => e = .returned (.bool false) ∧ Below w.heap.size w w' := by
 go_enter Tryz.func115, Tryz.ntmps115
 go_wp2_with fail;refine zA3 fun W1 hW => ?_;obtain ⟨Bt, hw⟩ := N1 hW;clear hW;have BM : Box W1 (mb) [.map (some b)] 89 := Bm.ee hw;refine wp_loop_rounds 5 ?_;try rw [rounds_succ]
 have Ft := Bt.f;have FM := BM.f;go_wp2_with fail;have hl : ∀ d os, (Instr.lookup 87 (.map (some b)) (.agg #[.int .i64 T.A.x, .int .i64 T.A.y, .int .i64 T.B.x, .int .i64 T.B.y]) true).run Tryz.prog (grow (redrawn W1 d) os) = .ok (.tuple #[.agg #[.int .i64 S.A.x, .int .i64 S.A.y, .int .i64 S.B.x, .int .i64 S.B.y, .int .i64 S.C.x, .int .i64 S.C.y], .bool true]) (grow (redrawn W1 d) os) := fun d os => ((Hm.ee hw).ext (below_regrown W1 d os) rfl).look_some kvM zAt (okT_w hk).1 hg0;clear hg0;have g_tM := J2 Bt.cells BM.cells;refine zA5 11 6 20 [.int .i64 S.A.x, .int .i64 S.A.y, .int .i64 S.B.x, .int .i64 S.B.y, .int .i64 S.C.x, .int .i64 S.C.y] (zs := [.int .i64 0, .int .i64 0, .int .i64 0, .int .i64 0, .int .i64 0, .int .i64 0]) (eff := eff6 (.int .i64 S.A.x) (.int .i64 S.A.y) (.int .i64 S.B.x) (.int .i64 S.B.y) (.int .i64 S.C.x) (.int .i64 S.C.y)) zAd rfl rfl rfl rfl rfl rfl rfl (by simp) (fun ρ W => by simp [execOp, go_sem]; rfl) (by kernel_rfl) (by as_aux_lemma => kernel_rfl) (C := fun w' => ∃ p : Regrown, w' = grow (redrawn W1 p.d) p.os) rgB ?_ (fun ρ W b e1 e2 hB => by obtain ⟨x, y, _, _⟩ := hB.f; simp [execOp, go_sem, e1, e2, x, y, eff6]);simp only [tK1, tK0, dP1, dP0];repeat (first | (refine zA0 (Eq.refl false) ?_; simp only [Act.put, sT2, sT1, sT0]) | (refine rWalk_step (fun K hK => ?_); go_simp; first | (refine hK _ ?_; clear hK K) | (apply Exists.intro; refine ⟨fun _ => ?_, hK _ ?_⟩; (first | with_reducible exact toExt (way_0 T) _); clear hK K)))
 refine rWalk_nil ⟨rfl, ?_⟩;intro w2 bks0 hb h1b h2b Bs0;have lts0 := Bt.lt;have lMs0 := BM.lt;have hw0z := hw.size;clear g_tM;clear Ft FM;obtain ⟨Bt, BM, hw, -⟩ := X2 Bt BM hw hb;have fs0 := h1b;have hwz : w.heap.size ≤ W1.heap.size := hw0z;clear hb h1b h2b hw0z;simp only [Act.put];clear hl;have Ft := Bt.f;have FM := BM.f;have Fs0 := Bs0.f;go_wp2
 go_ret
 exact ⟨rfl, hw⟩
theorem fits_1 (mb b : Nat) (E : List ((Pt × Pt) × Tri3)) (T : Tri3) (S : Tri3) (hg0 : getE E (T.A, T.B) = none) (hg1 : getE E (T.B, T.C) = some S) (hk : okT T) (w : World) (Bm : Box w mb [.map (some b)] 89) (Hm : HoldsMap eW eT okW w b E) :
    Calls Tryz.prog 115 #[.pointer (some ⟨mb, 0, none⟩), .agg #[.int .i64 T.A.x, .int .i64 T.A.y, .int .i64 T.B.x, .int .i64 T.B.y, .int .i64 T.C.x, .int .i64 T.C.y]] w fun e w' => e = .returned (.bool false) ∧ Below w.heap.size w w' := by
 go_enter Tryz.func115, Tryz.ntmps115
 go_wp2_with fail;refine zA3 fun W1 hW => ?_;obtain ⟨Bt, hw⟩ := N1 hW;clear hW;have BM : Box W1 (mb) [.map (some b)] 89 := Bm.ee hw;refine wp_loop_rounds 5 ?_;try rw [rounds_succ]
 have Ft := Bt.f;have FM := BM.f;go_wp2_with fail;have hl : ∀ d os, (Instr.lookup 87 (.map (some b)) (.agg #[.int .i64 T.A.x, .int .i64 T.A.y, .int .i64 T.B.x, .int .i64 T.B.y]) true).run Tryz.prog (grow (redrawn W1 d) os) = .ok (.tuple #[.agg #[.int .i64 0, .int .i64 0, .int .i64 0, .int .i64 0, .int .i64 0, .int .i64 0], .bool false]) (grow (redrawn W1 d) os) := fun d os => ((Hm.ee hw).ext (below_regrown W1 d os) rfl).look_none kvM zAt (okT_w hk).1 hg0;clear hg0;have gt := Bt.cells;have gM := BM.cells;refine zA5 11 6 20 [.int .i64 0, .int .i64 0, .int .i64 0, .int .i64 0, .int .i64 0, .int .i64 0] (zs := [.int .i64 0, .int .i64 0, .int .i64 0, .int .i64 0, .int .i64 0, .int .i64 0]) (eff := eff6 (.int .i64 0) (.int .i64 0) (.int .i64 0) (.int .i64 0) (.int .i64 0) (.int .i64 0)) zAd rfl rfl rfl rfl rfl rfl rfl (by simp) (fun ρ W => by simp [execOp, go_sem]; rfl) (by kernel_rfl) (by as_aux_lemma => kernel_rfl) (C := fun w' => ∃ p : Regrown, w' = grow (redrawn W1 p.d) p.os) rgB ?_ (fun ρ W b e1 e2 hB => by obtain ⟨x, y, _, _⟩ := hB.f; simp [execOp, go_sem, e1, e2, x, y, eff6]);simp only [tK1, tK0, dP1, dP0];repeat (first | (refine zA0 (Eq.refl false) ?_; simp only [Act.put, sT2, sT1, sT0]) | (refine rWalk_step (fun K hK => ?_); go_simp; first | (refine hK _ ?_; clear hK K) | (apply Exists.intro; refine ⟨fun _ => ?_, hK _ ?_⟩; (first | with_reducible exact toExt (way_0 T) _); clear hK K)))
 refine rWalk_nil ⟨rfl, ?_⟩;intro w2 bks0 hb h1b h2b Bs0;have lts0 := Bt.lt;have lMs0 := BM.lt;have hw0z := hw.size;clear gt gM;clear Ft FM;obtain ⟨Bt, BM, hw, -⟩ := X2 Bt BM hw hb;have fs0 := h1b;have hwz : w.heap.size ≤ W1.heap.size := hw0z;clear hb h1b h2b hw0z;simp only [Act.put];clear hl;have Ft := Bt.f;have FM := BM.f;have Fs0 := Bs0.f;go_wp2_with fail;clear Ft FM Fs0;try rw [rounds_succ]
 have Ft := Bt.f;have FM := BM.f;have Fs0 := Bs0.f;go_wp2_with fail;refine zA3 fun W3 hW => ?_;subst hW;clear Ft FM Fs0;have hl : ∀ d os, (Instr.lookup 87 (.map (some b)) (.agg #[.int .i64 T.B.x, .int .i64 T.B.y, .int .i64 T.C.x, .int .i64 T.C.y]) true).run Tryz.prog (grow (redrawn W3 d) os) = .ok (.tuple #[.agg #[.int .i64 S.A.x, .int .i64 S.A.y, .int .i64 S.B.x, .int .i64 S.B.y, .int .i64 S.C.x, .int .i64 S.C.y], .bool true]) (grow (redrawn W3 d) os) := fun d os => ((Hm.ee hw).ext (below_regrown W3 d os) rfl).look_some kvM zAt (okT_w hk).2.1 hg1;clear hg1;have gt := Bt.cells;have gM := BM.cells;have gs0 := Bs0.cells;refine zA5 11 6 20 [.int .i64 S.A.x, .int .i64 S.A.y, .int .i64 S.B.x, .int .i64 S.B.y, .int .i64 S.C.x, .int .i64 S.C.y] (zs := [.int .i64 0, .int .i64 0, .int .i64 0, .int .i64 0, .int .i64 0, .int .i64 0]) (eff := eff6 (.int .i64 S.A.x) (.int .i64 S.A.y) (.int .i64 S.B.x) (.int .i64 S.B.y) (.int .i64 S.C.x) (.int .i64 S.C.y)) zAd rfl rfl rfl rfl rfl rfl rfl (by simp) (fun ρ W => by simp [execOp, go_sem]; rfl) (by kernel_rfl) (by as_aux_lemma => kernel_rfl) (C := fun w' => ∃ p : Regrown, w' = grow (redrawn W3 p.d) p.os) rgB ?_ (fun ρ W b e1 e2 hB => by obtain ⟨x, y, _, _⟩ := hB.f; simp [execOp, go_sem, e1, e2, x, y, eff6]);simp only [tK1, tK0, dP1, dP0];repeat (first | (refine zA0 (Eq.refl false) ?_; simp only [Act.put, sT2, sT1, sT0]) | (refine rWalk_step (fun K hK => ?_); go_simp; first | (refine hK _ ?_; clear hK K) | (apply Exists.intro; refine ⟨fun _ => ?_, hK _ ?_⟩; (first | with_reducible exact toExt (way_1 T) _); clear hK K)))
 refine rWalk_nil ⟨rfl, ?_⟩;intro w4 bks1 hb h1b h2b Bs1;have lts1 := Bt.lt;have lMs1 := BM.lt;have ls0s1 := Bs0.lt;have hw0z := hw.size;clear gt gM gs0;obtain ⟨Bt, BM, Bs0, hw, -⟩ := X3 Bt BM Bs0 hw hb;have fs1 := h1b;have hwz : w.heap.size ≤ W3.heap.size := hw0z;clear hb h1b h2b hw0z;simp only [Act.put];clear hl;have Ft := Bt.f;have FM := BM.f;have Fs0 := Bs0.f;have Fs1 := Bs1.f;go_wp2
 go_ret
 exact ⟨rfl, hw⟩
theorem fits_2 (mb b : Nat) (E : List ((Pt × Pt) × Tri3)) (T : Tri3) (S : Tri3) (hg0 : getE E (T.A, T.B) = none) (hg1 : getE E (T.B, T.C) = none) (hg2 : getE E (T.C, T.A) = some S) (hk : okT T) (w : World) (Bm : Box w mb [.map (some b)] 89) (Hm : HoldsMap eW eT okW w b E) :
    Calls Tryz.prog 115 #[.pointer (some ⟨mb, 0, none⟩), .agg #[.int .i64 T.A.x, .int .i64 T.A.y, .int .i64 T.B.x, .int .i64 T.B.y, .int .i64 T.C.x, .int .i64 T.C.y]] w fun e w' => e = .returned (.bool false) ∧ Below w.heap.size w w' := by
 go_enter Tryz.func115, Tryz.ntmps115
 go_wp2_with fail;refine zA3 fun W1 hW => ?_;obtain ⟨Bt, hw⟩ := N1 hW;clear hW;have BM : Box W1 (mb) [.map (some b)] 89 := Bm.ee hw;refine wp_loop_rounds 5 ?_;try rw [rounds_succ]
 have Ft := Bt.f;have FM := BM.f;go_wp2_with fail;have hl : ∀ d os, (Instr.lookup 87 (.map (some b)) (.agg #[.int .i64 T.A.x, .int .i64 T.A.y, .int .i64 T.B.x, .int .i64 T.B.y]) true).run Tryz.prog (grow (redrawn W1 d) os) = .ok (.tuple #[.agg #[.int .i64 0, .int .i64 0, .int .i64 0, .int .i64 0, .int .i64 0, .int .i64 0], .bool false]) (grow (redrawn W1 d) os) := fun d os => ((Hm.ee hw).ext (below_regrown W1 d os) rfl).look_none kvM zAt (okT_w hk).1 hg0;clear hg0;have gt := Bt.cells;have gM := BM.cells;refine zA5 11 6 20 [.int .i64 0, .int .i64 0, .int .i64 0, .int .i64 0, .int .i64 0, .int .i64 0] (zs := [.int .i64 0, .int .i64 0, .int .i64 0, .int .i64 0, .int .i64 0, .int .i64 0]) (eff := eff6 (.int .i64 0) (.int .i64 0) (.int .i64 0) (.int .i64 0) (.int .i64 0) (.int .i64 0)) zAd rfl rfl rfl rfl rfl rfl rfl (by simp) (fun ρ W => by simp [execOp, go_sem]; rfl) (by kernel_rfl) (by as_aux_lemma => kernel_rfl) (C := fun w' => ∃ p : Regrown, w' = grow (redrawn W1 p.d) p.os) rgB ?_ (fun ρ W b e1 e2 hB => by obtain ⟨x, y, _, _⟩ := hB.f; simp [execOp, go_sem, e1, e2, x, y, eff6]);simp only [tK1, tK0, dP1, dP0];repeat (first | (refine zA0 (Eq.refl false) ?_; simp only [Act.put, sT2, sT1, sT0]) | (refine rWalk_step (fun K hK => ?_); go_simp; first | (refine hK _ ?_; clear hK K) | (apply Exists.intro; refine ⟨fun _ => ?_, hK _ ?_⟩; (first | with_reducible exact toExt (way_0 T) _); clear hK K)))
 refine rWalk_nil ⟨rfl, ?_⟩;intro w2 bks0 hb h1b h2b Bs0;have lts0 := Bt.lt;have lMs0 := BM.lt;have hw0z := hw.size;clear gt gM;clear Ft FM;obtain ⟨Bt, BM, hw, -⟩ := X2 Bt BM hw hb;have fs0 := h1b;have hwz : w.heap.size ≤ W1.heap.size := hw0z;clear hb h1b h2b hw0z;simp only [Act.put];clear hl;have Ft := Bt.f;have FM := BM.f;have Fs0 := Bs0.f;go_wp2_with fail;clear Ft FM Fs0;try rw [rounds_succ]
 have Ft := Bt.f;have FM := BM.f;have Fs0 := Bs0.f;go_wp2_with fail;refine zA3 fun W3 hW => ?_;subst hW;clear Ft FM Fs0;have hl : ∀ d os, (Instr.lookup 87 (.map (some b)) (.agg #[.int .i64 T.B.x, .int .i64 T.B.y, .int .i64 T.C.x, .int .i64 T.C.y]) true).run Tryz.prog (grow (redrawn W3 d) os) = .ok (.tuple #[.agg #[.int .i64 0, .int .i64 0, .int .i64 0, .int .i64 0, .int .i64 0, .int .i64 0], .bool false]) (grow (redrawn W3 d) os) := fun d os => ((Hm.ee hw).ext (below_regrown W3 d os) rfl).look_none kvM zAt (okT_w hk).2.1 hg1;clear hg1;have gt := Bt.cells;have gM := BM.cells;have gs0 := Bs0.cells;refine zA5 11 6 20 [.int .i64 0, .int .i64 0, .int .i64 0, .int .i64 0, .int .i64 0, .int .i64 0] (zs := [.int .i64 0, .int .i64 0, .int .i64 0, .int .i64 0, .int .i64 0, .int .i64 0]) (eff := eff6 (.int .i64 0) (.int .i64 0) (.int .i64 0) (.int .i64 0) (.int .i64 0) (.int .i64 0)) zAd rfl rfl rfl rfl rfl rfl rfl (by simp) (fun ρ W => by simp [execOp, go_sem]; rfl) (by kernel_rfl) (by as_aux_lemma => kernel_rfl) (C := fun w' => ∃ p : Regrown, w' = grow (redrawn W3 p.d) p.os) rgB ?_ (fun ρ W b e1 e2 hB => by obtain ⟨x, y, _, _⟩ := hB.f; simp [execOp, go_sem, e1, e2, x, y, eff6]);simp only [tK1, tK0, dP1, dP0];repeat (first | (refine zA0 (Eq.refl false) ?_; simp only [Act.put, sT2, sT1, sT0]) | (refine rWalk_step (fun K hK => ?_); go_simp; first | (refine hK _ ?_; clear hK K) | (apply Exists.intro; refine ⟨fun _ => ?_, hK _ ?_⟩; (first | with_reducible exact toExt (way_1 T) _); clear hK K)))
 refine rWalk_nil ⟨rfl, ?_⟩;intro w4 bks1 hb h1b h2b Bs1;have lts1 := Bt.lt;have lMs1 := BM.lt;have ls0s1 := Bs0.lt;have hw0z := hw.size;clear gt gM gs0;obtain ⟨Bt, BM, Bs0, hw, -⟩ := X3 Bt BM Bs0 hw hb;have fs1 := h1b;have hwz : w.heap.size ≤ W3.heap.size := hw0z;clear hb h1b h2b hw0z;simp only [Act.put];clear hl;have Ft := Bt.f;have FM := BM.f;have Fs0 := Bs0.f;have Fs1 := Bs1.f;go_wp2_with fail;clear Ft FM Fs0 Fs1;try rw [rounds_succ]
 have Ft := Bt.f;have FM := BM.f;have Fs0 := Bs0.f;have Fs1 := Bs1.f;go_wp2_with fail;refine zA3 fun W5 hW => ?_;subst hW;clear Ft FM Fs0 Fs1;have hl : ∀ d os, (Instr.lookup 87 (.map (some b)) (.agg #[.int .i64 T.C.x, .int .i64 T.C.y, .int .i64 T.A.x, .int .i64 T.A.y]) true).run Tryz.prog (grow (redrawn W5 d) os) = .ok (.tuple #[.agg #[.int .i64 S.A.x, .int .i64 S.A.y, .int .i64 S.B.x, .int .i64 S.B.y, .int .i64 S.C.x, .int .i64 S.C.y], .bool true]) (grow (redrawn W5 d) os) := fun d os => ((Hm.ee hw).ext (below_regrown W5 d os) rfl).look_some kvM zAt (okT_w hk).2.2 hg2;clear hg2;have gt := Bt.cells;have gM := BM.cells;have gs0 := Bs0.cells;have gs1 := Bs1.cells;refine zA5 11 6 20 [.int .i64 S.A.x, .int .i64 S.A.y, .int .i64 S.B.x, .int .i64 S.B.y, .int .i64 S.C.x, .int .i64 S.C.y] (zs := [.int .i64 0, .int .i64 0, .int .i64 0, .int .i64 0, .int .i64 0, .int .i64 0]) (eff := eff6 (.int .i64 S.A.x) (.int .i64 S.A.y) (.int .i64 S.B.x) (.int .i64 S.B.y) (.int .i64 S.C.x) (.int .i64 S.C.y)) zAd rfl rfl rfl rfl rfl rfl rfl (by simp) (fun ρ W => by simp [execOp, go_sem]; rfl) (by kernel_rfl) (by as_aux_lemma => kernel_rfl) (C := fun w' => ∃ p : Regrown, w' = grow (redrawn W5 p.d) p.os) rgB ?_ (fun ρ W b e1 e2 hB => by obtain ⟨x, y, _, _⟩ := hB.f; simp [execOp, go_sem, e1, e2, x, y, eff6]);simp only [tK1, tK0, dP1, dP0];repeat (first | (refine zA0 (Eq.refl false) ?_; simp only [Act.put, sT2, sT1, sT0]) | (refine rWalk_step (fun K hK => ?_); go_simp; first | (refine hK _ ?_; clear hK K) | (apply Exists.intro; refine ⟨fun _ => ?_, hK _ ?_⟩; (first | with_reducible exact toExt (way_2 T) _); clear hK K)))
 refine rWalk_nil ⟨rfl, ?_⟩;intro w6 bks2 hb h1b h2b Bs2;have lts2 := Bt.lt;have lMs2 := BM.lt;have ls0s2 := Bs0.lt;have ls1s2 := Bs1.lt;have hw0z := hw.size;clear gt gM gs0 gs1;obtain ⟨Bt, BM, Bs0, Bs1, hw, -⟩ := X4 Bt BM Bs0 Bs1 hw hb;have fs2 := h1b;have hwz : w.heap.size ≤ W5.heap.size := hw0z;clear hb h1b h2b hw0z;simp only [Act.put];clear hl;have Ft := Bt.f;have FM := BM.f;have Fs0 := Bs0.f;have Fs1 := Bs1.f;have Fs2 := Bs2.f;go_wp2
 go_ret
 exact ⟨rfl, hw⟩
theorem fits_3 (mb b : Nat) (E : List ((Pt × Pt) × Tri3)) (T : Tri3) (hg0 : getE E (T.A, T.B) = none) (hg1 : getE E (T.B, T.C) = none) (hg2 : getE E (T.C, T.A) = none) (hk : okT T) (w : World) (Bm : Box w mb [.map (some b)] 89) (Hm : HoldsMap eW eT okW w b E) :
    Calls Tryz.prog 115 #[.pointer (some ⟨mb, 0, none⟩), .agg #[.int .i64 T.A.x, .int .i64 T.A.y, .int .i64 T.B.x, .int .i64 T.B.y, .int .i64 T.C.x, .int .i64 T.C.y]] w fun e w' => e = .returned (.bool (valT T)) ∧ Below w.heap.size w w' := by
 have cv := zBg T;generalize valT T = v at *
 go_enter Tryz.func115, Tryz.ntmps115
 go_wp2_with fail;refine zA3 fun W1 hW => ?_;obtain ⟨Bt, hw⟩ := N1 hW;clear hW;have BM : Box W1 (mb) [.map (some b)] 89 := Bm.ee hw;refine wp_loop_rounds 5 ?_;try rw [rounds_succ]
 have Ft := Bt.f;have FM := BM.f;go_wp2_with fail;have hl : ∀ d os, (Instr.lookup 87 (.map (some b)) (.agg #[.int .i64 T.A.x, .int .i64 T.A.y, .int .i64 T.B.x, .int .i64 T.B.y]) true).run Tryz.prog (grow (redrawn W1 d) os) = .ok (.tuple #[.agg #[.int .i64 0, .int .i64 0, .int .i64 0, .int .i64 0, .int .i64 0, .int .i64 0], .bool false]) (grow (redrawn W1 d) os) := fun d os => ((Hm.ee hw).ext (below_regrown W1 d os) rfl).look_none kvM zAt (okT_w hk).1 hg0;clear hg0;have gt := Bt.cells;have gM := BM.cells;refine zA5 11 6 20 [.int .i64 0, .int .i64 0, .int .i64 0, .int .i64 0, .int .i64 0, .int .i64 0] (zs := [.int .i64 0, .int .i64 0, .int .i64 0, .int .i64 0, .int .i64 0, .int .i64 0]) (eff := eff6 (.int .i64 0) (.int .i64 0) (.int .i64 0) (.int .i64 0) (.int .i64 0) (.int .i64 0)) zAd rfl rfl rfl rfl rfl rfl rfl (by simp) (fun ρ W => by simp [execOp, go_sem]; rfl) (by kernel_rfl) (by as_aux_lemma => kernel_rfl) (C := fun w' => ∃ p : Regrown, w' = grow (redrawn W1 p.d) p.os) rgB ?_ (fun ρ W b e1 e2 hB => by obtain ⟨x, y, _, _⟩ := hB.f; simp [execOp, go_sem, e1, e2, x, y, eff6]);simp only [tK1, tK0, dP1, dP0];repeat (first | (refine zA0 (Eq.refl false) ?_; simp only [Act.put, sT2, sT1, sT0]) | (refine rWalk_step (fun K hK => ?_); go_simp; first | (refine hK _ ?_; clear hK K) | (apply Exists.intro; refine ⟨fun _ => ?_, hK _ ?_⟩; (first | with_reducible exact toExt (way_0 T) _); clear hK K)))
 refine rWalk_nil ⟨rfl, ?_⟩;intro w2 bks0 hb h1b h2b Bs0;have lts0 := Bt.lt;have lMs0 := BM.lt;have hw0z := hw.size;clear gt gM;clear Ft FM;obtain ⟨Bt, BM, hw, -⟩ := X2 Bt BM hw hb;have fs0 := h1b;have hwz : w.heap.size ≤ W1.heap.size := hw0z;clear hb h1b h2b hw0z;simp only [Act.put];clear hl;have Ft := Bt.f;have FM := BM.f;have Fs0 := Bs0.f;go_wp2_with fail;clear Ft FM Fs0;try rw [rounds_succ]
 have Ft := Bt.f;have FM := BM.f;have Fs0 := Bs0.f;go_wp2_with fail;refine zA3 fun W3 hW => ?_;subst hW;clear Ft FM Fs0;have hl : ∀ d os, (Instr.lookup 87 (.map (some b)) (.agg #[.int .i64 T.B.x, .int .i64 T.B.y, .int .i64 T.C.x, .int .i64 T.C.y]) true).run Tryz.prog (grow (redrawn W3 d) os) = .ok (.tuple #[.agg #[.int .i64 0, .int .i64 0, .int .i64 0, .int .i64 0, .int .i64 0, .int .i64 0], .bool false]) (grow (redrawn W3 d) os) := fun d os => ((Hm.ee hw).ext (below_regrown W3 d os) rfl).look_none kvM zAt (okT_w hk).2.1 hg1;clear hg1;have gt := Bt.cells;have gM := BM.cells;have gs0 := Bs0.cells;refine zA5 11 6 20 [.int .i64 0, .int .i64 0, .int .i64 0, .int .i64 0, .int .i64 0, .int .i64 0] (zs := [.int .i64 0, .int .i64 0, .int .i64 0, .int .i64 0, .int .i64 0, .int .i64 0]) (eff := eff6 (.int .i64 0) (.int .i64 0) (.int .i64 0) (.int .i64 0) (.int .i64 0) (.int .i64 0)) zAd rfl rfl rfl rfl rfl rfl rfl (by simp) (fun ρ W => by simp [execOp, go_sem]; rfl) (by kernel_rfl) (by as_aux_lemma => kernel_rfl) (C := fun w' => ∃ p : Regrown, w' = grow (redrawn W3 p.d) p.os) rgB ?_ (fun ρ W b e1 e2 hB => by obtain ⟨x, y, _, _⟩ := hB.f; simp [execOp, go_sem, e1, e2, x, y, eff6]);simp only [tK1, tK0, dP1, dP0];repeat (first | (refine zA0 (Eq.refl false) ?_; simp only [Act.put, sT2, sT1, sT0]) | (refine rWalk_step (fun K hK => ?_); go_simp; first | (refine hK _ ?_; clear hK K) | (apply Exists.intro; refine ⟨fun _ => ?_, hK _ ?_⟩; (first | with_reducible exact toExt (way_1 T) _); clear hK K)))
 refine rWalk_nil ⟨rfl, ?_⟩;intro w4 bks1 hb h1b h2b Bs1;have lts1 := Bt.lt;have lMs1 := BM.lt;have ls0s1 := Bs0.lt;have hw0z := hw.size;clear gt gM gs0;obtain ⟨Bt, BM, Bs0, hw, -⟩ := X3 Bt BM Bs0 hw hb;have fs1 := h1b;have hwz : w.heap.size ≤ W3.heap.size := hw0z;clear hb h1b h2b hw0z;simp only [Act.put];clear hl;have Ft := Bt.f;have FM := BM.f;have Fs0 := Bs0.f;have Fs1 := Bs1.f;go_wp2_with fail;clear Ft FM Fs0 Fs1;try rw [rounds_succ]
 have Ft := Bt.f;have FM := BM.f;have Fs0 := Bs0.f;have Fs1 := Bs1.f;go_wp2_with fail;refine zA3 fun W5 hW => ?_;subst hW;clear Ft FM Fs0 Fs1;have hl : ∀ d os, (Instr.lookup 87 (.map (some b)) (.agg #[.int .i64 T.C.x, .int .i64 T.C.y, .int .i64 T.A.x, .int .i64 T.A.y]) true).run Tryz.prog (grow (redrawn W5 d) os) = .ok (.tuple #[.agg #[.int .i64 0, .int .i64 0, .int .i64 0, .int .i64 0, .int .i64 0, .int .i64 0], .bool false]) (grow (redrawn W5 d) os) := fun d os => ((Hm.ee hw).ext (below_regrown W5 d os) rfl).look_none kvM zAt (okT_w hk).2.2 hg2;clear hg2;have gt := Bt.cells;have gM := BM.cells;have gs0 := Bs0.cells;have gs1 := Bs1.cells;refine zA5 11 6 20 [.int .i64 0, .int .i64 0, .int .i64 0, .int .i64 0, .int .i64 0, .int .i64 0] (zs := [.int .i64 0, .int .i64 0, .int .i64 0, .int .i64 0, .int .i64 0, .int .i64 0]) (eff := eff6 (.int .i64 0) (.int .i64 0) (.int .i64 0) (.int .i64 0) (.int .i64 0) (.int .i64 0)) zAd rfl rfl rfl rfl rfl rfl rfl (by simp) (fun ρ W => by simp [execOp, go_sem]; rfl) (by kernel_rfl) (by as_aux_lemma => kernel_rfl) (C := fun w' => ∃ p : Regrown, w' = grow (redrawn W5 p.d) p.os) rgB ?_ (fun ρ W b e1 e2 hB => by obtain ⟨x, y, _, _⟩ := hB.f; simp [execOp, go_sem, e1, e2, x, y, eff6]);simp only [tK1, tK0, dP1, dP0];repeat (first | (refine zA0 (Eq.refl false) ?_; simp only [Act.put, sT2, sT1, sT0]) | (refine rWalk_step (fun K hK => ?_); go_simp; first | (refine hK _ ?_; clear hK K) | (apply Exists.intro; refine ⟨fun _ => ?_, hK _ ?_⟩; (first | with_reducible exact toExt (way_2 T) _); clear hK K)))
 refine rWalk_nil ⟨rfl, ?_⟩;intro w6 bks2 hb h1b h2b Bs2;have lts2 := Bt.lt;have lMs2 := BM.lt;have ls0s2 := Bs0.lt;have ls1s2 := Bs1.lt;have hw0z := hw.size;clear gt gM gs0 gs1;obtain ⟨Bt, BM, Bs0, Bs1, hw, -⟩ := X4 Bt BM Bs0 Bs1 hw hb;have fs2 := h1b;have hwz : w.heap.size ≤ W5.heap.size := hw0z;clear hb h1b h2b hw0z;simp only [Act.put];clear hl;have Ft := Bt.f;have FM := BM.f;have Fs0 := Bs0.f;have Fs1 := Bs1.f;have Fs2 := Bs2.f;go_wp2_with fail;clear Ft FM Fs0 Fs1 Fs2;try rw [rounds_succ]
 have Ft := Bt.f;have FM := BM.f;have Fs0 := Bs0.f;have Fs1 := Bs1.f;have Fs2 := Bs2.f;go_wp2_with fail;refine (cv _).mono ?_;rintro e w9 ⟨rfl, hb⟩;replace hw := upB hw hb;clear Ft FM Fs0 Fs1 Fs2;clear hb;go_wp2
 go_ret
 exact ⟨rfl, hw⟩
theorem fits_any (mb b : Nat) (E : List ((Pt × Pt) × Tri3)) (T : Tri3) (hk : okT T) (w : World) (Bm : Box w mb [.map (some b)] 89) (Hm : HoldsMap eW eT okW w b E) :
    Calls Tryz.prog 115 #[.pointer (some ⟨mb, 0, none⟩), .agg #[.int .i64 T.A.x, .int .i64 T.A.y, .int .i64 T.B.x, .int .i64 T.B.y, .int .i64 T.C.x, .int .i64 T.C.y]] w fun e w' => e = .returned (.bool (Option.isNone (getE E (T.A, T.B)) && (Option.isNone (getE E (T.B, T.C)) && (Option.isNone (getE E (T.C, T.A)) && valT T)))) ∧ Below w.heap.size w w' := by
 cases h0 : getE E (T.A, T.B) with
 | some S => exact fits_0 mb b E T S h0 hk w Bm Hm
 | none =>
  cases h1 : getE E (T.B, T.C) with
  | some S => exact fits_1 mb b E T S h0 h1 hk w Bm Hm
  | none =>
   cases h2 : getE E (T.C, T.A) with
   | some S => exact fits_2 mb b E T S h0 h1 h2 hk w Bm Hm
   | none => exact fits_3 mb b E T h0 h1 h2 hk w Bm Hm
theorem zIp (mb b : Nat) (E : List ((Pt × Pt) × Tri3)) (T : Tri3) (hk : okT T) (w : World) (Bm : Box w mb [.map (some b)] 89) (Hm : HoldsMap eW eT okW w b E) :
    Calls Tryz.prog 115 #[.pointer (some ⟨mb, 0, none⟩), .agg #[.int .i64 T.A.x, .int .i64 T.A.y, .int .i64 T.B.x, .int .i64 T.B.y, .int .i64 T.C.x, .int .i64 T.C.y]] w fun e w' => e = .returned (.bool (fitsE E T)) ∧ Below w.heap.size w w' := fits_any mb b E T hk w Bm Hm
end Go.Proofs.YtmobnmjjmafibaaGreat
namespace Go.Proofs.YtmobnmjjmafibaaGreat
open Go.RowKit Go.Sort
theorem zA8 {w w' : World} (h : Below w.heap.size w w') (row : Option Nat) : w.grownBy w' row := ⟨h.os, h.tape, h.output, h.size, fun i hi _ => h.block i hi⟩
theorem zFu {B : Nat} {w w' w2 : World} {b : Nat} (h : Below B w w') (hg : w'.grownBy w2 (some b)) (hB : B ≤ w'.heap.size) (hb : B ≤ b) : Below B w w2 :=
 ⟨hg.os.trans h.os, hg.tape.trans h.tape, hg.output.trans h.output, Nat.le_trans h.size hg.size, fun i hi => (hg.block i (by omega) (fun e => by cases e; omega)).trans (h.block i hi)⟩
theorem zAh {a b c : World} {r : Nat} (h : a.grownBy b (some r)) (k : b.grownBy c (some r)) : a.grownBy c (some r) := h.andThen k (fun _ hj => .inr hj)
theorem zAc {a b c : World} {r : Nat} (h : a.grownBy b (some r)) (k : Below b.heap.size b c) : a.grownBy c (some r) := zAh h (zA8 k _)
theorem zEv (w : World) (row : Option Nat) : w.grownBy w row := ⟨rfl, rfl, rfl, Nat.le_refl _, fun _ _ _ => rfl⟩
theorem Box.ne_map {w : World} {x b : Nat} {cs : List Value} {T : TypeId} {E : List ((Pt × Pt) × Tri3)} (h : Box w x cs T) (H : HoldsMap eW eT okW w b E) : x ≠ b := by
 obtain ⟨es, clock, hb, _⟩ := H;intro e;unfold Box at h;rw [e, hb] at h;cases h
theorem Box.turn {w w' : World} {x b : Nat} {cs : List Value} {T : TypeId} {E : List ((Pt × Pt) × Tri3)} (h : Box w x cs T) (H : HoldsMap eW eT okW w b E) (hg : w.grownBy w' (some b)) : Box w' x cs T := by
 have hne := h.ne_map H;have hl := h.lt;unfold Box at *;rw [hg.block x hl (by simpa using hne)]; exact h
theorem RowAt.turn {α : Type} {c : α → List Value} {k : Nat} {w w' : World} {a : Option Addr} {L : List α} {b : Nat} {E : List ((Pt × Pt) × Tri3)} (h : RowAt c k w a L) (hc : ∀ x, c x ≠ []) (H : HoldsMap eW eT okW w b E) (hg : w.grownBy w' (some b)) : RowAt c k w' a L := fun j x hx => by
 obtain ⟨ad, h1, h2, h3⟩ := h j x hx;have hne : ad.block ≠ b := by
  obtain ⟨es, clock, hb, _⟩ := H;cases hcx : c x with
  | nil => exact absurd hcx (hc x)
  | cons v l =>
   have h4 := h3 0 v (by rw [hcx]; rfl);intro e;unfold World.cell? at h4;rw [zAk, zAk, e, hb] at h4;cases h4
 refine ⟨ad, h1, Nat.lt_of_lt_of_le h2 hg.size, fun i u hu => ?_⟩;exact hg.cell (h3 i u hu) (by rw [zAk, zAk]; simpa using hne)
theorem cT_ne (x : Tri3) : cT x ≠ [] := by simp [cT]
theorem cP_ne (x : Pt) : cP x ≠ [] := by simp [cP]
abbrev Es := List ((Pt × Pt) × Tri3)
def putT (E : Es) (T : Tri3) : Es := putE (putE (putE E (T.A, T.B) T) (T.B, T.C) T) (T.C, T.A) T
def takeT (E : Es) (T : Tri3) : Es := delE (delE (delE E (T.A, T.B)) (T.B, T.C)) (T.C, T.A)
def putRun (E : Es) : List Tri3 → Nat × Es
 | [] => (0, E)
 | T :: l => if fitsE E T = true then ((putRun (putT E T) l).1 + 1, (putRun (putT E T) l).2) else (0, E)
def takeRun (E : Es) : List Tri3 → Nat × Es
 | [] => (0, E)
 | T :: l => if hasE E T = true then ((takeRun (takeT E T) l).1 + 1, (takeRun (takeT E T) l).2) else (0, E)
theorem zFi {E F : Es} {L : List Tri3} {k : Nat} (hk : k < L.length) (h : putRun E L = (k + (putRun F (L.drop k)).1, (putRun F (L.drop k)).2)) (hf : fitsE F L[k] = true) :
    putRun E L = (k + 1 + (putRun (putT F L[k]) (L.drop (k + 1))).1, (putRun (putT F L[k]) (L.drop (k + 1))).2) := by
 rw [h, List.drop_eq_getElem_cons hk, putRun, if_pos hf];simp only [Prod.mk.injEq, and_true];omega
theorem zFh {E F : Es} {L : List Tri3} {k : Nat} (hk : k < L.length) (h : putRun E L = (k + (putRun F (L.drop k)).1, (putRun F (L.drop k)).2)) (hf : fitsE F L[k] = false) : putRun E L = (k, F) := by
 rw [h, List.drop_eq_getElem_cons hk, putRun, if_neg (by rw [hf]; decide)]; rfl
theorem zGx {E F : Es} {L : List Tri3} {k : Nat} (hk : L.length ≤ k) (h : putRun E L = (k + (putRun F (L.drop k)).1, (putRun F (L.drop k)).2)) : putRun E L = (k, F) := by
 rw [h, List.drop_eq_nil_of_le hk]; rfl
attribute [local go_sem] rOper rAt rUpon cell_set sg_i64 sg_u64 alloc_cell alloc_frozen
attribute [local go_sem 10000] pt_eql pt_neq tri_eql
attribute [local irreducible] rWalk
theorem map_nil (b : Nat) (w : World) : (binOp .eql 87 (.map (some b)) (.map none)).run Tryz.prog w = .ok (.bool false) w := by
 simp only [binOp];simp [run_equal_map_nil w 87 _ _ (some b) Tryz.underlying87]
theorem rmap_nil (b : Nat) (w : World) : (binOp .eql 39 (.map (some b)) (.map none)).run Tryz.prog w = .ok (.bool false) w := by
 simp only [binOp];simp [run_equal_map_nil w 39 _ _ (some b) Tryz.underlying39]
attribute [local go_sem] map_nil rmap_nil
theorem mput_any (mb b : Nat) (E : Es) (a : Option Addr) (cap n : Nat) (L : List Tri3) (hn : Hid (L.length = n)) (hn1 : n ≤ 1000000) (hok : ∀ T ∈ L, okT T) (w : World) (Bm : Box w mb [.map (some b)] 89) (Hm : HoldsMap eW eT okW w b E) (Hr : RowAt cT 6 w a L) :
    Calls Tryz.prog 73 #[.pointer (some ⟨mb, 0, none⟩), .slice a n cap] w fun e w' => e = .returned (.int .i64 (putRun E L).1) ∧ w.grownBy w' (some b) ∧ HoldsMap eW eT okW w' b (putRun E L).2 := by
 have hmb := Bm.ne_map Hm;have Fm := Bm.f
 go_enter Tryz.func73, Tryz.ntmps73
 go_wp2;clear Fm
 go_loopw [19] (fun i wr => ∃ (k : Nat) (F : Es), k ≤ n ∧ i = .int .i64 k ∧ Hid (putRun E L = (k + (putRun F (L.drop k)).1, (putRun F (L.drop k)).2)) ∧ HoldsMap eW eT okW wr b F ∧ w.grownBy wr (some b)) (fun i _ => n - (intOf i).toNat)
 case atStart => exact ⟨0, E, Nat.zero_le _, rfl, Lib.hid (by simp), Hm, zEv _ _⟩
 case round =>
  obtain ⟨k, F, hk, rfl, hR, HF, hg⟩ := hrel;have BM := Bm.turn Hm hg;by_cases hlt : k < n
  ·have hlk : k < L.length := hn.out ▸ hlt;have hokk := hok L[k] (List.getElem_mem hlk);have hst := fun hf => zFi hlk hR.out hf;have hsp := fun hf => zFh hlk hR.out hf;obtain ⟨ad, A, ea, eA, zA, _, q0, q1, q2, q3, q4, q5⟩ := (Hr.turn cT_ne Hm hg).tri hlk;generalize L[k] = T at *
   cases hf : fitsE F T with
   | false =>
    have HP := Lib.hid (hsp hf);clear hst hsp;have cf := zIp mb b F T hokk;rw [hf] at cf;clear hf;have FM := BM.f;go_wp2_with fail;refine zA1 fun W1 hW => ?_;have Bt : Box W1 wr.heap.size [.int .i64 T.A.x, .int .i64 T.A.y, .int .i64 T.B.x, .int .i64 T.B.y, .int .i64 T.C.x, .int .i64 T.C.y] 38 := by rw [hW]; exact Box.new rfl
    have hw : Below wr.heap.size wr W1 := by rw [hW]; go_grown
    clear hW;clear FM;replace BM := BM.ee hw;clear q0 q1 q2 q3 q4 q5 ea eA zA;refine (cf _ BM (HF.ee hw)).mono ?_;rintro e w2 ⟨rfl, hb⟩;obtain ⟨BM, Bt, hw, -⟩ := X2 BM Bt hw hb;clear hb;have FM := BM.f;have Ft := Bt.f;go_wp2
    go_ret
    exact ⟨zAq (by rw [HP.out]), zAc hg hw, by rw [HP.out]; exact HF.ee hw⟩
   | true =>
    have HP := Lib.hid (hst hf);clear hst hsp;have cf := zIp mb b F T hokk;rw [hf] at cf;clear hf;have FM := BM.f;go_wp2_with fail;refine zA1 fun W1 hW => ?_;have Bt : Box W1 wr.heap.size [.int .i64 T.A.x, .int .i64 T.A.y, .int .i64 T.B.x, .int .i64 T.B.y, .int .i64 T.C.x, .int .i64 T.C.y] 38 := by rw [hW]; exact Box.new rfl
    have hw : Below wr.heap.size wr W1 := by rw [hW]; go_grown
    clear hW;clear FM;replace BM := BM.ee hw;clear q0 q1 q2 q3 q4 q5 ea eA zA;refine (cf _ BM (HF.ee hw)).mono ?_;rintro e w2 ⟨rfl, hb⟩;obtain ⟨BM, Bt, hw, -⟩ := X2 BM Bt hw hb;clear hb;have FM := BM.f;have Ft := Bt.f;go_wp2_with fail;clear FM Ft;refine wp_loop_rounds 5 ?_;try rw [rounds_succ]
    have FM := BM.f;have Ft := Bt.f;go_wp2_with fail;replace HF := HF.ee hw;replace hg := zAc hg hw;have hw : Below w2.heap.size w2 w2 := Below.refl _ _;have g_Mt := J2 BM.cells Bt.cells;refine wrt 8 (by kernel_rfl) (by kernel_rfl) ?_;simp only [tK1, tK0, dP1, dP0];repeat (first | (refine zA0 (Eq.refl false) ?_; simp only [Act.put, sT2, sT1, sT0]) | (refine rWalk_step (fun K hK => ?_); go_simp; first | (refine hK _ ?_; clear hK K) | (apply Exists.intro; refine ⟨fun _ => ?_, hK _ ?_⟩; (first | with_reducible exact toExt (way_0 T) _); clear hK K)))
    refine rWalk_nil ?_;intro w3 hb;clear g_Mt;clear FM Ft;obtain ⟨BM, Bt, hw, -⟩ := X2 BM Bt hw hb;replace HF := HF.ee hw;replace hg := zAc hg hw;clear hw;refine zBl _ rfl _ _ _ rfl kvM rfl HF (T.A, T.B) T rfl rfl (okT_w hokk).1 ?_;intro c0 HG hh hs;replace BM := BM.turn HF hh;replace Bt := Bt.turn HF hh;replace hg := zAh hg hh;clear HF hh hs;have HF := HG;clear HG;have FM := BM.f;have Ft := Bt.f;go_wp2_with fail;clear FM Ft;try rw [rounds_succ]
    have FM := BM.f;have Ft := Bt.f;go_wp2_with fail;have hw : Below c0.heap.size c0 c0 := Below.refl _ _;have g_Mt := J2 BM.cells Bt.cells;refine wrt 8 (by kernel_rfl) (by kernel_rfl) ?_;simp only [tK1, tK0, dP1, dP0];repeat (first | (refine zA0 (Eq.refl false) ?_; simp only [Act.put, sT2, sT1, sT0]) | (refine rWalk_step (fun K hK => ?_); go_simp; first | (refine hK _ ?_; clear hK K) | (apply Exists.intro; refine ⟨fun _ => ?_, hK _ ?_⟩; (first | with_reducible exact toExt (way_1 T) _); clear hK K)))
    refine rWalk_nil ?_;intro w4 hb;clear g_Mt;clear FM Ft;obtain ⟨BM, Bt, hw, -⟩ := X2 BM Bt hw hb;replace HF := HF.ee hw;replace hg := zAc hg hw;clear hw;refine zBl _ rfl _ _ _ rfl kvM rfl HF (T.B, T.C) T rfl rfl (okT_w hokk).2.1 ?_;intro c1 HG hh hs;replace BM := BM.turn HF hh;replace Bt := Bt.turn HF hh;replace hg := zAh hg hh;clear HF hh hs;have HF := HG;clear HG;have FM := BM.f;have Ft := Bt.f;go_wp2_with fail;clear FM Ft;try rw [rounds_succ]
    have FM := BM.f;have Ft := Bt.f;go_wp2_with fail;have hw : Below c1.heap.size c1 c1 := Below.refl _ _;have g_Mt := J2 BM.cells Bt.cells;refine wrt 8 (by kernel_rfl) (by kernel_rfl) ?_;simp only [tK1, tK0, dP1, dP0];repeat (first | (refine zA0 (Eq.refl false) ?_; simp only [Act.put, sT2, sT1, sT0]) | (refine rWalk_step (fun K hK => ?_); go_simp; first | (refine hK _ ?_; clear hK K) | (apply Exists.intro; refine ⟨fun _ => ?_, hK _ ?_⟩; (first | with_reducible exact toExt (way_2 T) _); clear hK K)))
    refine rWalk_nil ?_;intro w5 hb;clear g_Mt;clear FM Ft;obtain ⟨BM, Bt, hw, -⟩ := X2 BM Bt hw hb;replace HF := HF.ee hw;replace hg := zAc hg hw;clear hw;refine zBl _ rfl _ _ _ rfl kvM rfl HF (T.C, T.A) T rfl rfl (okT_w hokk).2.2 ?_;intro c2 HG hh hs;replace BM := BM.turn HF hh;replace Bt := Bt.turn HF hh;replace hg := zAh hg hh;clear HF hh hs;have HF := HG;clear HG;have FM := BM.f;have Ft := Bt.f;go_wp2_with fail;clear FM Ft;try rw [rounds_succ]
    have FM := BM.f;have Ft := Bt.f;go_wp2
    go_roundw
    case rel => exact ⟨k + 1, putT F T, by omega, by go_num, HP, HF, hg⟩
    case measure => simp [intOf]; omega
  ·have HP := Lib.hid (zGx (by rw [hn.out]; omega) hR.out);have Fm := BM.f;go_wp2
   go_ret
   exact ⟨zAq (by rw [HP.out]; omega), hg, by rw [HP.out]; exact HF⟩
end Go.Proofs.YtmobnmjjmafibaaGreat
