/- Put together: ExI, ExJ, ExN. -/
import Derived.Test.YtjkfakaehjmnbaaGreatRows
import Derived.Test.YtjkfakaehjmnbaaGreatPmf2
import Derived.Test.YtjkfakaehjmnbaaGreatPmf1
import Derived.WalkKit
import Derived.WalkSpells
import Derived.WalkLawsBesides
import Derived.Laws.Externs
import Derived.Deep.QuietTactic
import Derived.BigQuiet
import Derived.Lib.Hide
import Derived.Handy
set_option maxRecDepth 100000
set_option maxHeartbeats 8000000
namespace Go.Proofs.YtjkfakaehjmnbaaGreat
open Go.RowKit Go.Sort
attribute [local go_sem] rOper rAt rUpon cell_set sg_i64 sg_u64 alloc_cell alloc_frozen
attribute [local go_sem 10000] pt_eql pt_neq
attribute [local irreducible] rWalk
theorem zHy (a b c d : Pt) (w : World) :
    Calls Tryz.prog 55 #[.agg #[.int .i64 a.x, .int .i64 a.y], .agg #[.int .i64 b.x, .int .i64 b.y], .agg #[.int .i64 c.x, .int .i64 c.y], .agg #[.int .i64 d.x, .int .i64 d.y]] w fun e w' => e = .returned (.int .i64 (meetS a b c d)) ∧ Below w.heap.size w w' := by
 cases ha : vld a with
 | false => rw [show meetS a b c d = 0 by unfold meetS; rw [if_pos ha]]; exact meet_v0 a b c d ha w
 | true =>
 have n_ha : ¬ vld a = false := by rw [ha]; simp
 cases hb : vld b with
 | false => rw [show meetS a b c d = 0 by unfold meetS; rw [if_neg n_ha, if_pos hb]]; exact meet_v1 a b c d ha hb w
 | true =>
 have n_hb : ¬ vld b = false := by rw [hb]; simp
 cases hc : vld c with
 | false => rw [show meetS a b c d = 0 by unfold meetS; rw [if_neg n_ha, if_neg n_hb, if_pos hc]]; exact meet_v2 a b c d ha hb hc w
 | true =>
 have n_hc : ¬ vld c = false := by rw [hc]; simp
 cases hd : vld d with
 | false => rw [show meetS a b c d = 0 by unfold meetS; rw [if_neg n_ha, if_neg n_hb, if_neg n_hc, if_pos hd]]; exact meet_v3 a b c d ha hb hc hd w
 | true =>
 have n_hd : ¬ vld d = false := by rw [hd]; simp
 cases e1 : peqI a.x a.y b.x b.y with
 | true => rw [show meetS a b c d = 0 by unfold meetS; rw [if_neg n_ha, if_neg n_hb, if_neg n_hc, if_neg n_hd, if_pos e1]]; exact meet_e1 a b c d ha hb hc hd e1 w
 | false =>
 have n_e1 : ¬ peqI a.x a.y b.x b.y = true := by rw [e1]; simp
 cases e2 : peqI c.x c.y d.x d.y with
 | true => rw [show meetS a b c d = 0 by unfold meetS; rw [if_neg n_ha, if_neg n_hb, if_neg n_hc, if_neg n_hd, if_neg n_e1, if_pos e2]]; exact meet_e2 a b c d ha hb hc hd e1 e2 w
 | false =>
 have n_e2 : ¬ peqI c.x c.y d.x d.y = true := by rw [e2]; simp
 by_cases z1 : ori a b c = 0
 ·by_cases z2 : ori a b d = 0
  ·rw [show meetS a b c d = mil a b c d by unfold meetS; rw [if_neg n_ha, if_neg n_hb, if_neg n_hc, if_neg n_hd, if_neg n_e1, if_neg n_e2, if_pos ⟨z1, z2⟩]]; exact meet_l a b c d ha hb hc hd e1 e2 z1 z2 w
  ·have nz : ¬ (ori a b c = 0 ∧ ori a b d = 0) := fun h => z2 h.2;cases q1 : peqI a.x a.y c.x c.y with
   | true => rw [show meetS a b c d = 0 by unfold meetS; rw [if_neg n_ha, if_neg n_hb, if_neg n_hc, if_neg n_hd, if_neg n_e1, if_neg n_e2, if_neg nz, if_pos q1]]; exact meet_z0 a b c d ha hb hc hd e1 e2 z1 z2 q1 w
   | false =>
   have k1 : ¬ peqI a.x a.y c.x c.y = true := by rw [q1]; simp
   cases q2 : peqI a.x a.y d.x d.y with
   | true => rw [show meetS a b c d = 0 by unfold meetS; rw [if_neg n_ha, if_neg n_hb, if_neg n_hc, if_neg n_hd, if_neg n_e1, if_neg n_e2, if_neg nz, if_neg k1, if_pos q2]]; exact meet_z1 a b c d ha hb hc hd e1 e2 z1 z2 q1 q2 w
   | false =>
   have k2 : ¬ peqI a.x a.y d.x d.y = true := by rw [q2]; simp
   cases q3 : peqI b.x b.y c.x c.y with
   | true => rw [show meetS a b c d = 0 by unfold meetS; rw [if_neg n_ha, if_neg n_hb, if_neg n_hc, if_neg n_hd, if_neg n_e1, if_neg n_e2, if_neg nz, if_neg k1, if_neg k2, if_pos q3]]; exact meet_z2 a b c d ha hb hc hd e1 e2 z1 z2 q1 q2 q3 w
   | false =>
   have k3 : ¬ peqI b.x b.y c.x c.y = true := by rw [q3]; simp
   cases q4 : peqI b.x b.y d.x d.y with
   | true => rw [show meetS a b c d = 0 by unfold meetS; rw [if_neg n_ha, if_neg n_hb, if_neg n_hc, if_neg n_hd, if_neg n_e1, if_neg n_e2, if_neg nz, if_neg k1, if_neg k2, if_neg k3, if_pos q4]]; exact meet_z3 a b c d ha hb hc hd e1 e2 z1 z2 q1 q2 q3 q4 w
   | false =>
   have k4 : ¬ peqI b.x b.y d.x d.y = true := by rw [q4]; simp
   rw [show meetS a b c d = fin (ori c d a) (ori c d b) (ori a b c) (ori a b d) by unfold meetS; rw [if_neg n_ha, if_neg n_hb, if_neg n_hc, if_neg n_hd, if_neg n_e1, if_neg n_e2, if_neg nz, if_neg k1, if_neg k2, if_neg k3, if_neg k4]];rw [z1];exact meet_z4 a b c d ha hb hc hd e1 e2 z1 z2 q1 q2 q3 q4 w
 ·have nz : ¬ (ori a b c = 0 ∧ ori a b d = 0) := fun h => z1 h.1;cases q1 : peqI a.x a.y c.x c.y with
  | true => rw [show meetS a b c d = 0 by unfold meetS; rw [if_neg n_ha, if_neg n_hb, if_neg n_hc, if_neg n_hd, if_neg n_e1, if_neg n_e2, if_neg nz, if_pos q1]]; exact meet_n0 a b c d ha hb hc hd e1 e2 z1 q1 w
  | false =>
  have k1 : ¬ peqI a.x a.y c.x c.y = true := by rw [q1]; simp
  cases q2 : peqI a.x a.y d.x d.y with
  | true => rw [show meetS a b c d = 0 by unfold meetS; rw [if_neg n_ha, if_neg n_hb, if_neg n_hc, if_neg n_hd, if_neg n_e1, if_neg n_e2, if_neg nz, if_neg k1, if_pos q2]]; exact meet_n1 a b c d ha hb hc hd e1 e2 z1 q1 q2 w
  | false =>
  have k2 : ¬ peqI a.x a.y d.x d.y = true := by rw [q2]; simp
  cases q3 : peqI b.x b.y c.x c.y with
  | true => rw [show meetS a b c d = 0 by unfold meetS; rw [if_neg n_ha, if_neg n_hb, if_neg n_hc, if_neg n_hd, if_neg n_e1, if_neg n_e2, if_neg nz, if_neg k1, if_neg k2, if_pos q3]]; exact meet_n2 a b c d ha hb hc hd e1 e2 z1 q1 q2 q3 w
  | false =>
  have k3 : ¬ peqI b.x b.y c.x c.y = true := by rw [q3]; simp
  cases q4 : peqI b.x b.y d.x d.y with
  | true => rw [show meetS a b c d = 0 by unfold meetS; rw [if_neg n_ha, if_neg n_hb, if_neg n_hc, if_neg n_hd, if_neg n_e1, if_neg n_e2, if_neg nz, if_neg k1, if_neg k2, if_neg k3, if_pos q4]]; exact meet_n3 a b c d ha hb hc hd e1 e2 z1 q1 q2 q3 q4 w
  | false =>
  have k4 : ¬ peqI b.x b.y d.x d.y = true := by rw [q4]; simp
  rw [show meetS a b c d = fin (ori c d a) (ori c d b) (ori a b c) (ori a b d) by unfold meetS; rw [if_neg n_ha, if_neg n_hb, if_neg n_hc, if_neg n_hd, if_neg n_e1, if_neg n_e2, if_neg nz, if_neg k1, if_neg k2, if_neg k3, if_neg k4]];exact meet_n4 a b c d ha hb hc hd e1 e2 z1 q1 q2 q3 q4 w
theorem zA6 (p : Pt) (w : World) :
    Calls Tryz.prog 83 #[.agg #[.int .i64 p.x, .int .i64 p.y]] w fun e w' => e = .returned (.bool (vld p)) ∧ Below w.heap.size w w' := by
 have Hv := Lib.hid (show vld p = (inG p.x && inG p.y) from rfl)
 go_enter Tryz.func83, Tryz.ntmps83
 go_wp2;all_goals go_ret
 all_goals exact ⟨zCr (by rw [Hv.out, Bool.eq_iff_iff]; simp [inG]; omega), by go_grown⟩
theorem zAd (p q : Pt) (w : World) :
    Calls Tryz.prog 75 #[.agg #[.int .i64 p.x, .int .i64 p.y], .agg #[.int .i64 q.x, .int .i64 q.y]] w fun e w' => e = .returned (.int .i64 (cmpP p q)) ∧ Below w.heap.size w w' := by
 have H : Hid (∀ n : Int, (n = -1 ∧ (p.x < q.x ∨ p.x = q.x ∧ p.y < q.y) ∨ n = 0 ∧ p.x = q.x ∧ p.y = q.y ∨ n = 1 ∧ (q.x < p.x ∨ p.x = q.x ∧ q.y < p.y)) → n = cmpP p q) := Lib.hid (fun n h => by
  unfold cmpP cmpN sgn
  (repeat' split) <;> omega)
 rcases Int.lt_trichotomy p.x q.x with h | h | h
 ·go_enter Tryz.func75, Tryz.ntmps75
  go_wp2
  go_ret
  exact ⟨zAu (H.out _ (by omega)), by go_grown⟩
 ·rcases Int.lt_trichotomy p.y q.y with k | k | k
  all_goals have e1 : (p.x == q.x) = true := by simpa using h
  all_goals have e2 : decide (p.x < q.x) = false := by simp; omega
  ·have e3 : decide (p.y < q.y) = true := by simpa using k
   go_enter Tryz.func75, Tryz.ntmps75
   have h' := Lib.hid h; clear h;go_wp2
   go_ret
   exact ⟨zAu (H.out _ (by have := h'.out; omega)), by go_grown⟩
  ·have e3 : decide (p.y < q.y) = false := by simp; omega
   have e4 : peqI p.x p.y q.x q.y = true := by rw [zBx]; exact ⟨h, k⟩
   have h' := Lib.hid h; clear h;have k' := Lib.hid k; clear k
   go_enter Tryz.func75, Tryz.ntmps75
   go_wp2
   go_ret
   exact ⟨zAu (H.out _ (by have := h'.out; have := k'.out; omega)), by go_grown⟩
  ·have e3 : decide (p.y < q.y) = false := by simp; omega
   have e4 : peqI p.x p.y q.x q.y = false := by rw [← Bool.not_eq_true, zBx]; omega
   have h' := Lib.hid h; clear h
   go_enter Tryz.func75, Tryz.ntmps75
   go_wp2
   go_ret
   exact ⟨zAu (H.out _ (by have := h'.out; omega)), by go_grown⟩
 ·have e1 : (p.x == q.x) = false := by simp; omega
  have e2 : decide (p.x < q.x) = false := by simp; omega
  have e4 : peqI p.x p.y q.x q.y = false := by rw [← Bool.not_eq_true, zBx]; omega
  go_enter Tryz.func75, Tryz.ntmps75
  go_wp2
  go_ret
  exact ⟨zAu (H.out _ (by omega)), by go_grown⟩
theorem zI5 (n : Int) (w : World) :
    Calls Tryz.prog 89 #[.int .i64 n] w fun e w' => e = .returned (.int .i64 (sgn n)) ∧ w = w' := by
 go_enter Tryz.func89, Tryz.ntmps89
 go_wp2;all_goals go_ret
 all_goals exact ⟨zAu (by unfold sgn; (repeat' split) <;> omega), rfl⟩
theorem zDp (a b c : Pt) (ha : vld a = true) (hb : vld b = true) (hc : vld c = true) (w : World) :
    Calls Tryz.prog 108 #[.agg #[.int .i64 a.x, .int .i64 a.y], .agg #[.int .i64 b.x, .int .i64 b.y], .agg #[.int .i64 c.x, .int .i64 c.y]] w fun e w' => e = .returned (.int .i64 (det a b c)) ∧ Below w.heap.size w w' := by
 have s1 := zEp ha hb;have s2 := zEp ha hc;have h1 := zBi s1.1 s2.2;have h2 := zBi s1.2 s2.1;have e : wrap64 (wrap64 (wrap64 (b.x - a.x) * wrap64 (c.y - a.y)) - wrap64 (wrap64 (b.y - a.y) * wrap64 (c.x - a.x))) = det a b c := by
  rw [zAx] at ha hb hc;rw [show wrap64 (b.x - a.x) = (way a b).x by rw [w64]; unfold way; simp only; omega, show wrap64 (c.y - a.y) = (way a c).y by rw [w64]; unfold way; simp only; omega, show wrap64 (b.y - a.y) = (way a b).y by rw [w64]; unfold way; simp only; omega, show wrap64 (c.x - a.x) = (way a c).x by rw [w64]; unfold way; simp only; omega];show _ = (way a b).x * (way a c).y - (way a b).y * (way a c).x;generalize (way a b).x * (way a c).y = p at *
  generalize (way a b).y * (way a c).x = q at *
  simp only [w64]; omega
 have E := Lib.hid e; clear e h1 h2 s1 s2 ha hb hc
 go_enter Tryz.func108, Tryz.ntmps108
 go_wp2
 go_ret
 exact ⟨zAu (by simpa using E.out), by go_grown⟩
theorem rorient_0 (a b c : Pt) (ha : vld a = false) (w : World) :
    Calls Tryz.prog 59 #[.agg #[.int .i64 a.x, .int .i64 a.y], .agg #[.int .i64 b.x, .int .i64 b.y], .agg #[.int .i64 c.x, .int .i64 c.y]] w fun e w' => e = .returned (.int .i64 0) ∧ Below w.heap.size w w' := by
 have ca := zA6 a;rw [ha] at ca;clear ha
 go_enter Tryz.func59, Tryz.ntmps59
 go_wp2_with fail;refine zA1 fun W1 hW => ?_;obtain ⟨Ba, Bb, Bc, hw⟩ := N3 hW;clear hW;refine (ca _).mono ?_;rintro e w2 ⟨rfl, hb⟩;obtain ⟨Ba, Bb, Bc, hw, F_abc⟩ := X3 Ba Bb Bc hw hb;clear hb;go_wp2
 go_ret
 exact ⟨rfl, hw⟩
theorem rorient_1 (a b c : Pt) (ha : vld a = true) (hb : vld b = false) (w : World) :
    Calls Tryz.prog 59 #[.agg #[.int .i64 a.x, .int .i64 a.y], .agg #[.int .i64 b.x, .int .i64 b.y], .agg #[.int .i64 c.x, .int .i64 c.y]] w fun e w' => e = .returned (.int .i64 0) ∧ Below w.heap.size w w' := by
 have ca := zA6 a;rw [ha] at ca;have cb := zA6 b;rw [hb] at cb;clear ha hb
 go_enter Tryz.func59, Tryz.ntmps59
 go_wp2_with fail;refine zA1 fun W1 hW => ?_;obtain ⟨Ba, Bb, Bc, hw⟩ := N3 hW;clear hW;refine (ca _).mono ?_;rintro e w2 ⟨rfl, hb⟩;obtain ⟨Ba, Bb, Bc, hw, F_abc⟩ := X3 Ba Bb Bc hw hb;clear hb;go_wp2_with fail;refine (cb _).mono ?_;rintro e w3 ⟨rfl, hb⟩;clear F_abc;obtain ⟨Ba, Bb, Bc, hw, F_abc⟩ := X3 Ba Bb Bc hw hb;clear hb;go_wp2
 go_ret
 exact ⟨rfl, hw⟩
theorem rorient_2 (a b c : Pt) (ha : vld a = true) (hb : vld b = true) (hc : vld c = false) (w : World) :
    Calls Tryz.prog 59 #[.agg #[.int .i64 a.x, .int .i64 a.y], .agg #[.int .i64 b.x, .int .i64 b.y], .agg #[.int .i64 c.x, .int .i64 c.y]] w fun e w' => e = .returned (.int .i64 0) ∧ Below w.heap.size w w' := by
 have ca := zA6 a;rw [ha] at ca;have cb := zA6 b;rw [hb] at cb;have cc := zA6 c;rw [hc] at cc;clear ha hb hc
 go_enter Tryz.func59, Tryz.ntmps59
 go_wp2_with fail;refine zA1 fun W1 hW => ?_;obtain ⟨Ba, Bb, Bc, hw⟩ := N3 hW;clear hW;refine (ca _).mono ?_;rintro e w2 ⟨rfl, hb⟩;obtain ⟨Ba, Bb, Bc, hw, F_abc⟩ := X3 Ba Bb Bc hw hb;clear hb;go_wp2_with fail;refine (cb _).mono ?_;rintro e w3 ⟨rfl, hb⟩;clear F_abc;obtain ⟨Ba, Bb, Bc, hw, F_abc⟩ := X3 Ba Bb Bc hw hb;clear hb;go_wp2_with fail;refine (cc _).mono ?_;rintro e w4 ⟨rfl, hb⟩;clear F_abc;obtain ⟨Ba, Bb, Bc, hw, F_abc⟩ := X3 Ba Bb Bc hw hb;clear hb;go_wp2
 go_ret
 exact ⟨rfl, hw⟩
theorem rorient_3 (a b c : Pt) (ha : vld a = true) (hb : vld b = true) (hc : vld c = true) (w : World) :
    Calls Tryz.prog 59 #[.agg #[.int .i64 a.x, .int .i64 a.y], .agg #[.int .i64 b.x, .int .i64 b.y], .agg #[.int .i64 c.x, .int .i64 c.y]] w fun e w' => e = .returned (.int .i64 (sgn (det a b c))) ∧ Below w.heap.size w w' := by
 have ca := zA6 a;rw [ha] at ca;have cb := zA6 b;rw [hb] at cb;have cc := zA6 c;rw [hc] at cc;have ct := zDp a b c ha hb hc;generalize det a b c = D at *
 have cs := zCp (zI5 D);clear ha hb hc
 go_enter Tryz.func59, Tryz.ntmps59
 go_wp2_with fail;refine zA1 fun W1 hW => ?_;obtain ⟨Ba, Bb, Bc, hw⟩ := N3 hW;clear hW;refine (ca _).mono ?_;rintro e w2 ⟨rfl, hb⟩;obtain ⟨Ba, Bb, Bc, hw, F_abc⟩ := X3 Ba Bb Bc hw hb;clear hb;go_wp2_with fail;refine (cb _).mono ?_;rintro e w3 ⟨rfl, hb⟩;clear F_abc;obtain ⟨Ba, Bb, Bc, hw, F_abc⟩ := X3 Ba Bb Bc hw hb;clear hb;go_wp2_with fail;refine (cc _).mono ?_;rintro e w4 ⟨rfl, hb⟩;clear F_abc;obtain ⟨Ba, Bb, Bc, hw, F_abc⟩ := X3 Ba Bb Bc hw hb;clear hb;go_wp2_with fail;refine (ct _).mono ?_;rintro e w5 ⟨rfl, hb⟩;clear F_abc;obtain ⟨Ba, Bb, Bc, hw, F_abc⟩ := X3 Ba Bb Bc hw hb;clear hb;go_wp2_with fail;refine (cs _).mono ?_;rintro e w6 ⟨rfl, hb⟩;clear F_abc;obtain ⟨Ba, Bb, Bc, hw, F_abc⟩ := X3 Ba Bb Bc hw hb;clear hb;go_wp2
 go_ret
 exact ⟨rfl, hw⟩
theorem zA5 (a b c : Pt) (w : World) :
    Calls Tryz.prog 59 #[.agg #[.int .i64 a.x, .int .i64 a.y], .agg #[.int .i64 b.x, .int .i64 b.y], .agg #[.int .i64 c.x, .int .i64 c.y]] w fun e w' => e = .returned (.int .i64 (ori a b c)) ∧ Below w.heap.size w w' := by
 cases ha : vld a with
 | false => rw [show ori a b c = 0 by simp [ori, ha]]; exact rorient_0 a b c ha w
 | true => cases hb : vld b with
  | false => rw [show ori a b c = 0 by simp [ori, hb]]; exact rorient_1 a b c ha hb w
  | true => cases hc : vld c with
   | false => rw [show ori a b c = 0 by simp [ori, hc]]; exact rorient_2 a b c ha hb hc w
   | true => rw [show ori a b c = sgn (det a b c) by simp [ori, ha, hb, hc]]; exact rorient_3 a b c ha hb hc w
def btw (n a b : Int) : Bool := decide (min a b ≤ n ∧ n ≤ max a b)
theorem zK5 (n a b : Int) (w : World) :
    Calls Tryz.prog 159 #[.int .i64 n, .int .i64 a, .int .i64 b] w fun e w' => e = .returned (.bool (btw n a b)) ∧ w = w' := by
 go_enter Tryz.func159, Tryz.ntmps159
 go_wp2;all_goals go_ret
 all_goals exact ⟨zCr (by unfold btw; rw [Bool.eq_iff_iff]; simp; omega), rfl⟩
def onR (p a b : Pt) : Bool := vld p && (vld a && (vld b && (decide (det a b p = 0) && (btw p.x a.x b.x && btw p.y a.y b.y))))
theorem ron_0 (p a b : Pt) (hp : vld p = false) (w : World) :
    Calls Tryz.prog 127 #[.agg #[.int .i64 p.x, .int .i64 p.y], .agg #[.int .i64 a.x, .int .i64 a.y], .agg #[.int .i64 b.x, .int .i64 b.y]] w fun e w' => e = .returned (.bool false) ∧ Below w.heap.size w w' := by
 have cp := zA6 p;rw [hp] at cp;clear hp
 go_enter Tryz.func127, Tryz.ntmps127
 go_wp2_with fail;refine zA1 fun W1 hW => ?_;obtain ⟨Bp, Ba, Bb, hw⟩ := N3 hW;clear hW;refine (cp _).mono ?_;rintro e w2 ⟨rfl, hb⟩;obtain ⟨Bp, Ba, Bb, hw, F_pab⟩ := X3 Bp Ba Bb hw hb;clear hb;go_wp2
 go_ret
 exact ⟨rfl, hw⟩
theorem ron_1 (p a b : Pt) (hp : vld p = true) (ha : vld a = false) (w : World) :
    Calls Tryz.prog 127 #[.agg #[.int .i64 p.x, .int .i64 p.y], .agg #[.int .i64 a.x, .int .i64 a.y], .agg #[.int .i64 b.x, .int .i64 b.y]] w fun e w' => e = .returned (.bool false) ∧ Below w.heap.size w w' := by
 have cp := zA6 p;rw [hp] at cp;have ca := zA6 a;rw [ha] at ca;clear hp ha
 go_enter Tryz.func127, Tryz.ntmps127
 go_wp2_with fail;refine zA1 fun W1 hW => ?_;obtain ⟨Bp, Ba, Bb, hw⟩ := N3 hW;clear hW;refine (cp _).mono ?_;rintro e w2 ⟨rfl, hb⟩;obtain ⟨Bp, Ba, Bb, hw, F_pab⟩ := X3 Bp Ba Bb hw hb;clear hb;go_wp2_with fail;refine (ca _).mono ?_;rintro e w3 ⟨rfl, hb⟩;clear F_pab;obtain ⟨Bp, Ba, Bb, hw, F_pab⟩ := X3 Bp Ba Bb hw hb;clear hb;go_wp2
 go_ret
 exact ⟨rfl, hw⟩
theorem ron_2 (p a b : Pt) (hp : vld p = true) (ha : vld a = true) (hb : vld b = false) (w : World) :
    Calls Tryz.prog 127 #[.agg #[.int .i64 p.x, .int .i64 p.y], .agg #[.int .i64 a.x, .int .i64 a.y], .agg #[.int .i64 b.x, .int .i64 b.y]] w fun e w' => e = .returned (.bool false) ∧ Below w.heap.size w w' := by
 have cp := zA6 p;rw [hp] at cp;have ca := zA6 a;rw [ha] at ca;have cb := zA6 b;rw [hb] at cb;clear hp ha hb
 go_enter Tryz.func127, Tryz.ntmps127
 go_wp2_with fail;refine zA1 fun W1 hW => ?_;obtain ⟨Bp, Ba, Bb, hw⟩ := N3 hW;clear hW;refine (cp _).mono ?_;rintro e w2 ⟨rfl, hb⟩;obtain ⟨Bp, Ba, Bb, hw, F_pab⟩ := X3 Bp Ba Bb hw hb;clear hb;go_wp2_with fail;refine (ca _).mono ?_;rintro e w3 ⟨rfl, hb⟩;clear F_pab;obtain ⟨Bp, Ba, Bb, hw, F_pab⟩ := X3 Bp Ba Bb hw hb;clear hb;go_wp2_with fail;refine (cb _).mono ?_;rintro e w4 ⟨rfl, hb⟩;clear F_pab;obtain ⟨Bp, Ba, Bb, hw, F_pab⟩ := X3 Bp Ba Bb hw hb;clear hb;go_wp2
 go_ret
 exact ⟨rfl, hw⟩
theorem ron_3 (p a b : Pt) (hp : vld p = true) (ha : vld a = true) (hb : vld b = true) (h0 : ¬ det a b p = 0) (w : World) :
    Calls Tryz.prog 127 #[.agg #[.int .i64 p.x, .int .i64 p.y], .agg #[.int .i64 a.x, .int .i64 a.y], .agg #[.int .i64 b.x, .int .i64 b.y]] w fun e w' => e = .returned (.bool false) ∧ Below w.heap.size w w' := by
 have cp := zA6 p;rw [hp] at cp;have ca := zA6 a;rw [ha] at ca;have cb := zA6 b;rw [hb] at cb;have ct := zDp a b p ha hb hp;clear ha hb hp;generalize det a b p = D at *
 have t0 : (D == 0) = false := by simpa using h0
 clear h0
 go_enter Tryz.func127, Tryz.ntmps127
 go_wp2_with fail;refine zA1 fun W1 hW => ?_;obtain ⟨Bp, Ba, Bb, hw⟩ := N3 hW;clear hW;refine (cp _).mono ?_;rintro e w2 ⟨rfl, hb⟩;obtain ⟨Bp, Ba, Bb, hw, F_pab⟩ := X3 Bp Ba Bb hw hb;clear hb;go_wp2_with fail;refine (ca _).mono ?_;rintro e w3 ⟨rfl, hb⟩;clear F_pab;obtain ⟨Bp, Ba, Bb, hw, F_pab⟩ := X3 Bp Ba Bb hw hb;clear hb;go_wp2_with fail;refine (cb _).mono ?_;rintro e w4 ⟨rfl, hb⟩;clear F_pab;obtain ⟨Bp, Ba, Bb, hw, F_pab⟩ := X3 Bp Ba Bb hw hb;clear hb;go_wp2_with fail;refine (ct _).mono ?_;rintro e w5 ⟨rfl, hb⟩;clear F_pab;obtain ⟨Bp, Ba, Bb, hw, F_pab⟩ := X3 Bp Ba Bb hw hb;clear hb;go_wp2
 go_ret
 exact ⟨rfl, hw⟩
theorem ron_4 (p a b : Pt) (hp : vld p = true) (ha : vld a = true) (hb : vld b = true) (h0 : det a b p = 0) (h1 : btw p.x a.x b.x = false) (w : World) :
    Calls Tryz.prog 127 #[.agg #[.int .i64 p.x, .int .i64 p.y], .agg #[.int .i64 a.x, .int .i64 a.y], .agg #[.int .i64 b.x, .int .i64 b.y]] w fun e w' => e = .returned (.bool false) ∧ Below w.heap.size w w' := by
 have cp := zA6 p;rw [hp] at cp;have ca := zA6 a;rw [ha] at ca;have cb := zA6 b;rw [hb] at cb;have ct := zDp a b p ha hb hp;clear ha hb hp;rw [h0] at ct;clear h0;have k1 := zCp (zK5 p.x a.x b.x);rw [h1] at k1;clear h1
 go_enter Tryz.func127, Tryz.ntmps127
 go_wp2_with fail;refine zA1 fun W1 hW => ?_;obtain ⟨Bp, Ba, Bb, hw⟩ := N3 hW;clear hW;refine (cp _).mono ?_;rintro e w2 ⟨rfl, hb⟩;obtain ⟨Bp, Ba, Bb, hw, F_pab⟩ := X3 Bp Ba Bb hw hb;clear hb;go_wp2_with fail;refine (ca _).mono ?_;rintro e w3 ⟨rfl, hb⟩;clear F_pab;obtain ⟨Bp, Ba, Bb, hw, F_pab⟩ := X3 Bp Ba Bb hw hb;clear hb;go_wp2_with fail;refine (cb _).mono ?_;rintro e w4 ⟨rfl, hb⟩;clear F_pab;obtain ⟨Bp, Ba, Bb, hw, F_pab⟩ := X3 Bp Ba Bb hw hb;clear hb;go_wp2_with fail;refine (ct _).mono ?_;rintro e w5 ⟨rfl, hb⟩;clear F_pab;obtain ⟨Bp, Ba, Bb, hw, F_pab⟩ := X3 Bp Ba Bb hw hb;clear hb;go_wp2_with fail;refine (k1 _).mono ?_;rintro e w6 ⟨rfl, hb⟩;clear F_pab;obtain ⟨Bp, Ba, Bb, hw, F_pab⟩ := X3 Bp Ba Bb hw hb;clear hb;go_wp2
 go_ret
 exact ⟨rfl, hw⟩
theorem ron_5 (p a b : Pt) (hp : vld p = true) (ha : vld a = true) (hb : vld b = true) (h0 : det a b p = 0) (h1 : btw p.x a.x b.x = true) (w : World) :
    Calls Tryz.prog 127 #[.agg #[.int .i64 p.x, .int .i64 p.y], .agg #[.int .i64 a.x, .int .i64 a.y], .agg #[.int .i64 b.x, .int .i64 b.y]] w fun e w' => e = .returned (.bool (btw p.y a.y b.y)) ∧ Below w.heap.size w w' := by
 have cp := zA6 p;rw [hp] at cp;have ca := zA6 a;rw [ha] at ca;have cb := zA6 b;rw [hb] at cb;have ct := zDp a b p ha hb hp;clear ha hb hp;rw [h0] at ct;clear h0;have k1 := zCp (zK5 p.x a.x b.x);rw [h1] at k1;clear h1;have k2 := zCp (zK5 p.y a.y b.y);generalize btw p.y a.y b.y = B at *
 go_enter Tryz.func127, Tryz.ntmps127
 go_wp2_with fail;refine zA1 fun W1 hW => ?_;obtain ⟨Bp, Ba, Bb, hw⟩ := N3 hW;clear hW;refine (cp _).mono ?_;rintro e w2 ⟨rfl, hb⟩;obtain ⟨Bp, Ba, Bb, hw, F_pab⟩ := X3 Bp Ba Bb hw hb;clear hb;go_wp2_with fail;refine (ca _).mono ?_;rintro e w3 ⟨rfl, hb⟩;clear F_pab;obtain ⟨Bp, Ba, Bb, hw, F_pab⟩ := X3 Bp Ba Bb hw hb;clear hb;go_wp2_with fail;refine (cb _).mono ?_;rintro e w4 ⟨rfl, hb⟩;clear F_pab;obtain ⟨Bp, Ba, Bb, hw, F_pab⟩ := X3 Bp Ba Bb hw hb;clear hb;go_wp2_with fail;refine (ct _).mono ?_;rintro e w5 ⟨rfl, hb⟩;clear F_pab;obtain ⟨Bp, Ba, Bb, hw, F_pab⟩ := X3 Bp Ba Bb hw hb;clear hb;go_wp2_with fail;refine (k1 _).mono ?_;rintro e w6 ⟨rfl, hb⟩;clear F_pab;obtain ⟨Bp, Ba, Bb, hw, F_pab⟩ := X3 Bp Ba Bb hw hb;clear hb;go_wp2_with fail;refine (k2 _).mono ?_;rintro e w7 ⟨rfl, hb⟩;clear F_pab;obtain ⟨Bp, Ba, Bb, hw, F_pab⟩ := X3 Bp Ba Bb hw hb;clear hb;go_wp2
 go_ret
 exact ⟨rfl, hw⟩
theorem ron_any (p a b : Pt) (w : World) :
    Calls Tryz.prog 127 #[.agg #[.int .i64 p.x, .int .i64 p.y], .agg #[.int .i64 a.x, .int .i64 a.y], .agg #[.int .i64 b.x, .int .i64 b.y]] w fun e w' => e = .returned (.bool (onR p a b)) ∧ Below w.heap.size w w' := by
 cases hp : vld p with
 | false => rw [show onR p a b = false by unfold onR; rw [hp]; rfl]; exact ron_0 p a b hp w
 | true => cases ha : vld a with
  | false => rw [show onR p a b = false by unfold onR; rw [hp, ha]; rfl]; exact ron_1 p a b hp ha w
  | true => cases hb : vld b with
   | false => rw [show onR p a b = false by unfold onR; rw [hp, ha, hb]; rfl]; exact ron_2 p a b hp ha hb w
   | true =>
    by_cases h0 : det a b p = 0
    ·cases h1 : btw p.x a.x b.x with
     | false => rw [show onR p a b = false by unfold onR; rw [hp, ha, hb, h0, h1]; rfl]; exact ron_4 p a b hp ha hb h0 h1 w
     | true => rw [show onR p a b = btw p.y a.y b.y by unfold onR; rw [hp, ha, hb, h0, h1]; rfl]; exact ron_5 p a b hp ha hb h0 h1 w
    ·rw [show onR p a b = false by unfold onR; rw [hp, ha, hb]; simp [h0]]; exact ron_3 p a b hp ha hb h0 w
def rl (p q : Pt) : Pt := if cmpP p q < 0 then p else q
theorem rl_0 (p q : Pt) (h : decide (cmpP p q < 0) = false) (w : World) :
    Calls Tryz.prog 92 #[.agg #[.int .i64 p.x, .int .i64 p.y], .agg #[.int .i64 q.x, .int .i64 q.y]] w fun e w' => e = .returned (.agg #[.int .i64 q.x, .int .i64 q.y]) ∧ Below w.heap.size w w' := by
 have c := zAd p q;generalize cmpP p q = n at *
 go_enter Tryz.func92, Tryz.ntmps92
 go_wp2_with fail;refine zA1 fun W1 hW => ?_;obtain ⟨Bp, Bq, Br, hw⟩ := N3 hW;clear hW;refine (c _).mono ?_;rintro e w2 ⟨rfl, hb⟩;obtain ⟨Bp, Bq, Br, hw, -⟩ := X3 Bp Bq Br hw hb;clear hb;have Fp := Bp.f;have Fq := Bq.f;have Fr := Br.f;go_wp2_with fail;refine bodyPost_ret (v := .agg #[.int .i64 q.x, .int .i64 q.y]) (by simp [results, Tryz.results92, go_sem, Fr]) rfl ⟨rfl, by have hl := hw.size; go_grown⟩
theorem rl_1 (p q : Pt) (h : decide (cmpP p q < 0) = true) (w : World) :
    Calls Tryz.prog 92 #[.agg #[.int .i64 p.x, .int .i64 p.y], .agg #[.int .i64 q.x, .int .i64 q.y]] w fun e w' => e = .returned (.agg #[.int .i64 p.x, .int .i64 p.y]) ∧ Below w.heap.size w w' := by
 have c := zAd p q;generalize cmpP p q = n at *
 go_enter Tryz.func92, Tryz.ntmps92
 go_wp2_with fail;refine zA1 fun W1 hW => ?_;obtain ⟨Bp, Bq, Br, hw⟩ := N3 hW;clear hW;refine (c _).mono ?_;rintro e w2 ⟨rfl, hb⟩;obtain ⟨Bp, Bq, Br, hw, -⟩ := X3 Bp Bq Br hw hb;clear hb;have Fp := Bp.f;have Fq := Bq.f;have Fr := Br.f;go_wp2_with fail;refine bodyPost_ret (v := .agg #[.int .i64 p.x, .int .i64 p.y]) (by simp [results, Tryz.results92, go_sem, Fr]) rfl ⟨rfl, by have hl := hw.size; go_grown⟩
theorem zKx (p q : Pt) (w : World) :
    Calls Tryz.prog 92 #[.agg #[.int .i64 p.x, .int .i64 p.y], .agg #[.int .i64 q.x, .int .i64 q.y]] w fun e w' => e = .returned (.agg #[.int .i64 (rl p q).x, .int .i64 (rl p q).y]) ∧ Below w.heap.size w w' := by
 by_cases h : cmpP p q < 0
 ·rw [show rl p q = p by unfold rl; rw [if_pos h]]; exact rl_1 p q (by simpa using h) w
 ·rw [show rl p q = q by unfold rl; rw [if_neg h]]; exact rl_0 p q (by simpa using h) w
def rg (p q : Pt) : Pt := if cmpP p q < 0 then q else p
theorem rg_0 (p q : Pt) (h : decide (cmpP p q < 0) = false) (w : World) :
    Calls Tryz.prog 93 #[.agg #[.int .i64 p.x, .int .i64 p.y], .agg #[.int .i64 q.x, .int .i64 q.y]] w fun e w' => e = .returned (.agg #[.int .i64 p.x, .int .i64 p.y]) ∧ Below w.heap.size w w' := by
 have c := zAd p q;generalize cmpP p q = n at *
 go_enter Tryz.func93, Tryz.ntmps93
 go_wp2_with fail;refine zA1 fun W1 hW => ?_;obtain ⟨Bp, Bq, Br, hw⟩ := N3 hW;clear hW;refine (c _).mono ?_;rintro e w2 ⟨rfl, hb⟩;obtain ⟨Bp, Bq, Br, hw, -⟩ := X3 Bp Bq Br hw hb;clear hb;have Fp := Bp.f;have Fq := Bq.f;have Fr := Br.f;go_wp2_with fail;refine bodyPost_ret (v := .agg #[.int .i64 p.x, .int .i64 p.y]) (by simp [results, Tryz.results93, go_sem, Fr]) rfl ⟨rfl, by have hl := hw.size; go_grown⟩
theorem rg_1 (p q : Pt) (h : decide (cmpP p q < 0) = true) (w : World) :
    Calls Tryz.prog 93 #[.agg #[.int .i64 p.x, .int .i64 p.y], .agg #[.int .i64 q.x, .int .i64 q.y]] w fun e w' => e = .returned (.agg #[.int .i64 q.x, .int .i64 q.y]) ∧ Below w.heap.size w w' := by
 have c := zAd p q;generalize cmpP p q = n at *
 go_enter Tryz.func93, Tryz.ntmps93
 go_wp2_with fail;refine zA1 fun W1 hW => ?_;obtain ⟨Bp, Bq, Br, hw⟩ := N3 hW;clear hW;refine (c _).mono ?_;rintro e w2 ⟨rfl, hb⟩;obtain ⟨Bp, Bq, Br, hw, -⟩ := X3 Bp Bq Br hw hb;clear hb;have Fp := Bp.f;have Fq := Bq.f;have Fr := Br.f;go_wp2_with fail;refine bodyPost_ret (v := .agg #[.int .i64 q.x, .int .i64 q.y]) (by simp [results, Tryz.results93, go_sem, Fr]) rfl ⟨rfl, by have hl := hw.size; go_grown⟩
theorem zKz (p q : Pt) (w : World) :
    Calls Tryz.prog 93 #[.agg #[.int .i64 p.x, .int .i64 p.y], .agg #[.int .i64 q.x, .int .i64 q.y]] w fun e w' => e = .returned (.agg #[.int .i64 (rg p q).x, .int .i64 (rg p q).y]) ∧ Below w.heap.size w w' := by
 by_cases h : cmpP p q < 0
 ·rw [show rg p q = q by unfold rg; rw [if_pos h]]; exact rg_1 p q (by simpa using h) w
 ·rw [show rg p q = p by unfold rg; rw [if_neg h]]; exact rg_0 p q (by simpa using h) w
def tch (p a b : Pt) : Int := if onR p a b = false then 0 else if peqI p.x p.y a.x a.y = true then 0 else if peqI p.x p.y b.x b.y = true then 0 else 2
end Go.Proofs.YtjkfakaehjmnbaaGreat
namespace Go.Proofs.YtjkfakaehjmnbaaGreat
open Go.RowKit
theorem zCo (n : Int) : sgn (-n) = -sgn n := by unfold sgn; (repeat' split) <;> omega
theorem sgn_n {n : Int} (h : n < 0) : sgn n = -1 := by unfold sgn; rw [if_pos h]
theorem sgn_p {n : Int} (h : 0 < n) : sgn n = 1 := by unfold sgn; rw [if_neg (by omega), if_pos h]
theorem zKg (a b : Int) : sgn (a * b) = sgn a * sgn b := by
 rcases Int.lt_trichotomy a 0 with ha | ha | ha <;> rcases Int.lt_trichotomy b 0 with hb | hb | hb
 ·rw [sgn_n ha, sgn_n hb, sgn_p (Int.mul_pos_of_neg_of_neg ha hb)]; rfl
 ·subst hb; simp [sgn]
 ·rw [sgn_n ha, sgn_p hb, sgn_n (Int.mul_neg_of_neg_of_pos ha hb)]; rfl
 ·subst ha; simp [sgn]
 ·subst ha; simp [sgn]
 ·subst ha; simp [sgn]
 ·rw [sgn_p ha, sgn_n hb, sgn_n (Int.mul_neg_of_pos_of_neg ha hb)]; rfl
 ·subst hb; simp [sgn]
 ·rw [sgn_p ha, sgn_p hb, sgn_p (Int.mul_pos ha hb)]; rfl
theorem zBp {n : Int} : sgn n = 0 ↔ n = 0 := by unfold sgn; (repeat' split) <;> omega
theorem sgn_pos {n : Int} : sgn n = 1 ↔ 0 < n := by unfold sgn; (repeat' split) <;> omega
theorem zAa (n : Int) : sgn n = -1 ∧ n < 0 ∨ sgn n = 0 ∧ n = 0 ∨ sgn n = 1 ∧ 0 < n := by unfold sgn; (repeat' split) <;> omega
theorem ori_v {a b c : Pt} (ha : vld a = true) (hb : vld b = true) (hc : vld c = true) : ori a b c = sgn (det a b c) := by unfold ori; rw [if_pos ⟨ha, hb, hc⟩]
theorem zB0 (a b c : Pt) : det b c a = det a b c := by unfold det; grind
theorem zCy (a b c : Pt) : det b a c = -det a b c := by unfold det; grind
theorem zBg (a b c : Pt) : ori b c a = ori a b c := by
 unfold ori; rw [zB0];by_cases h : vld a = true ∧ vld b = true ∧ vld c = true
 ·rw [if_pos h, if_pos ⟨h.2.1, h.2.2, h.1⟩]
 ·rw [if_neg h, if_neg (fun k => h ⟨k.2.2, k.1, k.2.1⟩)]
theorem zCu (a b c : Pt) : ori b a c = -ori a b c := by
 unfold ori; rw [zCy, zCo];by_cases h : vld a = true ∧ vld b = true ∧ vld c = true
 ·rw [if_pos h, if_pos ⟨h.2.1, h.1, h.2.2⟩]
 ·rw [if_neg h, if_neg (fun k => h ⟨k.2.1, k.1, k.2.2⟩)]; rfl
theorem zDt (a b c : Pt) : ori a c b = -ori a b c := by
 rw [← zBg a c b, zCu b c a, zBg a b c]
theorem zFg (a b c d : Pt) : lft b c a d = lft a b c d := by unfold lft; omega
theorem lft_swap (a b c d : Pt) : lft b a c d = -lft a b c d := by unfold lft ht cr; grind
theorem lft_last (a b c d : Pt) : lft a b d c = -lft a b c d := by unfold lft ht cr way; grind
def key (p : Pt) : Int := p.x * 16777216 + p.y
theorem zCi {p q : Pt} (hp : vld p = true) (hq : vld q = true) : cmpP p q = sgn (key p - key q) := by
 rw [zAx] at hp hq;unfold cmpP cmpN key;unfold sgn
 (repeat' split) <;> omega
theorem zBo {p q : Pt} (hp : vld p = true) (hq : vld q = true) (h : key p = key q) : p = q := by
 rw [zAx] at hp hq;rw [Pt.eq_iff];unfold key at h; omega
theorem zCm {p m : Pt} (hp : vld p = true) (hm : vld m = true) : vld (lsr p m) = true := by unfold lsr; split <;> assumption
theorem zG8 {p m : Pt} (hp : vld p = true) (hm : vld m = true) : key (lsr p m) = min (key p) (key m) := by
 unfold lsr;rw [zCi hp hm];have := zAa (key p - key m);split <;> omega
theorem zDs {p q : Pt} : peqI p.x p.y q.x q.y = true ↔ p = q := by rw [zBx, Pt.eq_iff]
theorem zBw {p q : Pt} : peqI p.x p.y q.x q.y = false ↔ p ≠ q := by rw [← Bool.not_eq_true, zDs]
theorem pp {p q : Pt} (h : p = q) : peqI p.x p.y q.x q.y = true := zDs.2 h
theorem np {p q : Pt} (h : ¬ p = q) : ¬ peqI p.x p.y q.x q.y = true := fun k => h (zDs.1 k)
theorem zL2 (p m : Pt) : lsr p m = p ∨ lsr p m = m := by unfold lsr; split <;> simp
theorem zJn (a b c d : Pt) : min4 a b c d = a ∨ min4 a b c d = b ∨ min4 a b c d = c ∨ min4 a b c d = d := by
 unfold min4;rcases zL2 d (lsr c (lsr b a)) with h | h <;> rw [h]
 ·simp
 rcases zL2 c (lsr b a) with h | h <;> rw [h]
 ·simp
 rcases zL2 b a with h | h <;> rw [h] <;> simp
section
variable {a b c d : Pt} (ha : vld a = true) (hb : vld b = true) (hc : vld c = true) (hd : vld d = true)
include ha hb hc hd
theorem zDi : vld (min4 a b c d) = true := zCm hd (zCm hc (zCm hb ha))
theorem zCv : key (min4 a b c d) = min (key d) (min (key c) (min (key b) (key a))) := by
 unfold min4; rw [zG8 hd (zCm hc (zCm hb ha)), zG8 hc (zCm hb ha), zG8 hb ha]
theorem min4_r : lsr c (lsr b (lsr a d)) = min4 a b c d := by
 refine zBo (zCm hc (zCm hb (zCm ha hd))) (zDi ha hb hc hd) ?_;rw [zCv ha hb hc hd, zG8 hc (zCm hb (zCm ha hd)), zG8 hb (zCm ha hd), zG8 ha hd];omega
theorem min4_swap : min4 b a c d = min4 a b c d := by
 refine zBo (zDi hb ha hc hd) (zDi ha hb hc hd) ?_;rw [zCv ha hb hc hd, zCv hb ha hc hd]; omega
theorem min4_cyc : min4 b c a d = min4 a b c d := by
 refine zBo (zDi hb hc ha hd) (zDi ha hb hc hd) ?_;rw [zCv ha hb hc hd, zCv hb hc ha hd]; omega
theorem min4_last : min4 a b d c = min4 a b c d := by
 refine zBo (zDi ha hb hd hc) (zDi ha hb hc hd) ?_;rw [zCv ha hb hc hd, zCv ha hb hd hc]; omega
end
theorem zBm {a b c d : Pt} (h0 : ¬ ori a b c = 0) (hv : vld d = true) (e1 : d ≠ a) (e2 : d ≠ b) (e3 : d ≠ c) :
    circ a b c d = if ¬ sgn (lft a b c d) = 0 then sgn (lft a b c d) else tie a b c d (min4 a b c d) (ori a b c) := by
 unfold circ;rw [if_neg h0, if_neg (by rw [hv]; simp), if_neg (np e1), if_neg (np e2), if_neg (np e3)]
theorem zAf {a b c d : Pt} (h : ori a b c = 0 ∨ vld d = false ∨ d = a ∨ d = b ∨ d = c) : circ a b c d = 0 := by
 unfold circ;rcases h with h | h | h | h | h
 ·rw [if_pos h]
 ·simp [h]
 all_goals (have k := pp h; simp [k])
theorem zBf {a b c : Pt} (h : ¬ ori a b c = 0) : b ≠ a ∧ c ≠ a ∧ c ≠ b := by
 refine ⟨?_, ?_, ?_⟩;all_goals (rintro rfl; apply h; unfold ori; split)
 all_goals first | rfl | (rw [zBp]; unfold det; grind)
theorem tie_swap {a b c d m : Pt} {o : Int} (n1 : b ≠ a) : tie b a c d m (-o) = -tie a b c d m o := by
 unfold tie;by_cases h1 : m = d
 ·rw [if_pos (pp h1), if_pos (pp h1)]
 rw [if_neg (np h1), if_neg (np h1)];by_cases h2 : m = a
 ·have h3 : ¬ m = b := by rw [h2]; exact n1.symm
  rw [if_neg (np h3), if_pos (pp h2), if_pos (pp h2)];rw [zCu d b c]
 ·rw [if_neg (np h2) (c := peqI m.x m.y a.x a.y = true) (e := if peqI m.x m.y b.x b.y = true then -ori a d c else -ori a b d)];by_cases h3 : m = b
  ·rw [if_pos (pp h3), if_pos (pp h3), zCu a d c]
  ·rw [if_neg (np h3), if_neg (np h2), if_neg (np h3), zCu a b d]
theorem tie_cyc {a b c d m : Pt} {o : Int} (hm : m = a ∨ m = b ∨ m = c ∨ m = d) (n1 : b ≠ a) (n2 : c ≠ a) (n3 : c ≠ b) : tie b c a d m o = tie a b c d m o := by
 unfold tie;by_cases h1 : m = d
 ·rw [if_pos (pp h1), if_pos (pp h1)]
 rw [if_neg (np h1), if_neg (np h1)];rcases hm with h | h | h | h
 ·subst h; rw [if_neg (np n1.symm), if_neg (np n2.symm), if_pos (pp rfl)];rw [← zBg d b c]
 ·subst h; rw [if_pos (pp rfl), if_neg (np n1), if_pos (pp rfl)];rw [zBg a d c]
 ·subst h; rw [if_neg (np n3), if_pos (pp rfl), if_neg (np n2), if_neg (np n3)];rw [zBg a b d]
 ·exact absurd h h1
theorem zIy (a b c d : Pt) : circ b a c d = -circ a b c d := by
 by_cases h0 : ori a b c = 0
 ·rw [zAf (.inl h0), zAf (.inl (by rw [zCu, h0]; rfl))]; rfl
 cases hv : vld d with
 | false => rw [zAf (.inr (.inl hv)), zAf (.inr (.inl hv))]; rfl
 | true =>
 by_cases e1 : d = a
 ·rw [zAf (.inr (.inr (.inl e1))), zAf (.inr (.inr (.inr (.inl e1))))]; rfl
 by_cases e2 : d = b
 ·rw [zAf (.inr (.inr (.inl e2))), zAf (.inr (.inr (.inr (.inl e2))))]; rfl
 by_cases e3 : d = c
 ·rw [zAf (.inr (.inr (.inr (.inr e3)))), zAf (.inr (.inr (.inr (.inr e3))))]; rfl
 obtain ⟨va, vb, vc⟩ := zCl h0;obtain ⟨n1, n2, n3⟩ := zBf h0;rw [zBm h0 hv e1 e2 e3, zBm (by rw [zCu]; omega) hv e2 e1 e3, lft_swap, zCo, min4_swap va vb vc hv, zCu, tie_swap n1];split <;> split <;> omega
theorem zH5 (a b c d : Pt) : circ b c a d = circ a b c d := by
 by_cases h0 : ori a b c = 0
 ·rw [zAf (.inl h0), zAf (.inl (by rw [zBg, h0]))]
 cases hv : vld d with
 | false => rw [zAf (.inr (.inl hv)), zAf (.inr (.inl hv))]
 | true =>
 by_cases e1 : d = a
 ·rw [zAf (.inr (.inr (.inl e1))), zAf (.inr (.inr (.inr (.inr e1))))]
 by_cases e2 : d = b
 ·rw [zAf (.inr (.inr (.inl e2))), zAf (.inr (.inr (.inr (.inl e2))))]
 by_cases e3 : d = c
 ·rw [zAf (.inr (.inr (.inr (.inl e3)))), zAf (.inr (.inr (.inr (.inr e3))))]
 obtain ⟨va, vb, vc⟩ := zCl h0;obtain ⟨n1, n2, n3⟩ := zBf h0;rw [zBm h0 hv e1 e2 e3, zBm (by rw [zBg]; omega) hv e2 e3 e1, zFg, min4_cyc va vb vc hv, zBg, tie_cyc (zJn a b c d) n1 n2 n3]
theorem zE9 {a b c d : Pt} (hl : lft a b c d = 0) (h0 : det a b c ≠ 0) (e2 : d ≠ b) (e3 : d ≠ c) : det d b c ≠ 0 := by
 intro hd;have e0 : det a b c = cr (way d b) (way d c) + cr (way d c) (way d a) + cr (way d a) (way d b) := by unfold det cr way; grind
 have ed : det d b c = cr (way d b) (way d c) := by unfold det cr way; grind
 have n2 : way d b ≠ ⟨0, 0⟩ := fun h => e2 (by rw [Pt.eq_iff] at h ⊢; unfold way at h; simp only at h; omega);have n3 : way d c ≠ ⟨0, 0⟩ := fun h => e3 (by rw [Pt.eq_iff] at h ⊢; unfold way at h; simp only at h; omega);rw [ed] at hd;rw [e0] at h0;unfold lft at hl;generalize way d a = u at *
 generalize way d b = v at *
 generalize way d c = z at *
 have i1 : ht u * cr v z + ht v * cr z u + ht z * cr u v = ht u * cr v z + (v.x * z.x + v.y * z.y) * (cr v u + cr u z) - cr v z * (v.x * u.x + v.y * u.y + z.x * u.x + z.y * u.y) := by unfold ht cr; grind
 have i2 : cr v u + cr u z = -(cr z u + cr u v) := by unfold cr; grind
 have i3 : ht v * ht z = (v.x * z.x + v.y * z.y) * (v.x * z.x + v.y * z.y) + cr v z * cr v z := by unfold ht cr; grind
 rw [hl, i2, hd] at i1;simp only [Int.mul_zero, Int.zero_mul, Int.zero_add, Int.sub_zero] at i1;have h1 : (v.x * z.x + v.y * z.y) = 0 := by
  rcases Int.mul_eq_zero.1 i1.symm with h | h
  ·exact h
  ·exfalso; apply h0; omega
 rw [h1, hd] at i3;simp only [Int.mul_zero, Int.zero_add] at i3;have key0 : ∀ p : Pt, ht p = 0 → p = ⟨0, 0⟩ := fun p hp => by
  have a1 := zDa p.x; have a2 := zDa p.y;unfold ht at hp;have b1 : p.x * p.x = 0 := by omega
  have b2 : p.y * p.y = 0 := by omega
  rw [Pt.eq_iff];exact ⟨by rcases Int.mul_eq_zero.1 b1 with h | h <;> exact h, by rcases Int.mul_eq_zero.1 b2 with h | h <;> exact h⟩
 rcases Int.mul_eq_zero.1 i3 with h | h
 ·exact n2 (key0 v h)
 ·exact n3 (key0 z h)
theorem circ_sign {a b c d : Pt} (h0 : ¬ ori a b c = 0) (hv : vld d = true) (e1 : d ≠ a) (e2 : d ≠ b) (e3 : d ≠ c) : circ a b c d = 1 ∨ circ a b c d = -1 := by
 rw [zBm h0 hv e1 e2 e3];obtain ⟨va, vb, vc⟩ := zCl h0;have o3 : ∀ p q r : Pt, vld p = true → vld q = true → vld r = true → det p q r ≠ 0 → ori p q r = 1 ∨ ori p q r = -1 := fun p q r hp hq hr h => by
  rw [ori_v hp hq hr]; have := zAa (det p q r); omega
 have hdet : det a b c ≠ 0 := fun h => h0 (by rw [ori_v va vb vc, h]; rfl);split
 ·rename_i h; have := zAa (lft a b c d); omega
 ·rename_i h
  have hl : lft a b c d = 0 := by rw [← zBp]; omega
  unfold tie;split
  ·exact o3 _ _ _ va vb vc hdet
  split
  ·have := o3 d b c hv vb vc (zE9 hl hdet e2 e3); omega
  split
  ·have h3 := zE9 (a := b) (b := c) (c := a) (d := d) (by rw [zFg]; exact hl) (by rw [zB0]; exact hdet) e3 e1;have := o3 a d c va hv vc (by rw [← zB0 a d c]; exact h3); omega
  ·have h3 := zE9 (a := c) (b := a) (c := b) (d := d) (by rw [zFg b c a, zFg]; exact hl) (by rw [zB0 b c a, zB0]; exact hdet) e1 e2;have := o3 a b d va vb hv (by rw [← zB0 a b d, ← zB0 b d a]; exact h3); omega
theorem circ_last {a b c d : Pt} (h0 : ¬ ori a b c = 0) (h1 : ¬ ori a b d = 0) (e : d ≠ c) : circ a b d c = -circ a b c d := by
 obtain ⟨va, vb, vc⟩ := zCl h0;obtain ⟨_, _, vd⟩ := zCl h1;obtain ⟨n1, n2, n3⟩ := zBf h0;obtain ⟨_, k2, k3⟩ := zBf h1;rw [zBm h0 vd k2 k3 e, zBm h1 vc n2 n3 e.symm, lft_last, zCo, min4_last va vb vc vd];by_cases hs : sgn (lft a b c d) = 0
 ·rw [if_neg (by omega), if_neg (by omega)];unfold tie;rcases zJn a b c d with h | h | h | h <;> rw [h]
  ·rw [if_neg (np n2.symm), if_pos (pp rfl), if_neg (np k2.symm), if_pos (pp rfl), zCu b c d, zBg d b c]
  ·rw [if_neg (np n3.symm), if_neg (np n1), if_pos (pp rfl), if_neg (np k3.symm), if_neg (np n1), if_pos (pp rfl), zDt]
  ·rw [if_pos (pp rfl), if_neg (np e.symm), if_neg (np n2), if_neg (np n3)]; omega
  ·rw [if_neg (np e), if_neg (np k2), if_neg (np k3), if_pos (pp rfl)]
 ·rw [if_pos (by omega), if_pos hs]
end Go.Proofs.YtjkfakaehjmnbaaGreat
