/- Put together: ExI, ExJ, ExN, ExK. -/
import Derived.Test.YtmobnmjjmafibaaGreatRows
import Derived.Test.YtmobnmjjmafibaaGreatPuw1
import Derived.Test.YtmobnmjjmafibaaGreatPuw0
import Derived.WalkKit
import Derived.WalkSpells
import Derived.WalkLawsBesides
import Derived.Laws.Externs
import Derived.Deep.QuietTactic
import Derived.BigQuiet
import Derived.Lib.Hide
import Derived.Handy
set_option maxRecDepth 100000
set_option maxHeartbeats 8000000
namespace Go.Proofs.YtmobnmjjmafibaaGreat
open Go.RowKit Go.Sort
attribute [local go_sem] rOper rAt rUpon cell_set sg_i64 sg_u64 alloc_cell alloc_frozen
attribute [local go_sem 10000] pt_eql pt_neq
attribute [local irreducible] rWalk
theorem zBv (a b c d : Pt) (w : World) :
    Calls Tryz.prog 77 #[.agg #[.int .i64 a.x, .int .i64 a.y], .agg #[.int .i64 b.x, .int .i64 b.y], .agg #[.int .i64 c.x, .int .i64 c.y], .agg #[.int .i64 d.x, .int .i64 d.y]] w fun e w' => e = .returned (.int .i64 (meetS a b c d)) ∧ Below w.heap.size w w' := by
 cases ha : vld a with
 | false => rw [show meetS a b c d = 0 by unfold meetS; rw [if_pos ha]]; exact meet_v0 a b c d ha w
 | true =>
 have n_ha : ¬ vld a = false := by rw [ha]; simp
 cases hb : vld b with
 | false => rw [show meetS a b c d = 0 by unfold meetS; rw [if_neg n_ha, if_pos hb]]; exact meet_v1 a b c d ha hb w
 | true =>
 have n_hb : ¬ vld b = false := by rw [hb]; simp
 cases hc : vld c with
 | false => rw [show meetS a b c d = 0 by unfold meetS; rw [if_neg n_ha, if_neg n_hb, if_pos hc]]; exact meet_v2 a b c d ha hb hc w
 | true =>
 have n_hc : ¬ vld c = false := by rw [hc]; simp
 cases hd : vld d with
 | false => rw [show meetS a b c d = 0 by unfold meetS; rw [if_neg n_ha, if_neg n_hb, if_neg n_hc, if_pos hd]]; exact meet_v3 a b c d ha hb hc hd w
 | true =>
 have n_hd : ¬ vld d = false := by rw [hd]; simp
 cases e1 : peqI a.x a.y b.x b.y with
 | true => rw [show meetS a b c d = 0 by unfold meetS; rw [if_neg n_ha, if_neg n_hb, if_neg n_hc, if_neg n_hd, if_pos e1]]; exact meet_e1 a b c d ha hb hc hd e1 w
 | false =>
 have n_e1 : ¬ peqI a.x a.y b.x b.y = true := by rw [e1]; simp
 cases e2 : peqI c.x c.y d.x d.y with
 | true => rw [show meetS a b c d = 0 by unfold meetS; rw [if_neg n_ha, if_neg n_hb, if_neg n_hc, if_neg n_hd, if_neg n_e1, if_pos e2]]; exact meet_e2 a b c d ha hb hc hd e1 e2 w
 | false =>
 have n_e2 : ¬ peqI c.x c.y d.x d.y = true := by rw [e2]; simp
 by_cases z1 : ori a b c = 0
 ·by_cases z2 : ori a b d = 0
  ·rw [show meetS a b c d = mil a b c d by unfold meetS; rw [if_neg n_ha, if_neg n_hb, if_neg n_hc, if_neg n_hd, if_neg n_e1, if_neg n_e2, if_pos ⟨z1, z2⟩]]; exact meet_l a b c d ha hb hc hd e1 e2 z1 z2 w
  ·have nz : ¬ (ori a b c = 0 ∧ ori a b d = 0) := fun h => z2 h.2;cases q1 : peqI a.x a.y c.x c.y with
   | true => rw [show meetS a b c d = 0 by unfold meetS; rw [if_neg n_ha, if_neg n_hb, if_neg n_hc, if_neg n_hd, if_neg n_e1, if_neg n_e2, if_neg nz, if_pos q1]]; exact meet_z0 a b c d ha hb hc hd e1 e2 z1 z2 q1 w
   | false =>
   have k1 : ¬ peqI a.x a.y c.x c.y = true := by rw [q1]; simp
   cases q2 : peqI a.x a.y d.x d.y with
   | true => rw [show meetS a b c d = 0 by unfold meetS; rw [if_neg n_ha, if_neg n_hb, if_neg n_hc, if_neg n_hd, if_neg n_e1, if_neg n_e2, if_neg nz, if_neg k1, if_pos q2]]; exact meet_z1 a b c d ha hb hc hd e1 e2 z1 z2 q1 q2 w
   | false =>
   have k2 : ¬ peqI a.x a.y d.x d.y = true := by rw [q2]; simp
   cases q3 : peqI b.x b.y c.x c.y with
   | true => rw [show meetS a b c d = 0 by unfold meetS; rw [if_neg n_ha, if_neg n_hb, if_neg n_hc, if_neg n_hd, if_neg n_e1, if_neg n_e2, if_neg nz, if_neg k1, if_neg k2, if_pos q3]]; exact meet_z2 a b c d ha hb hc hd e1 e2 z1 z2 q1 q2 q3 w
   | false =>
   have k3 : ¬ peqI b.x b.y c.x c.y = true := by rw [q3]; simp
   cases q4 : peqI b.x b.y d.x d.y with
   | true => rw [show meetS a b c d = 0 by unfold meetS; rw [if_neg n_ha, if_neg n_hb, if_neg n_hc, if_neg n_hd, if_neg n_e1, if_neg n_e2, if_neg nz, if_neg k1, if_neg k2, if_neg k3, if_pos q4]]; exact meet_z3 a b c d ha hb hc hd e1 e2 z1 z2 q1 q2 q3 q4 w
   | false =>
   have k4 : ¬ peqI b.x b.y d.x d.y = true := by rw [q4]; simp
   rw [show meetS a b c d = fin (ori c d a) (ori c d b) (ori a b c) (ori a b d) by unfold meetS; rw [if_neg n_ha, if_neg n_hb, if_neg n_hc, if_neg n_hd, if_neg n_e1, if_neg n_e2, if_neg nz, if_neg k1, if_neg k2, if_neg k3, if_neg k4]];rw [z1];exact meet_z4 a b c d ha hb hc hd e1 e2 z1 z2 q1 q2 q3 q4 w
 ·have nz : ¬ (ori a b c = 0 ∧ ori a b d = 0) := fun h => z1 h.1;cases q1 : peqI a.x a.y c.x c.y with
  | true => rw [show meetS a b c d = 0 by unfold meetS; rw [if_neg n_ha, if_neg n_hb, if_neg n_hc, if_neg n_hd, if_neg n_e1, if_neg n_e2, if_neg nz, if_pos q1]]; exact meet_n0 a b c d ha hb hc hd e1 e2 z1 q1 w
  | false =>
  have k1 : ¬ peqI a.x a.y c.x c.y = true := by rw [q1]; simp
  cases q2 : peqI a.x a.y d.x d.y with
  | true => rw [show meetS a b c d = 0 by unfold meetS; rw [if_neg n_ha, if_neg n_hb, if_neg n_hc, if_neg n_hd, if_neg n_e1, if_neg n_e2, if_neg nz, if_neg k1, if_pos q2]]; exact meet_n1 a b c d ha hb hc hd e1 e2 z1 q1 q2 w
  | false =>
  have k2 : ¬ peqI a.x a.y d.x d.y = true := by rw [q2]; simp
  cases q3 : peqI b.x b.y c.x c.y with
  | true => rw [show meetS a b c d = 0 by unfold meetS; rw [if_neg n_ha, if_neg n_hb, if_neg n_hc, if_neg n_hd, if_neg n_e1, if_neg n_e2, if_neg nz, if_neg k1, if_neg k2, if_pos q3]]; exact meet_n2 a b c d ha hb hc hd e1 e2 z1 q1 q2 q3 w
  | false =>
  have k3 : ¬ peqI b.x b.y c.x c.y = true := by rw [q3]; simp
  cases q4 : peqI b.x b.y d.x d.y with
  | true => rw [show meetS a b c d = 0 by unfold meetS; rw [if_neg n_ha, if_neg n_hb, if_neg n_hc, if_neg n_hd, if_neg n_e1, if_neg n_e2, if_neg nz, if_neg k1, if_neg k2, if_neg k3, if_pos q4]]; exact meet_n3 a b c d ha hb hc hd e1 e2 z1 q1 q2 q3 q4 w
  | false =>
  have k4 : ¬ peqI b.x b.y d.x d.y = true := by rw [q4]; simp
  rw [show meetS a b c d = fin (ori c d a) (ori c d b) (ori a b c) (ori a b d) by unfold meetS; rw [if_neg n_ha, if_neg n_hb, if_neg n_hc, if_neg n_hd, if_neg n_e1, if_neg n_e2, if_neg nz, if_neg k1, if_neg k2, if_neg k3, if_neg k4]];exact meet_n4 a b c d ha hb hc hd e1 e2 z1 q1 q2 q3 q4 w
theorem zA2 (p : Pt) (w : World) :
    Calls Tryz.prog 94 #[.agg #[.int .i64 p.x, .int .i64 p.y]] w fun e w' => e = .returned (.bool (vld p)) ∧ Below w.heap.size w w' := by
 have Hv := Lib.hid (show vld p = (inG p.x && inG p.y) from rfl)
 go_enter Tryz.func94, Tryz.ntmps94
 go_wp2;all_goals go_ret
 all_goals exact ⟨zCu (by rw [Hv.out, Bool.eq_iff_iff]; simp [inG]; omega), by go_grown⟩
theorem zAb (p q : Pt) (w : World) :
    Calls Tryz.prog 89 #[.agg #[.int .i64 p.x, .int .i64 p.y], .agg #[.int .i64 q.x, .int .i64 q.y]] w fun e w' => e = .returned (.int .i64 (cmpP p q)) ∧ Below w.heap.size w w' := by
 have H : Hid (∀ n : Int, (n = -1 ∧ (p.x < q.x ∨ p.x = q.x ∧ p.y < q.y) ∨ n = 0 ∧ p.x = q.x ∧ p.y = q.y ∨ n = 1 ∧ (q.x < p.x ∨ p.x = q.x ∧ q.y < p.y)) → n = cmpP p q) := Lib.hid (fun n h => by
  unfold cmpP cmpN sgn
  (repeat' split) <;> omega)
 rcases Int.lt_trichotomy p.x q.x with h | h | h
 ·go_enter Tryz.func89, Tryz.ntmps89
  go_wp2
  go_ret
  exact ⟨zAq (H.out _ (by omega)), by go_grown⟩
 ·rcases Int.lt_trichotomy p.y q.y with k | k | k
  all_goals have e1 : (p.x == q.x) = true := by simpa using h
  all_goals have e2 : decide (p.x < q.x) = false := by simp; omega
  ·have e3 : decide (p.y < q.y) = true := by simpa using k
   go_enter Tryz.func89, Tryz.ntmps89
   have h' := Lib.hid h; clear h;go_wp2
   go_ret
   exact ⟨zAq (H.out _ (by have := h'.out; omega)), by go_grown⟩
  ·have e3 : decide (p.y < q.y) = false := by simp; omega
   have e4 : peqI p.x p.y q.x q.y = true := by rw [zC2]; exact ⟨h, k⟩
   have h' := Lib.hid h; clear h;have k' := Lib.hid k; clear k
   go_enter Tryz.func89, Tryz.ntmps89
   go_wp2
   go_ret
   exact ⟨zAq (H.out _ (by have := h'.out; have := k'.out; omega)), by go_grown⟩
  ·have e3 : decide (p.y < q.y) = false := by simp; omega
   have e4 : peqI p.x p.y q.x q.y = false := by rw [← Bool.not_eq_true, zC2]; omega
   have h' := Lib.hid h; clear h
   go_enter Tryz.func89, Tryz.ntmps89
   go_wp2
   go_ret
   exact ⟨zAq (H.out _ (by have := h'.out; omega)), by go_grown⟩
 ·have e1 : (p.x == q.x) = false := by simp; omega
  have e2 : decide (p.x < q.x) = false := by simp; omega
  have e4 : peqI p.x p.y q.x q.y = false := by rw [← Bool.not_eq_true, zC2]; omega
  go_enter Tryz.func89, Tryz.ntmps89
  go_wp2
  go_ret
  exact ⟨zAq (H.out _ (by omega)), by go_grown⟩
theorem zHy (n : Int) (w : World) :
    Calls Tryz.prog 103 #[.int .i64 n] w fun e w' => e = .returned (.int .i64 (sgn n)) ∧ w = w' := by
 go_enter Tryz.func103, Tryz.ntmps103
 go_wp2;all_goals go_ret
 all_goals exact ⟨zAq (by unfold sgn; (repeat' split) <;> omega), rfl⟩
theorem zCb (a b c : Pt) (ha : vld a = true) (hb : vld b = true) (hc : vld c = true) (w : World) :
    Calls Tryz.prog 79 #[.agg #[.int .i64 a.x, .int .i64 a.y], .agg #[.int .i64 b.x, .int .i64 b.y], .agg #[.int .i64 c.x, .int .i64 c.y]] w fun e w' => e = .returned (.int .i64 (det a b c)) ∧ Below w.heap.size w w' := by
 have s1 := zDj ha hb;have s2 := zDj ha hc;have h1 := zBb s1.1 s2.2;have h2 := zBb s1.2 s2.1;have e : wrap64 (wrap64 (wrap64 (b.x - a.x) * wrap64 (c.y - a.y)) - wrap64 (wrap64 (b.y - a.y) * wrap64 (c.x - a.x))) = det a b c := by
  rw [zAv] at ha hb hc;rw [show wrap64 (b.x - a.x) = (way a b).x by rw [w64]; unfold way; simp only; omega, show wrap64 (c.y - a.y) = (way a c).y by rw [w64]; unfold way; simp only; omega, show wrap64 (b.y - a.y) = (way a b).y by rw [w64]; unfold way; simp only; omega, show wrap64 (c.x - a.x) = (way a c).x by rw [w64]; unfold way; simp only; omega];show _ = (way a b).x * (way a c).y - (way a b).y * (way a c).x;generalize (way a b).x * (way a c).y = p at *
  generalize (way a b).y * (way a c).x = q at *
  simp only [w64]; omega
 have E := Lib.hid e; clear e h1 h2 s1 s2 ha hb hc
 go_enter Tryz.func79, Tryz.ntmps79
 go_wp2
 go_ret
 exact ⟨zAq (by simpa using E.out), by go_grown⟩
theorem rorient_0 (a b c : Pt) (ha : vld a = false) (w : World) :
    Calls Tryz.prog 59 #[.agg #[.int .i64 a.x, .int .i64 a.y], .agg #[.int .i64 b.x, .int .i64 b.y], .agg #[.int .i64 c.x, .int .i64 c.y]] w fun e w' => e = .returned (.int .i64 0) ∧ Below w.heap.size w w' := by
 have ca := zA2 a;rw [ha] at ca;clear ha
 go_enter Tryz.func59, Tryz.ntmps59
 go_wp2_with fail;refine zA1 fun W1 hW => ?_;obtain ⟨Ba, Bb, Bc, hw⟩ := N3 hW;clear hW;refine (ca _).mono ?_;rintro e w2 ⟨rfl, hb⟩;obtain ⟨Ba, Bb, Bc, hw, F_abc⟩ := X3 Ba Bb Bc hw hb;clear hb;go_wp2
 go_ret
 exact ⟨rfl, hw⟩
theorem rorient_1 (a b c : Pt) (ha : vld a = true) (hb : vld b = false) (w : World) :
    Calls Tryz.prog 59 #[.agg #[.int .i64 a.x, .int .i64 a.y], .agg #[.int .i64 b.x, .int .i64 b.y], .agg #[.int .i64 c.x, .int .i64 c.y]] w fun e w' => e = .returned (.int .i64 0) ∧ Below w.heap.size w w' := by
 have ca := zA2 a;rw [ha] at ca;have cb := zA2 b;rw [hb] at cb;clear ha hb
 go_enter Tryz.func59, Tryz.ntmps59
 go_wp2_with fail;refine zA1 fun W1 hW => ?_;obtain ⟨Ba, Bb, Bc, hw⟩ := N3 hW;clear hW;refine (ca _).mono ?_;rintro e w2 ⟨rfl, hb⟩;obtain ⟨Ba, Bb, Bc, hw, F_abc⟩ := X3 Ba Bb Bc hw hb;clear hb;go_wp2_with fail;refine (cb _).mono ?_;rintro e w3 ⟨rfl, hb⟩;clear F_abc;obtain ⟨Ba, Bb, Bc, hw, F_abc⟩ := X3 Ba Bb Bc hw hb;clear hb;go_wp2
 go_ret
 exact ⟨rfl, hw⟩
theorem rorient_2 (a b c : Pt) (ha : vld a = true) (hb : vld b = true) (hc : vld c = false) (w : World) :
    Calls Tryz.prog 59 #[.agg #[.int .i64 a.x, .int .i64 a.y], .agg #[.int .i64 b.x, .int .i64 b.y], .agg #[.int .i64 c.x, .int .i64 c.y]] w fun e w' => e = .returned (.int .i64 0) ∧ Below w.heap.size w w' := by
 have ca := zA2 a;rw [ha] at ca;have cb := zA2 b;rw [hb] at cb;have cc := zA2 c;rw [hc] at cc;clear ha hb hc
 go_enter Tryz.func59, Tryz.ntmps59
 go_wp2_with fail;refine zA1 fun W1 hW => ?_;obtain ⟨Ba, Bb, Bc, hw⟩ := N3 hW;clear hW;refine (ca _).mono ?_;rintro e w2 ⟨rfl, hb⟩;obtain ⟨Ba, Bb, Bc, hw, F_abc⟩ := X3 Ba Bb Bc hw hb;clear hb;go_wp2_with fail;refine (cb _).mono ?_;rintro e w3 ⟨rfl, hb⟩;clear F_abc;obtain ⟨Ba, Bb, Bc, hw, F_abc⟩ := X3 Ba Bb Bc hw hb;clear hb;go_wp2_with fail;refine (cc _).mono ?_;rintro e w4 ⟨rfl, hb⟩;clear F_abc;obtain ⟨Ba, Bb, Bc, hw, F_abc⟩ := X3 Ba Bb Bc hw hb;clear hb;go_wp2
 go_ret
 exact ⟨rfl, hw⟩
theorem rorient_3 (a b c : Pt) (ha : vld a = true) (hb : vld b = true) (hc : vld c = true) (w : World) :
    Calls Tryz.prog 59 #[.agg #[.int .i64 a.x, .int .i64 a.y], .agg #[.int .i64 b.x, .int .i64 b.y], .agg #[.int .i64 c.x, .int .i64 c.y]] w fun e w' => e = .returned (.int .i64 (sgn (det a b c))) ∧ Below w.heap.size w w' := by
 have ca := zA2 a;rw [ha] at ca;have cb := zA2 b;rw [hb] at cb;have cc := zA2 c;rw [hc] at cc;have ct := zCb a b c ha hb hc;generalize det a b c = D at *
 have cs := zCt (zHy D);clear ha hb hc
 go_enter Tryz.func59, Tryz.ntmps59
 go_wp2_with fail;refine zA1 fun W1 hW => ?_;obtain ⟨Ba, Bb, Bc, hw⟩ := N3 hW;clear hW;refine (ca _).mono ?_;rintro e w2 ⟨rfl, hb⟩;obtain ⟨Ba, Bb, Bc, hw, F_abc⟩ := X3 Ba Bb Bc hw hb;clear hb;go_wp2_with fail;refine (cb _).mono ?_;rintro e w3 ⟨rfl, hb⟩;clear F_abc;obtain ⟨Ba, Bb, Bc, hw, F_abc⟩ := X3 Ba Bb Bc hw hb;clear hb;go_wp2_with fail;refine (cc _).mono ?_;rintro e w4 ⟨rfl, hb⟩;clear F_abc;obtain ⟨Ba, Bb, Bc, hw, F_abc⟩ := X3 Ba Bb Bc hw hb;clear hb;go_wp2_with fail;refine (ct _).mono ?_;rintro e w5 ⟨rfl, hb⟩;clear F_abc;obtain ⟨Ba, Bb, Bc, hw, F_abc⟩ := X3 Ba Bb Bc hw hb;clear hb;go_wp2_with fail;refine (cs _).mono ?_;rintro e w6 ⟨rfl, hb⟩;clear F_abc;obtain ⟨Ba, Bb, Bc, hw, F_abc⟩ := X3 Ba Bb Bc hw hb;clear hb;go_wp2
 go_ret
 exact ⟨rfl, hw⟩
theorem zA4 (a b c : Pt) (w : World) :
    Calls Tryz.prog 59 #[.agg #[.int .i64 a.x, .int .i64 a.y], .agg #[.int .i64 b.x, .int .i64 b.y], .agg #[.int .i64 c.x, .int .i64 c.y]] w fun e w' => e = .returned (.int .i64 (ori a b c)) ∧ Below w.heap.size w w' := by
 cases ha : vld a with
 | false => rw [show ori a b c = 0 by simp [ori, ha]]; exact rorient_0 a b c ha w
 | true => cases hb : vld b with
  | false => rw [show ori a b c = 0 by simp [ori, hb]]; exact rorient_1 a b c ha hb w
  | true => cases hc : vld c with
   | false => rw [show ori a b c = 0 by simp [ori, hc]]; exact rorient_2 a b c ha hb hc w
   | true => rw [show ori a b c = sgn (det a b c) by simp [ori, ha, hb, hc]]; exact rorient_3 a b c ha hb hc w
def btw (n a b : Int) : Bool := decide (min a b ≤ n ∧ n ≤ max a b)
theorem zK7 (n a b : Int) (w : World) :
    Calls Tryz.prog 180 #[.int .i64 n, .int .i64 a, .int .i64 b] w fun e w' => e = .returned (.bool (btw n a b)) ∧ w = w' := by
 go_enter Tryz.func180, Tryz.ntmps180
 go_wp2;all_goals go_ret
 all_goals exact ⟨zCu (by unfold btw; rw [Bool.eq_iff_iff]; simp; omega), rfl⟩
def onR (p a b : Pt) : Bool := vld p && (vld a && (vld b && (decide (det a b p = 0) && (btw p.x a.x b.x && btw p.y a.y b.y))))
theorem ron_0 (p a b : Pt) (hp : vld p = false) (w : World) :
    Calls Tryz.prog 142 #[.agg #[.int .i64 p.x, .int .i64 p.y], .agg #[.int .i64 a.x, .int .i64 a.y], .agg #[.int .i64 b.x, .int .i64 b.y]] w fun e w' => e = .returned (.bool false) ∧ Below w.heap.size w w' := by
 have cp := zA2 p;rw [hp] at cp;clear hp
 go_enter Tryz.func142, Tryz.ntmps142
 go_wp2_with fail;refine zA1 fun W1 hW => ?_;obtain ⟨Bp, Ba, Bb, hw⟩ := N3 hW;clear hW;refine (cp _).mono ?_;rintro e w2 ⟨rfl, hb⟩;obtain ⟨Bp, Ba, Bb, hw, F_pab⟩ := X3 Bp Ba Bb hw hb;clear hb;go_wp2
 go_ret
 exact ⟨rfl, hw⟩
theorem ron_1 (p a b : Pt) (hp : vld p = true) (ha : vld a = false) (w : World) :
    Calls Tryz.prog 142 #[.agg #[.int .i64 p.x, .int .i64 p.y], .agg #[.int .i64 a.x, .int .i64 a.y], .agg #[.int .i64 b.x, .int .i64 b.y]] w fun e w' => e = .returned (.bool false) ∧ Below w.heap.size w w' := by
 have cp := zA2 p;rw [hp] at cp;have ca := zA2 a;rw [ha] at ca;clear hp ha
 go_enter Tryz.func142, Tryz.ntmps142
 go_wp2_with fail;refine zA1 fun W1 hW => ?_;obtain ⟨Bp, Ba, Bb, hw⟩ := N3 hW;clear hW;refine (cp _).mono ?_;rintro e w2 ⟨rfl, hb⟩;obtain ⟨Bp, Ba, Bb, hw, F_pab⟩ := X3 Bp Ba Bb hw hb;clear hb;go_wp2_with fail;refine (ca _).mono ?_;rintro e w3 ⟨rfl, hb⟩;clear F_pab;obtain ⟨Bp, Ba, Bb, hw, F_pab⟩ := X3 Bp Ba Bb hw hb;clear hb;go_wp2
 go_ret
 exact ⟨rfl, hw⟩
theorem ron_2 (p a b : Pt) (hp : vld p = true) (ha : vld a = true) (hb : vld b = false) (w : World) :
    Calls Tryz.prog 142 #[.agg #[.int .i64 p.x, .int .i64 p.y], .agg #[.int .i64 a.x, .int .i64 a.y], .agg #[.int .i64 b.x, .int .i64 b.y]] w fun e w' => e = .returned (.bool false) ∧ Below w.heap.size w w' := by
 have cp := zA2 p;rw [hp] at cp;have ca := zA2 a;rw [ha] at ca;have cb := zA2 b;rw [hb] at cb;clear hp ha hb
 go_enter Tryz.func142, Tryz.ntmps142
 go_wp2_with fail;refine zA1 fun W1 hW => ?_;obtain ⟨Bp, Ba, Bb, hw⟩ := N3 hW;clear hW;refine (cp _).mono ?_;rintro e w2 ⟨rfl, hb⟩;obtain ⟨Bp, Ba, Bb, hw, F_pab⟩ := X3 Bp Ba Bb hw hb;clear hb;go_wp2_with fail;refine (ca _).mono ?_;rintro e w3 ⟨rfl, hb⟩;clear F_pab;obtain ⟨Bp, Ba, Bb, hw, F_pab⟩ := X3 Bp Ba Bb hw hb;clear hb;go_wp2_with fail;refine (cb _).mono ?_;rintro e w4 ⟨rfl, hb⟩;clear F_pab;obtain ⟨Bp, Ba, Bb, hw, F_pab⟩ := X3 Bp Ba Bb hw hb;clear hb;go_wp2
 go_ret
 exact ⟨rfl, hw⟩
theorem ron_3 (p a b : Pt) (hp : vld p = true) (ha : vld a = true) (hb : vld b = true) (h0 : ¬ det a b p = 0) (w : World) :
    Calls Tryz.prog 142 #[.agg #[.int .i64 p.x, .int .i64 p.y], .agg #[.int .i64 a.x, .int .i64 a.y], .agg #[.int .i64 b.x, .int .i64 b.y]] w fun e w' => e = .returned (.bool false) ∧ Below w.heap.size w w' := by
 have cp := zA2 p;rw [hp] at cp;have ca := zA2 a;rw [ha] at ca;have cb := zA2 b;rw [hb] at cb;have ct := zCb a b p ha hb hp;clear ha hb hp;generalize det a b p = D at *
 have t0 : (D == 0) = false := by simpa using h0
 clear h0
 go_enter Tryz.func142, Tryz.ntmps142
 go_wp2_with fail;refine zA1 fun W1 hW => ?_;obtain ⟨Bp, Ba, Bb, hw⟩ := N3 hW;clear hW;refine (cp _).mono ?_;rintro e w2 ⟨rfl, hb⟩;obtain ⟨Bp, Ba, Bb, hw, F_pab⟩ := X3 Bp Ba Bb hw hb;clear hb;go_wp2_with fail;refine (ca _).mono ?_;rintro e w3 ⟨rfl, hb⟩;clear F_pab;obtain ⟨Bp, Ba, Bb, hw, F_pab⟩ := X3 Bp Ba Bb hw hb;clear hb;go_wp2_with fail;refine (cb _).mono ?_;rintro e w4 ⟨rfl, hb⟩;clear F_pab;obtain ⟨Bp, Ba, Bb, hw, F_pab⟩ := X3 Bp Ba Bb hw hb;clear hb;go_wp2_with fail;refine (ct _).mono ?_;rintro e w5 ⟨rfl, hb⟩;clear F_pab;obtain ⟨Bp, Ba, Bb, hw, F_pab⟩ := X3 Bp Ba Bb hw hb;clear hb;go_wp2
 go_ret
 exact ⟨rfl, hw⟩
theorem ron_4 (p a b : Pt) (hp : vld p = true) (ha : vld a = true) (hb : vld b = true) (h0 : det a b p = 0) (h1 : btw p.x a.x b.x = false) (w : World) :
    Calls Tryz.prog 142 #[.agg #[.int .i64 p.x, .int .i64 p.y], .agg #[.int .i64 a.x, .int .i64 a.y], .agg #[.int .i64 b.x, .int .i64 b.y]] w fun e w' => e = .returned (.bool false) ∧ Below w.heap.size w w' := by
 have cp := zA2 p;rw [hp] at cp;have ca := zA2 a;rw [ha] at ca;have cb := zA2 b;rw [hb] at cb;have ct := zCb a b p ha hb hp;clear ha hb hp;rw [h0] at ct;clear h0;have k1 := zCt (zK7 p.x a.x b.x);rw [h1] at k1;clear h1
 go_enter Tryz.func142, Tryz.ntmps142
 go_wp2_with fail;refine zA1 fun W1 hW => ?_;obtain ⟨Bp, Ba, Bb, hw⟩ := N3 hW;clear hW;refine (cp _).mono ?_;rintro e w2 ⟨rfl, hb⟩;obtain ⟨Bp, Ba, Bb, hw, F_pab⟩ := X3 Bp Ba Bb hw hb;clear hb;go_wp2_with fail;refine (ca _).mono ?_;rintro e w3 ⟨rfl, hb⟩;clear F_pab;obtain ⟨Bp, Ba, Bb, hw, F_pab⟩ := X3 Bp Ba Bb hw hb;clear hb;go_wp2_with fail;refine (cb _).mono ?_;rintro e w4 ⟨rfl, hb⟩;clear F_pab;obtain ⟨Bp, Ba, Bb, hw, F_pab⟩ := X3 Bp Ba Bb hw hb;clear hb;go_wp2_with fail;refine (ct _).mono ?_;rintro e w5 ⟨rfl, hb⟩;clear F_pab;obtain ⟨Bp, Ba, Bb, hw, F_pab⟩ := X3 Bp Ba Bb hw hb;clear hb;go_wp2_with fail;refine (k1 _).mono ?_;rintro e w6 ⟨rfl, hb⟩;clear F_pab;obtain ⟨Bp, Ba, Bb, hw, F_pab⟩ := X3 Bp Ba Bb hw hb;clear hb;go_wp2
 go_ret
 exact ⟨rfl, hw⟩
theorem ron_5 (p a b : Pt) (hp : vld p = true) (ha : vld a = true) (hb : vld b = true) (h0 : det a b p = 0) (h1 : btw p.x a.x b.x = true) (w : World) :
    Calls Tryz.prog 142 #[.agg #[.int .i64 p.x, .int .i64 p.y], .agg #[.int .i64 a.x, .int .i64 a.y], .agg #[.int .i64 b.x, .int .i64 b.y]] w fun e w' => e = .returned (.bool (btw p.y a.y b.y)) ∧ Below w.heap.size w w' := by
 have cp := zA2 p;rw [hp] at cp;have ca := zA2 a;rw [ha] at ca;have cb := zA2 b;rw [hb] at cb;have ct := zCb a b p ha hb hp;clear ha hb hp;rw [h0] at ct;clear h0;have k1 := zCt (zK7 p.x a.x b.x);rw [h1] at k1;clear h1;have k2 := zCt (zK7 p.y a.y b.y);generalize btw p.y a.y b.y = B at *
 go_enter Tryz.func142, Tryz.ntmps142
 go_wp2_with fail;refine zA1 fun W1 hW => ?_;obtain ⟨Bp, Ba, Bb, hw⟩ := N3 hW;clear hW;refine (cp _).mono ?_;rintro e w2 ⟨rfl, hb⟩;obtain ⟨Bp, Ba, Bb, hw, F_pab⟩ := X3 Bp Ba Bb hw hb;clear hb;go_wp2_with fail;refine (ca _).mono ?_;rintro e w3 ⟨rfl, hb⟩;clear F_pab;obtain ⟨Bp, Ba, Bb, hw, F_pab⟩ := X3 Bp Ba Bb hw hb;clear hb;go_wp2_with fail;refine (cb _).mono ?_;rintro e w4 ⟨rfl, hb⟩;clear F_pab;obtain ⟨Bp, Ba, Bb, hw, F_pab⟩ := X3 Bp Ba Bb hw hb;clear hb;go_wp2_with fail;refine (ct _).mono ?_;rintro e w5 ⟨rfl, hb⟩;clear F_pab;obtain ⟨Bp, Ba, Bb, hw, F_pab⟩ := X3 Bp Ba Bb hw hb;clear hb;go_wp2_with fail;refine (k1 _).mono ?_;rintro e w6 ⟨rfl, hb⟩;clear F_pab;obtain ⟨Bp, Ba, Bb, hw, F_pab⟩ := X3 Bp Ba Bb hw hb;clear hb;go_wp2_with fail;refine (k2 _).mono ?_;rintro e w7 ⟨rfl, hb⟩;clear F_pab;obtain ⟨Bp, Ba, Bb, hw, F_pab⟩ := X3 Bp Ba Bb hw hb;clear hb;go_wp2
 go_ret
 exact ⟨rfl, hw⟩
theorem zFe (p a b : Pt) (w : World) :
    Calls Tryz.prog 142 #[.agg #[.int .i64 p.x, .int .i64 p.y], .agg #[.int .i64 a.x, .int .i64 a.y], .agg #[.int .i64 b.x, .int .i64 b.y]] w fun e w' => e = .returned (.bool (onR p a b)) ∧ Below w.heap.size w w' := by
 cases hp : vld p with
 | false => rw [show onR p a b = false by unfold onR; rw [hp]; rfl]; exact ron_0 p a b hp w
 | true => cases ha : vld a with
  | false => rw [show onR p a b = false by unfold onR; rw [hp, ha]; rfl]; exact ron_1 p a b hp ha w
  | true => cases hb : vld b with
   | false => rw [show onR p a b = false by unfold onR; rw [hp, ha, hb]; rfl]; exact ron_2 p a b hp ha hb w
   | true =>
    by_cases h0 : det a b p = 0
    ·cases h1 : btw p.x a.x b.x with
     | false => rw [show onR p a b = false by unfold onR; rw [hp, ha, hb, h0, h1]; rfl]; exact ron_4 p a b hp ha hb h0 h1 w
     | true => rw [show onR p a b = btw p.y a.y b.y by unfold onR; rw [hp, ha, hb, h0, h1]; rfl]; exact ron_5 p a b hp ha hb h0 h1 w
    ·rw [show onR p a b = false by unfold onR; rw [hp, ha, hb]; simp [h0]]; exact ron_3 p a b hp ha hb h0 w
def rl (p q : Pt) : Pt := if cmpP p q < 0 then p else q
theorem rl_0 (p q : Pt) (h : decide (cmpP p q < 0) = false) (w : World) :
    Calls Tryz.prog 108 #[.agg #[.int .i64 p.x, .int .i64 p.y], .agg #[.int .i64 q.x, .int .i64 q.y]] w fun e w' => e = .returned (.agg #[.int .i64 q.x, .int .i64 q.y]) ∧ Below w.heap.size w w' := by
 have c := zAb p q;generalize cmpP p q = n at *
 go_enter Tryz.func108, Tryz.ntmps108
 go_wp2_with fail;refine zA1 fun W1 hW => ?_;obtain ⟨Bp, Bq, Br, hw⟩ := N3 hW;clear hW;refine (c _).mono ?_;rintro e w2 ⟨rfl, hb⟩;obtain ⟨Bp, Bq, Br, hw, -⟩ := X3 Bp Bq Br hw hb;clear hb;have Fp := Bp.f;have Fq := Bq.f;have Fr := Br.f;go_wp2_with fail;refine bodyPost_ret (v := .agg #[.int .i64 q.x, .int .i64 q.y]) (by simp [results, Tryz.results108, go_sem, Fr]) rfl ⟨rfl, by have hl := hw.size; go_grown⟩
theorem rl_1 (p q : Pt) (h : decide (cmpP p q < 0) = true) (w : World) :
    Calls Tryz.prog 108 #[.agg #[.int .i64 p.x, .int .i64 p.y], .agg #[.int .i64 q.x, .int .i64 q.y]] w fun e w' => e = .returned (.agg #[.int .i64 p.x, .int .i64 p.y]) ∧ Below w.heap.size w w' := by
 have c := zAb p q;generalize cmpP p q = n at *
 go_enter Tryz.func108, Tryz.ntmps108
 go_wp2_with fail;refine zA1 fun W1 hW => ?_;obtain ⟨Bp, Bq, Br, hw⟩ := N3 hW;clear hW;refine (c _).mono ?_;rintro e w2 ⟨rfl, hb⟩;obtain ⟨Bp, Bq, Br, hw, -⟩ := X3 Bp Bq Br hw hb;clear hb;have Fp := Bp.f;have Fq := Bq.f;have Fr := Br.f;go_wp2_with fail;refine bodyPost_ret (v := .agg #[.int .i64 p.x, .int .i64 p.y]) (by simp [results, Tryz.results108, go_sem, Fr]) rfl ⟨rfl, by have hl := hw.size; go_grown⟩
theorem zF5 (p q : Pt) (w : World) :
    Calls Tryz.prog 108 #[.agg #[.int .i64 p.x, .int .i64 p.y], .agg #[.int .i64 q.x, .int .i64 q.y]] w fun e w' => e = .returned (.agg #[.int .i64 (rl p q).x, .int .i64 (rl p q).y]) ∧ Below w.heap.size w w' := by
 by_cases h : cmpP p q < 0
 ·rw [show rl p q = p by unfold rl; rw [if_pos h]]; exact rl_1 p q (by simpa using h) w
 ·rw [show rl p q = q by unfold rl; rw [if_neg h]]; exact rl_0 p q (by simpa using h) w
def rg (p q : Pt) : Pt := if cmpP p q < 0 then q else p
theorem rg_0 (p q : Pt) (h : decide (cmpP p q < 0) = false) (w : World) :
    Calls Tryz.prog 109 #[.agg #[.int .i64 p.x, .int .i64 p.y], .agg #[.int .i64 q.x, .int .i64 q.y]] w fun e w' => e = .returned (.agg #[.int .i64 p.x, .int .i64 p.y]) ∧ Below w.heap.size w w' := by
 have c := zAb p q;generalize cmpP p q = n at *
 go_enter Tryz.func109, Tryz.ntmps109
 go_wp2_with fail;refine zA1 fun W1 hW => ?_;obtain ⟨Bp, Bq, Br, hw⟩ := N3 hW;clear hW;refine (c _).mono ?_;rintro e w2 ⟨rfl, hb⟩;obtain ⟨Bp, Bq, Br, hw, -⟩ := X3 Bp Bq Br hw hb;clear hb;have Fp := Bp.f;have Fq := Bq.f;have Fr := Br.f;go_wp2_with fail;refine bodyPost_ret (v := .agg #[.int .i64 p.x, .int .i64 p.y]) (by simp [results, Tryz.results109, go_sem, Fr]) rfl ⟨rfl, by have hl := hw.size; go_grown⟩
theorem rg_1 (p q : Pt) (h : decide (cmpP p q < 0) = true) (w : World) :
    Calls Tryz.prog 109 #[.agg #[.int .i64 p.x, .int .i64 p.y], .agg #[.int .i64 q.x, .int .i64 q.y]] w fun e w' => e = .returned (.agg #[.int .i64 q.x, .int .i64 q.y]) ∧ Below w.heap.size w w' := by
 have c := zAb p q;generalize cmpP p q = n at *
 go_enter Tryz.func109, Tryz.ntmps109
 go_wp2_with fail;refine zA1 fun W1 hW => ?_;obtain ⟨Bp, Bq, Br, hw⟩ := N3 hW;clear hW;refine (c _).mono ?_;rintro e w2 ⟨rfl, hb⟩;obtain ⟨Bp, Bq, Br, hw, -⟩ := X3 Bp Bq Br hw hb;clear hb;have Fp := Bp.f;have Fq := Bq.f;have Fr := Br.f;go_wp2_with fail;refine bodyPost_ret (v := .agg #[.int .i64 q.x, .int .i64 q.y]) (by simp [results, Tryz.results109, go_sem, Fr]) rfl ⟨rfl, by have hl := hw.size; go_grown⟩
theorem zF6 (p q : Pt) (w : World) :
    Calls Tryz.prog 109 #[.agg #[.int .i64 p.x, .int .i64 p.y], .agg #[.int .i64 q.x, .int .i64 q.y]] w fun e w' => e = .returned (.agg #[.int .i64 (rg p q).x, .int .i64 (rg p q).y]) ∧ Below w.heap.size w w' := by
 by_cases h : cmpP p q < 0
 ·rw [show rg p q = q by unfold rg; rw [if_pos h]]; exact rg_1 p q (by simpa using h) w
 ·rw [show rg p q = p by unfold rg; rw [if_neg h]]; exact rg_0 p q (by simpa using h) w
def tch (p a b : Pt) : Int := if onR p a b = false then 0 else if peqI p.x p.y a.x a.y = true then 0 else if peqI p.x p.y b.x b.y = true then 0 else 2
theorem tch_0 (p a b : Pt) (h : onR p a b = false) (w : World) :
    Calls Tryz.prog 204 #[.agg #[.int .i64 p.x, .int .i64 p.y], .agg #[.int .i64 a.x, .int .i64 a.y], .agg #[.int .i64 b.x, .int .i64 b.y]] w fun e w' => e = .returned (.int .i64 0) ∧ Below w.heap.size w w' := by
 have c := zFe p a b;rw [h] at c;clear h
 go_enter Tryz.func204, Tryz.ntmps204
 go_wp2_with fail;refine zA1 fun W1 hW => ?_;obtain ⟨Bp, Ba, Bb, hw⟩ := N3 hW;clear hW;refine (c _).mono ?_;rintro e w2 ⟨rfl, hb⟩;obtain ⟨Bp, Ba, Bb, hw, F_pab⟩ := X3 Bp Ba Bb hw hb;clear hb;go_wp2
 go_ret
 exact ⟨rfl, hw⟩
theorem tch_1 (p a b : Pt) (h : onR p a b = true) (e1 : peqI p.x p.y a.x a.y = true) (w : World) :
    Calls Tryz.prog 204 #[.agg #[.int .i64 p.x, .int .i64 p.y], .agg #[.int .i64 a.x, .int .i64 a.y], .agg #[.int .i64 b.x, .int .i64 b.y]] w fun e w' => e = .returned (.int .i64 0) ∧ Below w.heap.size w w' := by
 have c := zFe p a b;rw [h] at c;clear h
 go_enter Tryz.func204, Tryz.ntmps204
 go_wp2_with fail;refine zA1 fun W1 hW => ?_;obtain ⟨Bp, Ba, Bb, hw⟩ := N3 hW;clear hW;refine (c _).mono ?_;rintro e w2 ⟨rfl, hb⟩;obtain ⟨Bp, Ba, Bb, hw, F_pab⟩ := X3 Bp Ba Bb hw hb;clear hb;go_wp2
 go_ret
 exact ⟨rfl, hw⟩
theorem tch_2 (p a b : Pt) (h : onR p a b = true) (e1 : peqI p.x p.y a.x a.y = false) (e2 : peqI p.x p.y b.x b.y = true) (w : World) :
    Calls Tryz.prog 204 #[.agg #[.int .i64 p.x, .int .i64 p.y], .agg #[.int .i64 a.x, .int .i64 a.y], .agg #[.int .i64 b.x, .int .i64 b.y]] w fun e w' => e = .returned (.int .i64 0) ∧ Below w.heap.size w w' := by
 have c := zFe p a b;rw [h] at c;clear h
 go_enter Tryz.func204, Tryz.ntmps204
 go_wp2_with fail;refine zA1 fun W1 hW => ?_;obtain ⟨Bp, Ba, Bb, hw⟩ := N3 hW;clear hW;refine (c _).mono ?_;rintro e w2 ⟨rfl, hb⟩;obtain ⟨Bp, Ba, Bb, hw, F_pab⟩ := X3 Bp Ba Bb hw hb;clear hb;go_wp2
 go_ret
 exact ⟨rfl, hw⟩
theorem tch_3 (p a b : Pt) (h : onR p a b = true) (e1 : peqI p.x p.y a.x a.y = false) (e2 : peqI p.x p.y b.x b.y = false) (w : World) :
    Calls Tryz.prog 204 #[.agg #[.int .i64 p.x, .int .i64 p.y], .agg #[.int .i64 a.x, .int .i64 a.y], .agg #[.int .i64 b.x, .int .i64 b.y]] w fun e w' => e = .returned (.int .i64 2) ∧ Below w.heap.size w w' := by
 have c := zFe p a b;rw [h] at c;clear h
 go_enter Tryz.func204, Tryz.ntmps204
 go_wp2_with fail;refine zA1 fun W1 hW => ?_;obtain ⟨Bp, Ba, Bb, hw⟩ := N3 hW;clear hW;refine (c _).mono ?_;rintro e w2 ⟨rfl, hb⟩;obtain ⟨Bp, Ba, Bb, hw, F_pab⟩ := X3 Bp Ba Bb hw hb;clear hb;go_wp2
 go_ret
 exact ⟨rfl, hw⟩
theorem zCo (p a b : Pt) (w : World) :
    Calls Tryz.prog 204 #[.agg #[.int .i64 p.x, .int .i64 p.y], .agg #[.int .i64 a.x, .int .i64 a.y], .agg #[.int .i64 b.x, .int .i64 b.y]] w fun e w' => e = .returned (.int .i64 (tch p a b)) ∧ Below w.heap.size w w' := by
 cases h : onR p a b with
 | false => rw [show tch p a b = 0 by unfold tch; rw [if_pos h]]; exact tch_0 p a b h w
 | true =>
  cases e1 : peqI p.x p.y a.x a.y with
  | true => rw [show tch p a b = 0 by unfold tch; simp [h, e1]]; exact tch_1 p a b h e1 w
  | false => cases e2 : peqI p.x p.y b.x b.y with
   | true => rw [show tch p a b = 0 by unfold tch; simp [h, e1, e2]]; exact tch_2 p a b h e1 e2 w
   | false => rw [show tch p a b = 2 by unfold tch; simp [h, e1, e2]]; exact tch_3 p a b h e1 e2 w
end Go.Proofs.YtmobnmjjmafibaaGreat
namespace Go.Proofs.YtmobnmjjmafibaaGreat
open Go.RowKit
theorem zJd (n : Int) : sgn (-n) = -sgn n := by unfold sgn; (repeat' split) <;> omega
theorem zBu {n : Int} : sgn n = 0 ↔ n = 0 := by unfold sgn; (repeat' split) <;> omega
theorem sgn_pos {n : Int} : sgn n = 1 ↔ 0 < n := by unfold sgn; (repeat' split) <;> omega
theorem zAj (n : Int) : sgn n = -1 ∧ n < 0 ∨ sgn n = 0 ∧ n = 0 ∨ sgn n = 1 ∧ 0 < n := by unfold sgn; (repeat' split) <;> omega
theorem ori_v {a b c : Pt} (ha : vld a = true) (hb : vld b = true) (hc : vld c = true) : ori a b c = sgn (det a b c) := by unfold ori; rw [if_pos ⟨ha, hb, hc⟩]
theorem zAl (a b c : Pt) : det b c a = det a b c := by unfold det; grind
theorem zC8 (a b c : Pt) : det b a c = -det a b c := by unfold det; grind
theorem zBs (a b c : Pt) : ori b c a = ori a b c := by
 unfold ori; rw [zAl];by_cases h : vld a = true ∧ vld b = true ∧ vld c = true
 ·rw [if_pos h, if_pos ⟨h.2.1, h.2.2, h.1⟩]
 ·rw [if_neg h, if_neg (fun k => h ⟨k.2.2, k.1, k.2.1⟩)]
theorem zCx (a b c : Pt) : ori b a c = -ori a b c := by
 unfold ori; rw [zC8, zJd];by_cases h : vld a = true ∧ vld b = true ∧ vld c = true
 ·rw [if_pos h, if_pos ⟨h.2.1, h.1, h.2.2⟩]
 ·rw [if_neg h, if_neg (fun k => h ⟨k.2.1, k.1, k.2.2⟩)]; rfl
theorem zGc (a b c : Pt) : ori a c b = -ori a b c := by
 rw [← zBs a c b, zCx b c a, zBs a b c]
theorem zEt (a b c d : Pt) : lft b c a d = lft a b c d := by unfold lft; omega
theorem lft_swap (a b c d : Pt) : lft b a c d = -lft a b c d := by unfold lft ht cr; grind
theorem lft_last (a b c d : Pt) : lft a b d c = -lft a b c d := by unfold lft ht cr way; grind
def key (p : Pt) : Int := p.x * 16777216 + p.y
theorem zDg {p q : Pt} (hp : vld p = true) (hq : vld q = true) : cmpP p q = sgn (key p - key q) := by
 rw [zAv] at hp hq;unfold cmpP cmpN key;unfold sgn
 (repeat' split) <;> omega
theorem zBx {p q : Pt} (hp : vld p = true) (hq : vld q = true) (h : key p = key q) : p = q := by
 rw [zAv] at hp hq;rw [Pt.eq_iff];unfold key at h; omega
theorem zCr {p m : Pt} (hp : vld p = true) (hm : vld m = true) : vld (lsr p m) = true := by unfold lsr; split <;> assumption
theorem zFm {p m : Pt} (hp : vld p = true) (hm : vld m = true) : key (lsr p m) = min (key p) (key m) := by
 unfold lsr;rw [zDg hp hm];have := zAj (key p - key m);split <;> omega
theorem zDn {p q : Pt} : peqI p.x p.y q.x q.y = true ↔ p = q := by rw [zC2, Pt.eq_iff]
theorem zBr {p q : Pt} : peqI p.x p.y q.x q.y = false ↔ p ≠ q := by rw [← Bool.not_eq_true, zDn]
theorem pp {p q : Pt} (h : p = q) : peqI p.x p.y q.x q.y = true := zDn.2 h
theorem np {p q : Pt} (h : ¬ p = q) : ¬ peqI p.x p.y q.x q.y = true := fun k => h (zDn.1 k)
theorem zL1 (p m : Pt) : lsr p m = p ∨ lsr p m = m := by unfold lsr; split <;> simp
theorem zJn (a b c d : Pt) : min4 a b c d = a ∨ min4 a b c d = b ∨ min4 a b c d = c ∨ min4 a b c d = d := by
 unfold min4;rcases zL1 d (lsr c (lsr b a)) with h | h <;> rw [h]
 ·simp
 rcases zL1 c (lsr b a) with h | h <;> rw [h]
 ·simp
 rcases zL1 b a with h | h <;> rw [h] <;> simp
section
variable {a b c d : Pt} (ha : vld a = true) (hb : vld b = true) (hc : vld c = true) (hd : vld d = true)
include ha hb hc hd
theorem zDd : vld (min4 a b c d) = true := zCr hd (zCr hc (zCr hb ha))
theorem zCy : key (min4 a b c d) = min (key d) (min (key c) (min (key b) (key a))) := by
 unfold min4; rw [zFm hd (zCr hc (zCr hb ha)), zFm hc (zCr hb ha), zFm hb ha]
theorem min4_r : lsr c (lsr b (lsr a d)) = min4 a b c d := by
 refine zBx (zCr hc (zCr hb (zCr ha hd))) (zDd ha hb hc hd) ?_;rw [zCy ha hb hc hd, zFm hc (zCr hb (zCr ha hd)), zFm hb (zCr ha hd), zFm ha hd];omega
theorem min4_swap : min4 b a c d = min4 a b c d := by
 refine zBx (zDd hb ha hc hd) (zDd ha hb hc hd) ?_;rw [zCy ha hb hc hd, zCy hb ha hc hd]; omega
theorem min4_cyc : min4 b c a d = min4 a b c d := by
 refine zBx (zDd hb hc ha hd) (zDd ha hb hc hd) ?_;rw [zCy ha hb hc hd, zCy hb hc ha hd]; omega
theorem min4_last : min4 a b d c = min4 a b c d := by
 refine zBx (zDd ha hb hd hc) (zDd ha hb hc hd) ?_;rw [zCy ha hb hc hd, zCy ha hb hd hc]; omega
end
theorem zBp {a b c d : Pt} (h0 : ¬ ori a b c = 0) (hv : vld d = true) (e1 : d ≠ a) (e2 : d ≠ b) (e3 : d ≠ c) :
    circ a b c d = if ¬ sgn (lft a b c d) = 0 then sgn (lft a b c d) else tie a b c d (min4 a b c d) (ori a b c) := by
 unfold circ;rw [if_neg h0, if_neg (by rw [hv]; simp), if_neg (np e1), if_neg (np e2), if_neg (np e3)]
theorem zAe {a b c d : Pt} (h : ori a b c = 0 ∨ vld d = false ∨ d = a ∨ d = b ∨ d = c) : circ a b c d = 0 := by
 unfold circ;rcases h with h | h | h | h | h
 ·rw [if_pos h]
 ·simp [h]
 all_goals (have k := pp h; simp [k])
theorem zBd {a b c : Pt} (h : ¬ ori a b c = 0) : b ≠ a ∧ c ≠ a ∧ c ≠ b := by
 refine ⟨?_, ?_, ?_⟩;all_goals (rintro rfl; apply h; unfold ori; split)
 all_goals first | rfl | (rw [zBu]; unfold det; grind)
theorem tie_swap {a b c d m : Pt} {o : Int} (n1 : b ≠ a) : tie b a c d m (-o) = -tie a b c d m o := by
 unfold tie;by_cases h1 : m = d
 ·rw [if_pos (pp h1), if_pos (pp h1)]
 rw [if_neg (np h1), if_neg (np h1)];by_cases h2 : m = a
 ·have h3 : ¬ m = b := by rw [h2]; exact n1.symm
  rw [if_neg (np h3), if_pos (pp h2), if_pos (pp h2)];rw [zCx d b c]
 ·rw [if_neg (np h2) (c := peqI m.x m.y a.x a.y = true) (e := if peqI m.x m.y b.x b.y = true then -ori a d c else -ori a b d)];by_cases h3 : m = b
  ·rw [if_pos (pp h3), if_pos (pp h3), zCx a d c]
  ·rw [if_neg (np h3), if_neg (np h2), if_neg (np h3), zCx a b d]
theorem tie_cyc {a b c d m : Pt} {o : Int} (hm : m = a ∨ m = b ∨ m = c ∨ m = d) (n1 : b ≠ a) (n2 : c ≠ a) (n3 : c ≠ b) : tie b c a d m o = tie a b c d m o := by
 unfold tie;by_cases h1 : m = d
 ·rw [if_pos (pp h1), if_pos (pp h1)]
 rw [if_neg (np h1), if_neg (np h1)];rcases hm with h | h | h | h
 ·subst h; rw [if_neg (np n1.symm), if_neg (np n2.symm), if_pos (pp rfl)];rw [← zBs d b c]
 ·subst h; rw [if_pos (pp rfl), if_neg (np n1), if_pos (pp rfl)];rw [zBs a d c]
 ·subst h; rw [if_neg (np n3), if_pos (pp rfl), if_neg (np n2), if_neg (np n3)];rw [zBs a b d]
 ·exact absurd h h1
theorem zIv (a b c d : Pt) : circ b a c d = -circ a b c d := by
 by_cases h0 : ori a b c = 0
 ·rw [zAe (.inl h0), zAe (.inl (by rw [zCx, h0]; rfl))]; rfl
 cases hv : vld d with
 | false => rw [zAe (.inr (.inl hv)), zAe (.inr (.inl hv))]; rfl
 | true =>
 by_cases e1 : d = a
 ·rw [zAe (.inr (.inr (.inl e1))), zAe (.inr (.inr (.inr (.inl e1))))]; rfl
 by_cases e2 : d = b
 ·rw [zAe (.inr (.inr (.inl e2))), zAe (.inr (.inr (.inr (.inl e2))))]; rfl
 by_cases e3 : d = c
 ·rw [zAe (.inr (.inr (.inr (.inr e3)))), zAe (.inr (.inr (.inr (.inr e3))))]; rfl
 obtain ⟨va, vb, vc⟩ := zCq h0;obtain ⟨n1, n2, n3⟩ := zBd h0;rw [zBp h0 hv e1 e2 e3, zBp (by rw [zCx]; omega) hv e2 e1 e3, lft_swap, zJd, min4_swap va vb vc hv, zCx, tie_swap n1];split <;> split <;> omega
theorem zGp (a b c d : Pt) : circ b c a d = circ a b c d := by
 by_cases h0 : ori a b c = 0
 ·rw [zAe (.inl h0), zAe (.inl (by rw [zBs, h0]))]
 cases hv : vld d with
 | false => rw [zAe (.inr (.inl hv)), zAe (.inr (.inl hv))]
 | true =>
 by_cases e1 : d = a
 ·rw [zAe (.inr (.inr (.inl e1))), zAe (.inr (.inr (.inr (.inr e1))))]
 by_cases e2 : d = b
 ·rw [zAe (.inr (.inr (.inl e2))), zAe (.inr (.inr (.inr (.inl e2))))]
 by_cases e3 : d = c
 ·rw [zAe (.inr (.inr (.inr (.inl e3)))), zAe (.inr (.inr (.inr (.inr e3))))]
 obtain ⟨va, vb, vc⟩ := zCq h0;obtain ⟨n1, n2, n3⟩ := zBd h0;rw [zBp h0 hv e1 e2 e3, zBp (by rw [zBs]; omega) hv e2 e3 e1, zEt, min4_cyc va vb vc hv, zBs, tie_cyc (zJn a b c d) n1 n2 n3]
theorem zDz {a b c d : Pt} (hl : lft a b c d = 0) (h0 : det a b c ≠ 0) (e2 : d ≠ b) (e3 : d ≠ c) : det d b c ≠ 0 := by
 intro hd;have e0 : det a b c = cr (way d b) (way d c) + cr (way d c) (way d a) + cr (way d a) (way d b) := by unfold det cr way; grind
 have ed : det d b c = cr (way d b) (way d c) := by unfold det cr way; grind
 have n2 : way d b ≠ ⟨0, 0⟩ := fun h => e2 (by rw [Pt.eq_iff] at h ⊢; unfold way at h; simp only at h; omega);have n3 : way d c ≠ ⟨0, 0⟩ := fun h => e3 (by rw [Pt.eq_iff] at h ⊢; unfold way at h; simp only at h; omega);rw [ed] at hd;rw [e0] at h0;unfold lft at hl;generalize way d a = u at *
 generalize way d b = v at *
 generalize way d c = z at *
 have i1 : ht u * cr v z + ht v * cr z u + ht z * cr u v = ht u * cr v z + (v.x * z.x + v.y * z.y) * (cr v u + cr u z) - cr v z * (v.x * u.x + v.y * u.y + z.x * u.x + z.y * u.y) := by unfold ht cr; grind
 have i2 : cr v u + cr u z = -(cr z u + cr u v) := by unfold cr; grind
 have i3 : ht v * ht z = (v.x * z.x + v.y * z.y) * (v.x * z.x + v.y * z.y) + cr v z * cr v z := by unfold ht cr; grind
 rw [hl, i2, hd] at i1;simp only [Int.mul_zero, Int.zero_mul, Int.zero_add, Int.sub_zero] at i1;have h1 : (v.x * z.x + v.y * z.y) = 0 := by
  rcases Int.mul_eq_zero.1 i1.symm with h | h
  ·exact h
  ·exfalso; apply h0; omega
 rw [h1, hd] at i3;simp only [Int.mul_zero, Int.zero_add] at i3;have key0 : ∀ p : Pt, ht p = 0 → p = ⟨0, 0⟩ := fun p hp => by
  have a1 := zDa p.x; have a2 := zDa p.y;unfold ht at hp;have b1 : p.x * p.x = 0 := by omega
  have b2 : p.y * p.y = 0 := by omega
  rw [Pt.eq_iff];exact ⟨by rcases Int.mul_eq_zero.1 b1 with h | h <;> exact h, by rcases Int.mul_eq_zero.1 b2 with h | h <;> exact h⟩
 rcases Int.mul_eq_zero.1 i3 with h | h
 ·exact n2 (key0 v h)
 ·exact n3 (key0 z h)
theorem circ_sign {a b c d : Pt} (h0 : ¬ ori a b c = 0) (hv : vld d = true) (e1 : d ≠ a) (e2 : d ≠ b) (e3 : d ≠ c) : circ a b c d = 1 ∨ circ a b c d = -1 := by
 rw [zBp h0 hv e1 e2 e3];obtain ⟨va, vb, vc⟩ := zCq h0;have o3 : ∀ p q r : Pt, vld p = true → vld q = true → vld r = true → det p q r ≠ 0 → ori p q r = 1 ∨ ori p q r = -1 := fun p q r hp hq hr h => by
  rw [ori_v hp hq hr]; have := zAj (det p q r); omega
 have hdet : det a b c ≠ 0 := fun h => h0 (by rw [ori_v va vb vc, h]; rfl);split
 ·rename_i h; have := zAj (lft a b c d); omega
 ·rename_i h
  have hl : lft a b c d = 0 := by rw [← zBu]; omega
  unfold tie;split
  ·exact o3 _ _ _ va vb vc hdet
  split
  ·have := o3 d b c hv vb vc (zDz hl hdet e2 e3); omega
  split
  ·have h3 := zDz (a := b) (b := c) (c := a) (d := d) (by rw [zEt]; exact hl) (by rw [zAl]; exact hdet) e3 e1;have := o3 a d c va hv vc (by rw [← zAl a d c]; exact h3); omega
  ·have h3 := zDz (a := c) (b := a) (c := b) (d := d) (by rw [zEt b c a, zEt]; exact hl) (by rw [zAl b c a, zAl]; exact hdet) e1 e2;have := o3 a b d va vb hv (by rw [← zAl a b d, ← zAl b d a]; exact h3); omega
theorem circ_last {a b c d : Pt} (h0 : ¬ ori a b c = 0) (h1 : ¬ ori a b d = 0) (e : d ≠ c) : circ a b d c = -circ a b c d := by
 obtain ⟨va, vb, vc⟩ := zCq h0;obtain ⟨_, _, vd⟩ := zCq h1;obtain ⟨n1, n2, n3⟩ := zBd h0;obtain ⟨_, k2, k3⟩ := zBd h1;rw [zBp h0 vd k2 k3 e, zBp h1 vc n2 n3 e.symm, lft_last, zJd, min4_last va vb vc vd];by_cases hs : sgn (lft a b c d) = 0
 ·rw [if_neg (by omega), if_neg (by omega)];unfold tie;rcases zJn a b c d with h | h | h | h <;> rw [h]
  ·rw [if_neg (np n2.symm), if_pos (pp rfl), if_neg (np k2.symm), if_pos (pp rfl), zCx b c d, zBs d b c]
  ·rw [if_neg (np n3.symm), if_neg (np n1), if_pos (pp rfl), if_neg (np k3.symm), if_neg (np n1), if_pos (pp rfl), zGc]
  ·rw [if_pos (pp rfl), if_neg (np e.symm), if_neg (np n2), if_neg (np n3)]; omega
  ·rw [if_neg (np e), if_neg (np k2), if_neg (np k3), if_pos (pp rfl)]
 ·rw [if_pos (by omega), if_pos hs]
end Go.Proofs.YtmobnmjjmafibaaGreat
namespace Go.Proofs.YtmobnmjjmafibaaGreat
open Go.RowKit Go.Sort
attribute [local go_sem] rOper rAt rUpon cell_set sg_i64 sg_u64 alloc_cell alloc_frozen
attribute [local go_sem 10000] pt_eql pt_neq
attribute [local irreducible] rWalk
theorem rcircle_0 (a b c d : Pt) (h0 : ori a b c = 0) (w : World) :
    Calls Tryz.prog 141 #[.agg #[.int .i64 a.x, .int .i64 a.y], .agg #[.int .i64 b.x, .int .i64 b.y], .agg #[.int .i64 c.x, .int .i64 c.y], .agg #[.int .i64 d.x, .int .i64 d.y]] w fun e w' => e = .returned (.int .i64 0) ∧ Below w.heap.size w w' := by
 have co := zA4 a b c;rw [h0] at co;clear h0
 go_enter Tryz.func141, Tryz.ntmps141
 go_wp2_with fail;refine zA1 fun W1 hW => ?_;obtain ⟨Ba, Bb, Bc, Bd, hw⟩ := N4 hW;clear hW;refine (co _).mono ?_;rintro e w2 ⟨rfl, hb⟩;obtain ⟨Ba, Bb, Bc, Bd, hw, -⟩ := X4 Ba Bb Bc Bd hw hb;clear hb;go_wp2
 go_ret
 exact ⟨rfl, hw⟩
theorem zI4 (a b c d : Pt) (h0 : ¬ ori a b c = 0) (hv : vld d = false) (w : World) :
    Calls Tryz.prog 141 #[.agg #[.int .i64 a.x, .int .i64 a.y], .agg #[.int .i64 b.x, .int .i64 b.y], .agg #[.int .i64 c.x, .int .i64 c.y], .agg #[.int .i64 d.x, .int .i64 d.y]] w fun e w' => e = .returned (.int .i64 0) ∧ Below w.heap.size w w' := by
 have co := zA4 a b c;have cv := zA2 d;rw [hv] at cv;clear hv;have bo := zB4 a b c;generalize ori a b c = o at *
 have t0 : (o == 0) = false := by simpa using h0
 clear h0
 go_enter Tryz.func141, Tryz.ntmps141
 go_wp2_with fail;refine zA1 fun W1 hW => ?_;obtain ⟨Ba, Bb, Bc, Bd, hw⟩ := N4 hW;clear hW;refine (co _).mono ?_;rintro e w2 ⟨rfl, hb⟩;obtain ⟨Ba, Bb, Bc, Bd, hw, F_abcd⟩ := X4 Ba Bb Bc Bd hw hb;clear hb;go_wp2_with fail;refine (cv _).mono ?_;rintro e w3 ⟨rfl, hb⟩;clear F_abcd;obtain ⟨Ba, Bb, Bc, Bd, hw, F_abcd⟩ := X4 Ba Bb Bc Bd hw hb;clear hb;go_wp2
 go_ret
 exact ⟨rfl, hw⟩
theorem zI3 (a b c d : Pt) (h0 : ¬ ori a b c = 0) (hv : vld d = true) (e1 : peqI d.x d.y a.x a.y = true) (w : World) :
    Calls Tryz.prog 141 #[.agg #[.int .i64 a.x, .int .i64 a.y], .agg #[.int .i64 b.x, .int .i64 b.y], .agg #[.int .i64 c.x, .int .i64 c.y], .agg #[.int .i64 d.x, .int .i64 d.y]] w fun e w' => e = .returned (.int .i64 0) ∧ Below w.heap.size w w' := by
 have co := zA4 a b c;have cv := zA2 d;rw [hv] at cv;clear hv;have bo := zB4 a b c;generalize ori a b c = o at *
 have t0 : (o == 0) = false := by simpa using h0
 clear h0
 go_enter Tryz.func141, Tryz.ntmps141
 go_wp2_with fail;refine zA1 fun W1 hW => ?_;obtain ⟨Ba, Bb, Bc, Bd, hw⟩ := N4 hW;clear hW;refine (co _).mono ?_;rintro e w2 ⟨rfl, hb⟩;obtain ⟨Ba, Bb, Bc, Bd, hw, F_abcd⟩ := X4 Ba Bb Bc Bd hw hb;clear hb;go_wp2_with fail;refine (cv _).mono ?_;rintro e w3 ⟨rfl, hb⟩;clear F_abcd;obtain ⟨Ba, Bb, Bc, Bd, hw, F_abcd⟩ := X4 Ba Bb Bc Bd hw hb;clear hb;go_wp2
 go_ret
 exact ⟨rfl, hw⟩
theorem zI2 (a b c d : Pt) (h0 : ¬ ori a b c = 0) (hv : vld d = true) (e1 : peqI d.x d.y a.x a.y = false) (e2 : peqI d.x d.y b.x b.y = true) (w : World) :
    Calls Tryz.prog 141 #[.agg #[.int .i64 a.x, .int .i64 a.y], .agg #[.int .i64 b.x, .int .i64 b.y], .agg #[.int .i64 c.x, .int .i64 c.y], .agg #[.int .i64 d.x, .int .i64 d.y]] w fun e w' => e = .returned (.int .i64 0) ∧ Below w.heap.size w w' := by
 have co := zA4 a b c;have cv := zA2 d;rw [hv] at cv;clear hv;have bo := zB4 a b c;generalize ori a b c = o at *
 have t0 : (o == 0) = false := by simpa using h0
 clear h0
 go_enter Tryz.func141, Tryz.ntmps141
 go_wp2_with fail;refine zA1 fun W1 hW => ?_;obtain ⟨Ba, Bb, Bc, Bd, hw⟩ := N4 hW;clear hW;refine (co _).mono ?_;rintro e w2 ⟨rfl, hb⟩;obtain ⟨Ba, Bb, Bc, Bd, hw, F_abcd⟩ := X4 Ba Bb Bc Bd hw hb;clear hb;go_wp2_with fail;refine (cv _).mono ?_;rintro e w3 ⟨rfl, hb⟩;clear F_abcd;obtain ⟨Ba, Bb, Bc, Bd, hw, F_abcd⟩ := X4 Ba Bb Bc Bd hw hb;clear hb;go_wp2
 go_ret
 exact ⟨rfl, hw⟩
theorem zI1 (a b c d : Pt) (h0 : ¬ ori a b c = 0) (hv : vld d = true) (e1 : peqI d.x d.y a.x a.y = false) (e2 : peqI d.x d.y b.x b.y = false) (e3 : peqI d.x d.y c.x c.y = true) (w : World) :
    Calls Tryz.prog 141 #[.agg #[.int .i64 a.x, .int .i64 a.y], .agg #[.int .i64 b.x, .int .i64 b.y], .agg #[.int .i64 c.x, .int .i64 c.y], .agg #[.int .i64 d.x, .int .i64 d.y]] w fun e w' => e = .returned (.int .i64 0) ∧ Below w.heap.size w w' := by
 have co := zA4 a b c;have cv := zA2 d;rw [hv] at cv;clear hv;have bo := zB4 a b c;generalize ori a b c = o at *
 have t0 : (o == 0) = false := by simpa using h0
 clear h0
 go_enter Tryz.func141, Tryz.ntmps141
 go_wp2_with fail;refine zA1 fun W1 hW => ?_;obtain ⟨Ba, Bb, Bc, Bd, hw⟩ := N4 hW;clear hW;refine (co _).mono ?_;rintro e w2 ⟨rfl, hb⟩;obtain ⟨Ba, Bb, Bc, Bd, hw, F_abcd⟩ := X4 Ba Bb Bc Bd hw hb;clear hb;go_wp2_with fail;refine (cv _).mono ?_;rintro e w3 ⟨rfl, hb⟩;clear F_abcd;obtain ⟨Ba, Bb, Bc, Bd, hw, F_abcd⟩ := X4 Ba Bb Bc Bd hw hb;clear hb;go_wp2
 go_ret
 exact ⟨rfl, hw⟩
theorem lft_r (u v z : Pt) : (u.x * u.x + u.y * u.y) * (v.x * z.y - z.x * v.y) + -((v.x * v.x + v.y * v.y) * (u.x * z.y - z.x * u.y)) + (z.x * z.x + z.y * z.y) * (u.x * v.y - v.x * u.y) = ht u * cr v z + ht v * cr z u + ht z * cr u v := by
 unfold ht cr; grind
theorem rcircle_5 (a b c d : Pt) (h0 : ori a b c = 1) (hv : vld d = true) (e1 : peqI d.x d.y a.x a.y = false) (e2 : peqI d.x d.y b.x b.y = false) (e3 : peqI d.x d.y c.x c.y = false) (hl : ¬ sgn (lft a b c d) = 0) (w : World) :
    Calls Tryz.prog 141 #[.agg #[.int .i64 a.x, .int .i64 a.y], .agg #[.int .i64 b.x, .int .i64 b.y], .agg #[.int .i64 c.x, .int .i64 c.y], .agg #[.int .i64 d.x, .int .i64 d.y]] w fun e w' => e = .returned (.int .i64 (sgn (lft a b c d))) ∧ Below w.heap.size w w' := by
 have hvv : vld a = true ∧ vld b = true ∧ vld c = true := zCq (by omega);obtain ⟨va, vb, vc⟩ := hvv;have co := zA4 a b c;rw [h0] at co;have cv := zA2 d;rw [hv] at cv;have su := zDj hv va;have sv := zDj hv vb;have sz := zDj hv vc;have el := lft_r (way d a) (way d b) (way d c);have el' : lft a b c d = ht (way d a) * cr (way d b) (way d c) + ht (way d b) * cr (way d c) (way d a) + ht (way d c) * cr (way d a) (way d b) := rfl;rw [← el'] at el;have ww1 : IntKind.i64.wrap (a.x - d.x) = (way d a).x := by rw [zAv] at *; rw [IntKind.wrap_i64]; unfold way; simp only; omega
 have ww2 : IntKind.i64.wrap (a.y - d.y) = (way d a).y := by rw [zAv] at *; rw [IntKind.wrap_i64]; unfold way; simp only; omega
 have ww3 : IntKind.i64.wrap (b.x - d.x) = (way d b).x := by rw [zAv] at *; rw [IntKind.wrap_i64]; unfold way; simp only; omega
 have ww4 : IntKind.i64.wrap (b.y - d.y) = (way d b).y := by rw [zAv] at *; rw [IntKind.wrap_i64]; unfold way; simp only; omega
 have ww5 : IntKind.i64.wrap (c.x - d.x) = (way d c).x := by rw [zAv] at *; rw [IntKind.wrap_i64]; unfold way; simp only; omega
 have ww6 : IntKind.i64.wrap (c.y - d.y) = (way d c).y := by rw [zAv] at *; rw [IntKind.wrap_i64]; unfold way; simp only; omega
 clear el';generalize way d a = u at *
 generalize way d b = v at *
 generalize way d c = z at *
 have a1 := zBb su.1 su.1;have a2 := zBb su.2 su.2;have a3 := zBb sv.1 sv.1;have a4 := zBb sv.2 sv.2;have a5 := zBb sz.1 sz.1;have a6 := zBb sz.2 sz.2;have a7 := zBb sv.1 sz.2;have a8 := zBb sz.1 sv.2;have a9 := zBb su.1 sz.2;have a10 := zBb sz.1 su.2;have a11 := zBb su.1 sv.2;have a12 := zBb sv.1 su.2;have g1 := zDa u.x;have g2 := zDa u.y;have g3 := zDa v.x;have g4 := zDa v.y;have g5 := zDa z.x;have g6 := zDa z.y;have m1 := r_mul (u.x * u.x + u.y * u.y) (v.x * z.y - z.x * v.y) (by omega) (by omega) (by omega) (by omega);have m2 := r_mul (v.x * v.x + v.y * v.y) (u.x * z.y - z.x * u.y) (by omega) (by omega) (by omega) (by omega);have m3 := r_mul (z.x * z.x + z.y * z.y) (u.x * v.y - v.x * u.y) (by omega) (by omega) (by omega) (by omega);have p1 := zFt (p := u.x * u.x + u.y * u.y) (q := v.x * z.y - z.x * v.y) (by omega) (by omega);have p2 := zFt (p := v.x * v.x + v.y * v.y) (q := u.x * z.y - z.x * u.y) (by omega) (by omega);have p3 := zFt (p := z.x * z.x + z.y * z.y) (q := u.x * v.y - v.x * u.y) (by omega) (by omega);generalize (u.x * u.x + u.y * u.y) * (v.x * z.y - z.x * v.y) = P1 at *
 generalize (v.x * v.x + v.y * v.y) * (u.x * z.y - z.x * u.y) = P2 at *
 generalize (z.x * z.x + z.y * z.y) * (u.x * v.y - v.x * u.y) = P3 at *
 have n2 := zKe (cH P2) (cL P2) (ok_c _);rw [V_c (zAo.2 ⟨by omega, by omega⟩), (m_c (n := -P2) (zAo.2 ⟨by omega, by omega⟩)).1, (m_c (n := -P2) (zAo.2 ⟨by omega, by omega⟩)).2] at n2;have s1 := zDy (cH P1) (cL P1) (cH (-P2)) (cL (-P2)) (ok_c _) (ok_c _);rw [V_c (zAo.2 ⟨by omega, by omega⟩), V_c (zAo.2 ⟨by omega, by omega⟩), (m_c (n := P1 + -P2) (zAo.2 ⟨by omega, by omega⟩)).1, (m_c (n := P1 + -P2) (zAo.2 ⟨by omega, by omega⟩)).2] at s1;have s2 := zDy (cH (P1 + -P2)) (cL (P1 + -P2)) (cH P3) (cL P3) (ok_c _) (ok_c _);rw [V_c (zAo.2 ⟨by omega, by omega⟩), V_c (zAo.2 ⟨by omega, by omega⟩), (m_c (n := P1 + -P2 + P3) (zAo.2 ⟨by omega, by omega⟩)).1, (m_c (n := P1 + -P2 + P3) (zAo.2 ⟨by omega, by omega⟩)).2] at s2;have s3 := r_sign (cH (P1 + -P2 + P3)) (cL (P1 + -P2 + P3)) (ok_c _);rw [V_c (zAo.2 ⟨by omega, by omega⟩)] at s3;generalize cH (P1 + -P2 + P3) = H3 at *
 generalize cL (P1 + -P2 + P3) = L3 at *
 rw [el] at s3;clear p1 p2 p3 el su sv sz va vb vc hv h0;generalize sgn (lft a b c d) = S at *
 generalize cH (P1 + -P2) = H2 at *
 generalize cL (P1 + -P2) = L2 at *
 generalize cH P1 = H0 at *
 generalize cL P1 = L0 at *
 generalize cH (-P2) = H5 at *
 generalize cL (-P2) = L5 at *
 generalize cH P2 = H1 at *
 generalize cL P2 = L1 at *
 generalize cH P3 = H4 at *
 generalize cL P3 = L4 at *
 have t1 : (S != 0) = true := by simpa using hl
 clear hl
 go_enter Tryz.func141, Tryz.ntmps141
 go_wp2_with fail;refine zA1 fun W1 hW => ?_;obtain ⟨Ba, Bb, Bc, Bd, hw⟩ := N4 hW;clear hW;refine (co _).mono ?_;rintro e w2 ⟨rfl, hb⟩;obtain ⟨Ba, Bb, Bc, Bd, hw, -⟩ := X4 Ba Bb Bc Bd hw hb;clear hb;obtain ⟨xa, ya, za, va⟩ := Ba.f;obtain ⟨xb, yb, zb, vb⟩ := Bb.f;obtain ⟨xc, yc, zc, vc⟩ := Bc.f;obtain ⟨xd, yd, zd, vd⟩ := Bd.f;go_wp2_with fail;refine (cv _).mono ?_;rintro e w3 ⟨rfl, hb⟩;clear xa ya za va xb yb zb vb xc yc zc vc xd yd zd vd;obtain ⟨Ba, Bb, Bc, Bd, hw, -⟩ := X4 Ba Bb Bc Bd hw hb;clear hb;obtain ⟨xa, ya, za, va⟩ := Ba.f;obtain ⟨xb, yb, zb, vb⟩ := Bb.f;obtain ⟨xc, yc, zc, vc⟩ := Bc.f;obtain ⟨xd, yd, zd, vd⟩ := Bd.f;go_wp2;refine zA3 fun W4 hW => ?_;subst hW;clear xa ya za va xb yb zb vb xc yc zc vc xd yd zd vd;have ga := Ba.cells;have gb := Bb.cells;have gc := Bc.cells;have gd := Bd.cells;refine wrt 35 (by kernel_rfl) (by kernel_rfl) ?_;simp only [tK1, tK0, dP1, dP0];repeat (first | (refine zA0 (Eq.refl false) ?_; simp only [Act.put, sT2, sT1, sT0]) | (refine rWalk_step (fun K hK => ?_); go_simp; refine hK _ ?_; clear hK K))
 refine rWalk_nil ?_;intro w5 hb;clear ga gb gc gd;obtain ⟨Ba, Bb, Bc, Bd, hw, -⟩ := X4 Ba Bb Bc Bd hw hb;clear ww1 ww2 ww3 ww4 ww5 ww6;obtain ⟨xa, ya, za, va⟩ := Ba.f;obtain ⟨xb, yb, zb, vb⟩ := Bb.f;obtain ⟨xc, yc, zc, vc⟩ := Bc.f;obtain ⟨xd, yd, zd, vd⟩ := Bd.f;go_wp2_with fail;refine (m1 _).mono ?_;rintro e w6 ⟨rfl, hb⟩;clear xa ya za va xb yb zb vb xc yc zc vc xd yd zd vd;obtain ⟨Ba, Bb, Bc, Bd, hw, -⟩ := X4 Ba Bb Bc Bd hw hb;clear hb;obtain ⟨xa, ya, za, va⟩ := Ba.f;obtain ⟨xb, yb, zb, vb⟩ := Bb.f;obtain ⟨xc, yc, zc, vc⟩ := Bc.f;obtain ⟨xd, yd, zd, vd⟩ := Bd.f;go_wp2_with fail;refine zA3 fun W7 hW => ?_;obtain ⟨bkz, hbz⟩ : ∃ b, w6.heap.size = b := ⟨_, rfl⟩;rw [hbz];obtain ⟨laz, lbz, lcz, ldz, fz, Bz, Ba, Bb, Bc, Bd, hw⟩ := M4 hW hbz Ba Bb Bc Bd hw;clear hW hbz;have rr0 : Hid (IntKind.i64.wrap (v.x * v.x) = v.x * v.x) := Lib.hid (by rw [IntKind.wrap_i64]; omega);have rr1 : Hid (IntKind.i64.wrap (v.y * v.y) = v.y * v.y) := Lib.hid (by rw [IntKind.wrap_i64]; omega);have rr2 : Hid (IntKind.i64.wrap (v.x * v.x + v.y * v.y) = v.x * v.x + v.y * v.y) := Lib.hid (by rw [IntKind.wrap_i64]; omega);have rr3 : Hid (IntKind.i64.wrap (u.x * z.y) = u.x * z.y) := Lib.hid (by rw [IntKind.wrap_i64]; omega);have rr4 : Hid (IntKind.i64.wrap (z.x * u.y) = z.x * u.y) := Lib.hid (by rw [IntKind.wrap_i64]; omega);have rr5 : Hid (IntKind.i64.wrap (u.x * z.y - z.x * u.y) = u.x * z.y - z.x * u.y) := Lib.hid (by rw [IntKind.wrap_i64]; omega);have qq0 := rr0.out;clear rr0;have qq1 := rr1.out;clear rr1;have qq2 := rr2.out;clear rr2;have qq3 := rr3.out;clear rr3;have qq4 := rr4.out;clear rr4;have qq5 := rr5.out;clear rr5;have ga := Ba.cells;have gb := Bb.cells;have gc := Bc.cells;have gd := Bd.cells;have gz := Bz.cells;refine wrt 18 (by kernel_rfl) (by kernel_rfl) ?_;simp only [tK1, tK0, dP1, dP0];repeat (first | (refine zA0 (Eq.refl false) ?_; simp only [Act.put, sT2, sT1, sT0]) | (refine rWalk_step (fun K hK => ?_); go_simp; first | (refine hK _ ?_; clear hK K) | (apply Exists.intro; refine ⟨fun _ => ?_, hK _ ?_⟩; (first | with_reducible exact toExt m2 _ | with_reducible exact toExt n2 _ | with_reducible exact toExt s1 _); clear hK K)))
 refine rWalk_nil ?_;intro w8 hb;clear ga gb gc gd gz;clear xa ya za va xb yb zb vb xc yc zc vc xd yd zd vd;obtain ⟨Ba, Bb, Bc, Bd, Bz, hw, -⟩ := X5 Ba Bb Bc Bd Bz hw hb;clear qq0 qq1 qq2 qq3 qq4 qq5;obtain ⟨xa, ya, za, va⟩ := Ba.f;obtain ⟨xb, yb, zb, vb⟩ := Bb.f;obtain ⟨xc, yc, zc, vc⟩ := Bc.f;obtain ⟨xd, yd, zd, vd⟩ := Bd.f;obtain ⟨xz, yz, zz, vz⟩ := Bz.f;go_wp2_with fail;refine zA3 fun W9 hW => ?_;have Ca : Box W9 (w.heap.size) [.int .i64 a.x, .int .i64 a.y] 30 := by rw [hW]; exact ((Ba.sn bkz 0 (.int .i64 H2) (by first | assumption | omega)).sn bkz 1 (.int .u64 L2) (by first | assumption | omega))
 have Cb : Box W9 (w.heap.size + 1) [.int .i64 b.x, .int .i64 b.y] 30 := by rw [hW]; exact ((Bb.sn bkz 0 (.int .i64 H2) (by first | assumption | omega)).sn bkz 1 (.int .u64 L2) (by first | assumption | omega))
 have Cc : Box W9 (w.heap.size + 1 + 1) [.int .i64 c.x, .int .i64 c.y] 30 := by rw [hW]; exact ((Bc.sn bkz 0 (.int .i64 H2) (by first | assumption | omega)).sn bkz 1 (.int .u64 L2) (by first | assumption | omega))
 have Cd : Box W9 (w.heap.size + 1 + 1 + 1) [.int .i64 d.x, .int .i64 d.y] 30 := by rw [hW]; exact ((Bd.sn bkz 0 (.int .i64 H2) (by first | assumption | omega)).sn bkz 1 (.int .u64 L2) (by first | assumption | omega))
 have Cz : Box W9 (bkz) [.int .i64 H2, .int .u64 L2] 132 := by rw [hW]; exact ((Bz.set 0 (.int .i64 H2)).set 1 (.int .u64 L2))
 replace hw : Below w.heap.size w W9 := by have hl := hw.size; rw [hW]; go_grown
 clear xa ya za va xb yb zb vb xc yc zc vc xd yd zd vd xz yz zz vz;clear hW Ba Bb Bc Bd Bz;have Ba := Ca;have Bb := Cb;have Bc := Cc;have Bd := Cd;have Bz := Cz;clear Ca Cb Cc Cd Cz;have rr0 : Hid (IntKind.i64.wrap (z.x * z.x) = z.x * z.x) := Lib.hid (by rw [IntKind.wrap_i64]; omega);have rr1 : Hid (IntKind.i64.wrap (z.y * z.y) = z.y * z.y) := Lib.hid (by rw [IntKind.wrap_i64]; omega);have rr2 : Hid (IntKind.i64.wrap (z.x * z.x + z.y * z.y) = z.x * z.x + z.y * z.y) := Lib.hid (by rw [IntKind.wrap_i64]; omega);have rr3 : Hid (IntKind.i64.wrap (u.x * v.y) = u.x * v.y) := Lib.hid (by rw [IntKind.wrap_i64]; omega);have rr4 : Hid (IntKind.i64.wrap (v.x * u.y) = v.x * u.y) := Lib.hid (by rw [IntKind.wrap_i64]; omega);have rr5 : Hid (IntKind.i64.wrap (u.x * v.y - v.x * u.y) = u.x * v.y - v.x * u.y) := Lib.hid (by rw [IntKind.wrap_i64]; omega);have qq0 := rr0.out;clear rr0;have qq1 := rr1.out;clear rr1;have qq2 := rr2.out;clear rr2;have qq3 := rr3.out;clear rr3;have qq4 := rr4.out;clear rr4;have qq5 := rr5.out;clear rr5;have ga := Ba.cells;have gb := Bb.cells;have gc := Bc.cells;have gd := Bd.cells;have gz := Bz.cells;refine wrt 17 (by kernel_rfl) (by kernel_rfl) ?_;simp only [tK1, tK0, dP1, dP0];repeat (first | (refine zA0 (Eq.refl false) ?_; simp only [Act.put, sT2, sT1, sT0]) | (refine rWalk_step (fun K hK => ?_); go_simp; first | (refine hK _ ?_; clear hK K) | (apply Exists.intro; refine ⟨fun _ => ?_, hK _ ?_⟩; (first | with_reducible exact toExt m3 _ | with_reducible exact toExt s2 _); clear hK K)))
 refine rWalk_nil ?_;intro w10 hb;clear ga gb gc gd gz;obtain ⟨Ba, Bb, Bc, Bd, Bz, hw, -⟩ := X5 Ba Bb Bc Bd Bz hw hb;clear qq0 qq1 qq2 qq3 qq4 qq5 a1 a2 a3 a4 a5 a6 a7 a8 a9 a10 a11 a12 g1 g2 g3 g4 g5 g6;obtain ⟨xa, ya, za, va⟩ := Ba.f;obtain ⟨xb, yb, zb, vb⟩ := Bb.f;obtain ⟨xc, yc, zc, vc⟩ := Bc.f;obtain ⟨xd, yd, zd, vd⟩ := Bd.f;obtain ⟨xz, yz, zz, vz⟩ := Bz.f;go_wp2_with fail;refine zA1 fun W11 hW => ?_;have Ca : Box W11 (w.heap.size) [.int .i64 a.x, .int .i64 a.y] 30 := by rw [hW]; exact ((Ba.sn bkz 0 (.int .i64 H3) (by first | assumption | omega)).sn bkz 1 (.int .u64 L3) (by first | assumption | omega))
 have Cb : Box W11 (w.heap.size + 1) [.int .i64 b.x, .int .i64 b.y] 30 := by rw [hW]; exact ((Bb.sn bkz 0 (.int .i64 H3) (by first | assumption | omega)).sn bkz 1 (.int .u64 L3) (by first | assumption | omega))
 have Cc : Box W11 (w.heap.size + 1 + 1) [.int .i64 c.x, .int .i64 c.y] 30 := by rw [hW]; exact ((Bc.sn bkz 0 (.int .i64 H3) (by first | assumption | omega)).sn bkz 1 (.int .u64 L3) (by first | assumption | omega))
 have Cd : Box W11 (w.heap.size + 1 + 1 + 1) [.int .i64 d.x, .int .i64 d.y] 30 := by rw [hW]; exact ((Bd.sn bkz 0 (.int .i64 H3) (by first | assumption | omega)).sn bkz 1 (.int .u64 L3) (by first | assumption | omega))
 have Cz : Box W11 (bkz) [.int .i64 H3, .int .u64 L3] 132 := by rw [hW]; exact ((Bz.set 0 (.int .i64 H3)).set 1 (.int .u64 L3))
 replace hw : Below w.heap.size w W11 := by have hl := hw.size; rw [hW]; go_grown
 clear xa ya za va xb yb zb vb xc yc zc vc xd yd zd vd xz yz zz vz;clear hW Ba Bb Bc Bd Bz;have Ba := Ca;have Bb := Cb;have Bc := Cc;have Bd := Cd;have Bz := Cz;clear Ca Cb Cc Cd Cz;refine (s3 _).mono ?_;rintro e w12 ⟨rfl, hb⟩;obtain ⟨Ba, Bb, Bc, Bd, Bz, hw, -⟩ := X5 Ba Bb Bc Bd Bz hw hb;clear hb;go_wp2
 go_ret
 exact ⟨rfl, hw⟩
theorem zG9 {a b c d : Int} : peqI a b c d = peqI c d a b := by
 rw [Bool.eq_iff_iff, zC2, zC2]; omega
theorem zGa (a b : Int) : peqI a b a b = true := by rw [zC2]; exact ⟨rfl, rfl⟩
theorem det_ne {a b c : Pt} (h : ¬ ori a b c = 0) : peqI b.x b.y a.x a.y = false ∧ peqI c.x c.y a.x a.y = false ∧ peqI c.x c.y b.x b.y = false := by
 have hd : ¬ det a b c = 0 := fun hd => h (by unfold ori; rw [hd]; simp [sgn]);refine ⟨?_, ?_, ?_⟩ <;> (rw [← Bool.not_eq_true, zC2]; rintro ⟨h1, h2⟩; apply hd; unfold det; rw [h1, h2])
 ·simp
 ·simp
 ·grind
theorem rcircle_6 (a b c d : Pt) (h0 : ori a b c = 1) (hv : vld d = true) (e1 : peqI d.x d.y a.x a.y = false) (e2 : peqI d.x d.y b.x b.y = false) (e3 : peqI d.x d.y c.x c.y = false) (hl : sgn (lft a b c d) = 0) (w : World) :
    Calls Tryz.prog 141 #[.agg #[.int .i64 a.x, .int .i64 a.y], .agg #[.int .i64 b.x, .int .i64 b.y], .agg #[.int .i64 c.x, .int .i64 c.y], .agg #[.int .i64 d.x, .int .i64 d.y]] w fun e w' => e = .returned (.int .i64 (tie a b c d (lsr c (lsr b (lsr a d))) 1)) ∧ Below w.heap.size w w' := by
 have hvv : vld a = true ∧ vld b = true ∧ vld c = true := zCq (by omega);obtain ⟨va, vb, vc⟩ := hvv;have co := zA4 a b c;rw [h0] at co;have cv := zA2 d;rw [hv] at cv;have su := zDj hv va;have sv := zDj hv vb;have sz := zDj hv vc;have el := lft_r (way d a) (way d b) (way d c);have el' : lft a b c d = ht (way d a) * cr (way d b) (way d c) + ht (way d b) * cr (way d c) (way d a) + ht (way d c) * cr (way d a) (way d b) := rfl;rw [← el'] at el;have ww1 : IntKind.i64.wrap (a.x - d.x) = (way d a).x := by rw [zAv] at *; rw [IntKind.wrap_i64]; unfold way; simp only; omega
 have ww2 : IntKind.i64.wrap (a.y - d.y) = (way d a).y := by rw [zAv] at *; rw [IntKind.wrap_i64]; unfold way; simp only; omega
 have ww3 : IntKind.i64.wrap (b.x - d.x) = (way d b).x := by rw [zAv] at *; rw [IntKind.wrap_i64]; unfold way; simp only; omega
 have ww4 : IntKind.i64.wrap (b.y - d.y) = (way d b).y := by rw [zAv] at *; rw [IntKind.wrap_i64]; unfold way; simp only; omega
 have ww5 : IntKind.i64.wrap (c.x - d.x) = (way d c).x := by rw [zAv] at *; rw [IntKind.wrap_i64]; unfold way; simp only; omega
 have ww6 : IntKind.i64.wrap (c.y - d.y) = (way d c).y := by rw [zAv] at *; rw [IntKind.wrap_i64]; unfold way; simp only; omega
 clear el';generalize way d a = u at *
 generalize way d b = v at *
 generalize way d c = z at *
 have a1 := zBb su.1 su.1;have a2 := zBb su.2 su.2;have a3 := zBb sv.1 sv.1;have a4 := zBb sv.2 sv.2;have a5 := zBb sz.1 sz.1;have a6 := zBb sz.2 sz.2;have a7 := zBb sv.1 sz.2;have a8 := zBb sz.1 sv.2;have a9 := zBb su.1 sz.2;have a10 := zBb sz.1 su.2;have a11 := zBb su.1 sv.2;have a12 := zBb sv.1 su.2;have g1 := zDa u.x;have g2 := zDa u.y;have g3 := zDa v.x;have g4 := zDa v.y;have g5 := zDa z.x;have g6 := zDa z.y;have m1 := r_mul (u.x * u.x + u.y * u.y) (v.x * z.y - z.x * v.y) (by omega) (by omega) (by omega) (by omega);have m2 := r_mul (v.x * v.x + v.y * v.y) (u.x * z.y - z.x * u.y) (by omega) (by omega) (by omega) (by omega);have m3 := r_mul (z.x * z.x + z.y * z.y) (u.x * v.y - v.x * u.y) (by omega) (by omega) (by omega) (by omega);have p1 := zFt (p := u.x * u.x + u.y * u.y) (q := v.x * z.y - z.x * v.y) (by omega) (by omega);have p2 := zFt (p := v.x * v.x + v.y * v.y) (q := u.x * z.y - z.x * u.y) (by omega) (by omega);have p3 := zFt (p := z.x * z.x + z.y * z.y) (q := u.x * v.y - v.x * u.y) (by omega) (by omega);generalize (u.x * u.x + u.y * u.y) * (v.x * z.y - z.x * v.y) = P1 at *
 generalize (v.x * v.x + v.y * v.y) * (u.x * z.y - z.x * u.y) = P2 at *
 generalize (z.x * z.x + z.y * z.y) * (u.x * v.y - v.x * u.y) = P3 at *
 have n2 := zKe (cH P2) (cL P2) (ok_c _);rw [V_c (zAo.2 ⟨by omega, by omega⟩), (m_c (n := -P2) (zAo.2 ⟨by omega, by omega⟩)).1, (m_c (n := -P2) (zAo.2 ⟨by omega, by omega⟩)).2] at n2;have s1 := zDy (cH P1) (cL P1) (cH (-P2)) (cL (-P2)) (ok_c _) (ok_c _);rw [V_c (zAo.2 ⟨by omega, by omega⟩), V_c (zAo.2 ⟨by omega, by omega⟩), (m_c (n := P1 + -P2) (zAo.2 ⟨by omega, by omega⟩)).1, (m_c (n := P1 + -P2) (zAo.2 ⟨by omega, by omega⟩)).2] at s1;have s2 := zDy (cH (P1 + -P2)) (cL (P1 + -P2)) (cH P3) (cL P3) (ok_c _) (ok_c _);rw [V_c (zAo.2 ⟨by omega, by omega⟩), V_c (zAo.2 ⟨by omega, by omega⟩), (m_c (n := P1 + -P2 + P3) (zAo.2 ⟨by omega, by omega⟩)).1, (m_c (n := P1 + -P2 + P3) (zAo.2 ⟨by omega, by omega⟩)).2] at s2;have s3 := r_sign (cH (P1 + -P2 + P3)) (cL (P1 + -P2 + P3)) (ok_c _);rw [V_c (zAo.2 ⟨by omega, by omega⟩)] at s3;generalize cH (P1 + -P2 + P3) = H3 at *
 generalize cL (P1 + -P2 + P3) = L3 at *
 rw [el] at s3;obtain ⟨d1, d2, d3⟩ := det_ne (a := a) (b := b) (c := c) (by rw [h0]; omega);clear p1 p2 p3 el su sv sz va vb vc hv h0;generalize sgn (lft a b c d) = S at *
 generalize cH (P1 + -P2) = H2 at *
 generalize cL (P1 + -P2) = L2 at *
 generalize cH P1 = H0 at *
 generalize cL P1 = L0 at *
 generalize cH (-P2) = H5 at *
 generalize cL (-P2) = L5 at *
 generalize cH P2 = H1 at *
 generalize cL P2 = L1 at *
 generalize cH P3 = H4 at *
 generalize cL P3 = L4 at *
 have f1 : peqI a.x a.y d.x d.y = false := by rw [zG9]; exact e1
 have f2 : peqI b.x b.y d.x d.y = false := by rw [zG9]; exact e2
 have f3 : peqI c.x c.y d.x d.y = false := by rw [zG9]; exact e3
 have i1 := zGa a.x a.y;have i2 := zGa b.x b.y;have i3 := zGa d.x d.y;have t1 : (S != 0) = false := by simpa using hl
 clear hl
 go_enter Tryz.func141, Tryz.ntmps141
 go_wp2_with fail;refine zA1 fun W1 hW => ?_;obtain ⟨Ba, Bb, Bc, Bd, hw⟩ := N4 hW;clear hW;refine (co _).mono ?_;rintro e w2 ⟨rfl, hb⟩;obtain ⟨Ba, Bb, Bc, Bd, hw, -⟩ := X4 Ba Bb Bc Bd hw hb;clear hb;obtain ⟨xa, ya, za, va⟩ := Ba.f;obtain ⟨xb, yb, zb, vb⟩ := Bb.f;obtain ⟨xc, yc, zc, vc⟩ := Bc.f;obtain ⟨xd, yd, zd, vd⟩ := Bd.f;go_wp2_with fail;refine (cv _).mono ?_;rintro e w3 ⟨rfl, hb⟩;clear xa ya za va xb yb zb vb xc yc zc vc xd yd zd vd;obtain ⟨Ba, Bb, Bc, Bd, hw, -⟩ := X4 Ba Bb Bc Bd hw hb;clear hb;obtain ⟨xa, ya, za, va⟩ := Ba.f;obtain ⟨xb, yb, zb, vb⟩ := Bb.f;obtain ⟨xc, yc, zc, vc⟩ := Bc.f;obtain ⟨xd, yd, zd, vd⟩ := Bd.f;go_wp2;refine zA3 fun W4 hW => ?_;subst hW;clear xa ya za va xb yb zb vb xc yc zc vc xd yd zd vd;have ga := Ba.cells;have gb := Bb.cells;have gc := Bc.cells;have gd := Bd.cells;refine wrt 35 (by kernel_rfl) (by kernel_rfl) ?_;simp only [tK1, tK0, dP1, dP0];repeat (first | (refine zA0 (Eq.refl false) ?_; simp only [Act.put, sT2, sT1, sT0]) | (refine rWalk_step (fun K hK => ?_); go_simp; refine hK _ ?_; clear hK K))
 refine rWalk_nil ?_;intro w5 hb;clear ga gb gc gd;obtain ⟨Ba, Bb, Bc, Bd, hw, -⟩ := X4 Ba Bb Bc Bd hw hb;clear ww1 ww2 ww3 ww4 ww5 ww6;obtain ⟨xa, ya, za, va⟩ := Ba.f;obtain ⟨xb, yb, zb, vb⟩ := Bb.f;obtain ⟨xc, yc, zc, vc⟩ := Bc.f;obtain ⟨xd, yd, zd, vd⟩ := Bd.f;go_wp2_with fail;refine (m1 _).mono ?_;rintro e w6 ⟨rfl, hb⟩;clear xa ya za va xb yb zb vb xc yc zc vc xd yd zd vd;obtain ⟨Ba, Bb, Bc, Bd, hw, -⟩ := X4 Ba Bb Bc Bd hw hb;clear hb;obtain ⟨xa, ya, za, va⟩ := Ba.f;obtain ⟨xb, yb, zb, vb⟩ := Bb.f;obtain ⟨xc, yc, zc, vc⟩ := Bc.f;obtain ⟨xd, yd, zd, vd⟩ := Bd.f;go_wp2_with fail;refine zA3 fun W7 hW => ?_;obtain ⟨bkz, hbz⟩ : ∃ b, w6.heap.size = b := ⟨_, rfl⟩;rw [hbz];obtain ⟨laz, lbz, lcz, ldz, fz, Bz, Ba, Bb, Bc, Bd, hw⟩ := M4 hW hbz Ba Bb Bc Bd hw;clear hW hbz;have rr0 : Hid (IntKind.i64.wrap (v.x * v.x) = v.x * v.x) := Lib.hid (by rw [IntKind.wrap_i64]; omega);have rr1 : Hid (IntKind.i64.wrap (v.y * v.y) = v.y * v.y) := Lib.hid (by rw [IntKind.wrap_i64]; omega);have rr2 : Hid (IntKind.i64.wrap (v.x * v.x + v.y * v.y) = v.x * v.x + v.y * v.y) := Lib.hid (by rw [IntKind.wrap_i64]; omega);have rr3 : Hid (IntKind.i64.wrap (u.x * z.y) = u.x * z.y) := Lib.hid (by rw [IntKind.wrap_i64]; omega);have rr4 : Hid (IntKind.i64.wrap (z.x * u.y) = z.x * u.y) := Lib.hid (by rw [IntKind.wrap_i64]; omega);have rr5 : Hid (IntKind.i64.wrap (u.x * z.y - z.x * u.y) = u.x * z.y - z.x * u.y) := Lib.hid (by rw [IntKind.wrap_i64]; omega);have qq0 := rr0.out;clear rr0;have qq1 := rr1.out;clear rr1;have qq2 := rr2.out;clear rr2;have qq3 := rr3.out;clear rr3;have qq4 := rr4.out;clear rr4;have qq5 := rr5.out;clear rr5;have ga := Ba.cells;have gb := Bb.cells;have gc := Bc.cells;have gd := Bd.cells;have gz := Bz.cells;refine wrt 18 (by kernel_rfl) (by kernel_rfl) ?_;simp only [tK1, tK0, dP1, dP0];repeat (first | (refine zA0 (Eq.refl false) ?_; simp only [Act.put, sT2, sT1, sT0]) | (refine rWalk_step (fun K hK => ?_); go_simp; first | (refine hK _ ?_; clear hK K) | (apply Exists.intro; refine ⟨fun _ => ?_, hK _ ?_⟩; (first | with_reducible exact toExt m2 _ | with_reducible exact toExt n2 _ | with_reducible exact toExt s1 _); clear hK K)))
 refine rWalk_nil ?_;intro w8 hb;clear ga gb gc gd gz;clear xa ya za va xb yb zb vb xc yc zc vc xd yd zd vd;obtain ⟨Ba, Bb, Bc, Bd, Bz, hw, -⟩ := X5 Ba Bb Bc Bd Bz hw hb;clear qq0 qq1 qq2 qq3 qq4 qq5;obtain ⟨xa, ya, za, va⟩ := Ba.f;obtain ⟨xb, yb, zb, vb⟩ := Bb.f;obtain ⟨xc, yc, zc, vc⟩ := Bc.f;obtain ⟨xd, yd, zd, vd⟩ := Bd.f;obtain ⟨xz, yz, zz, vz⟩ := Bz.f;go_wp2_with fail;refine zA3 fun W9 hW => ?_;have Ca : Box W9 (w.heap.size) [.int .i64 a.x, .int .i64 a.y] 30 := by rw [hW]; exact ((Ba.sn bkz 0 (.int .i64 H2) (by first | assumption | omega)).sn bkz 1 (.int .u64 L2) (by first | assumption | omega))
 have Cb : Box W9 (w.heap.size + 1) [.int .i64 b.x, .int .i64 b.y] 30 := by rw [hW]; exact ((Bb.sn bkz 0 (.int .i64 H2) (by first | assumption | omega)).sn bkz 1 (.int .u64 L2) (by first | assumption | omega))
 have Cc : Box W9 (w.heap.size + 1 + 1) [.int .i64 c.x, .int .i64 c.y] 30 := by rw [hW]; exact ((Bc.sn bkz 0 (.int .i64 H2) (by first | assumption | omega)).sn bkz 1 (.int .u64 L2) (by first | assumption | omega))
 have Cd : Box W9 (w.heap.size + 1 + 1 + 1) [.int .i64 d.x, .int .i64 d.y] 30 := by rw [hW]; exact ((Bd.sn bkz 0 (.int .i64 H2) (by first | assumption | omega)).sn bkz 1 (.int .u64 L2) (by first | assumption | omega))
 have Cz : Box W9 (bkz) [.int .i64 H2, .int .u64 L2] 132 := by rw [hW]; exact ((Bz.set 0 (.int .i64 H2)).set 1 (.int .u64 L2))
 replace hw : Below w.heap.size w W9 := by have hl := hw.size; rw [hW]; go_grown
 clear xa ya za va xb yb zb vb xc yc zc vc xd yd zd vd xz yz zz vz;clear hW Ba Bb Bc Bd Bz;have Ba := Ca;have Bb := Cb;have Bc := Cc;have Bd := Cd;have Bz := Cz;clear Ca Cb Cc Cd Cz;have rr0 : Hid (IntKind.i64.wrap (z.x * z.x) = z.x * z.x) := Lib.hid (by rw [IntKind.wrap_i64]; omega);have rr1 : Hid (IntKind.i64.wrap (z.y * z.y) = z.y * z.y) := Lib.hid (by rw [IntKind.wrap_i64]; omega);have rr2 : Hid (IntKind.i64.wrap (z.x * z.x + z.y * z.y) = z.x * z.x + z.y * z.y) := Lib.hid (by rw [IntKind.wrap_i64]; omega);have rr3 : Hid (IntKind.i64.wrap (u.x * v.y) = u.x * v.y) := Lib.hid (by rw [IntKind.wrap_i64]; omega);have rr4 : Hid (IntKind.i64.wrap (v.x * u.y) = v.x * u.y) := Lib.hid (by rw [IntKind.wrap_i64]; omega);have rr5 : Hid (IntKind.i64.wrap (u.x * v.y - v.x * u.y) = u.x * v.y - v.x * u.y) := Lib.hid (by rw [IntKind.wrap_i64]; omega);have qq0 := rr0.out;clear rr0;have qq1 := rr1.out;clear rr1;have qq2 := rr2.out;clear rr2;have qq3 := rr3.out;clear rr3;have qq4 := rr4.out;clear rr4;have qq5 := rr5.out;clear rr5;have ga := Ba.cells;have gb := Bb.cells;have gc := Bc.cells;have gd := Bd.cells;have gz := Bz.cells;refine wrt 17 (by kernel_rfl) (by kernel_rfl) ?_;simp only [tK1, tK0, dP1, dP0];repeat (first | (refine zA0 (Eq.refl false) ?_; simp only [Act.put, sT2, sT1, sT0]) | (refine rWalk_step (fun K hK => ?_); go_simp; first | (refine hK _ ?_; clear hK K) | (apply Exists.intro; refine ⟨fun _ => ?_, hK _ ?_⟩; (first | with_reducible exact toExt m3 _ | with_reducible exact toExt s2 _); clear hK K)))
 refine rWalk_nil ?_;intro w10 hb;clear ga gb gc gd gz;obtain ⟨Ba, Bb, Bc, Bd, Bz, hw, -⟩ := X5 Ba Bb Bc Bd Bz hw hb;clear qq0 qq1 qq2 qq3 qq4 qq5 a1 a2 a3 a4 a5 a6 a7 a8 a9 a10 a11 a12 g1 g2 g3 g4 g5 g6;obtain ⟨xa, ya, za, va⟩ := Ba.f;obtain ⟨xb, yb, zb, vb⟩ := Bb.f;obtain ⟨xc, yc, zc, vc⟩ := Bc.f;obtain ⟨xd, yd, zd, vd⟩ := Bd.f;obtain ⟨xz, yz, zz, vz⟩ := Bz.f;go_wp2_with fail;refine zA1 fun W11 hW => ?_;have Ca : Box W11 (w.heap.size) [.int .i64 a.x, .int .i64 a.y] 30 := by rw [hW]; exact ((Ba.sn bkz 0 (.int .i64 H3) (by first | assumption | omega)).sn bkz 1 (.int .u64 L3) (by first | assumption | omega))
 have Cb : Box W11 (w.heap.size + 1) [.int .i64 b.x, .int .i64 b.y] 30 := by rw [hW]; exact ((Bb.sn bkz 0 (.int .i64 H3) (by first | assumption | omega)).sn bkz 1 (.int .u64 L3) (by first | assumption | omega))
 have Cc : Box W11 (w.heap.size + 1 + 1) [.int .i64 c.x, .int .i64 c.y] 30 := by rw [hW]; exact ((Bc.sn bkz 0 (.int .i64 H3) (by first | assumption | omega)).sn bkz 1 (.int .u64 L3) (by first | assumption | omega))
 have Cd : Box W11 (w.heap.size + 1 + 1 + 1) [.int .i64 d.x, .int .i64 d.y] 30 := by rw [hW]; exact ((Bd.sn bkz 0 (.int .i64 H3) (by first | assumption | omega)).sn bkz 1 (.int .u64 L3) (by first | assumption | omega))
 have Cz : Box W11 (bkz) [.int .i64 H3, .int .u64 L3] 132 := by rw [hW]; exact ((Bz.set 0 (.int .i64 H3)).set 1 (.int .u64 L3))
 replace hw : Below w.heap.size w W11 := by have hl := hw.size; rw [hW]; go_grown
 clear xa ya za va xb yb zb vb xc yc zc vc xd yd zd vd xz yz zz vz;clear hW Ba Bb Bc Bd Bz;have Ba := Ca;have Bb := Cb;have Bc := Cc;have Bd := Cd;have Bz := Cz;clear Ca Cb Cc Cd Cz;refine (s3 _).mono ?_;rintro e w12 ⟨rfl, hb⟩;obtain ⟨Ba, Bb, Bc, Bd, Bz, hw, -⟩ := X5 Ba Bb Bc Bd Bz hw hb;clear hb;obtain ⟨xa, ya, za, va⟩ := Ba.f;obtain ⟨xb, yb, zb, vb⟩ := Bb.f;obtain ⟨xc, yc, zc, vc⟩ := Bc.f;obtain ⟨xd, yd, zd, vd⟩ := Bd.f;obtain ⟨xz, yz, zz, vz⟩ := Bz.f;go_wp2_with fail;refine zA1 fun W13 hW => ?_;obtain ⟨bkx, hbx⟩ : ∃ b, w12.heap.size = b := ⟨_, rfl⟩;rw [hbx];obtain ⟨lax, lbx, lcx, ldx, lzx, fx, Bx, Ba, Bb, Bc, Bd, Bz, hw⟩ := M5 hW hbx Ba Bb Bc Bd Bz hw;clear hW hbx;obtain ⟨xa, ya, za, va⟩ := Ba.f;obtain ⟨xb, yb, zb, vb⟩ := Bb.f;obtain ⟨xc, yc, zc, vc⟩ := Bc.f;obtain ⟨xd, yd, zd, vd⟩ := Bd.f;obtain ⟨xz, yz, zz, vz⟩ := Bz.f;obtain ⟨xx, yx, zx, vx⟩ := Bx.f;have kc := zAb a d;have L1 : Hid (lsr a d = if cmpP a d < 0 then a else d) := Lib.hid rfl;generalize cmpP a d = k0 at *
 refine (kc _).mono ?_;rintro e w14 ⟨rfl, hb⟩;clear xa ya za va xb yb zb vb xc yc zc vc xd yd zd vd xz yz zz vz xx yx zx vx;obtain ⟨Ba, Bb, Bc, Bd, Bz, Bx, hw, -⟩ := X6 Ba Bb Bc Bd Bz Bx hw hb;clear hb;by_cases hk0 : k0 < 0
 ·have t2 : decide (k0 < 0) = true := by simpa using hk0
  have M0 : lsr a d = a := by rw [L1.out]; exact if_pos hk0
  have N0 := Lib.hid M0;clear M0 L1;obtain ⟨xa, ya, za, va⟩ := Ba.f;obtain ⟨xb, yb, zb, vb⟩ := Bb.f;obtain ⟨xc, yc, zc, vc⟩ := Bc.f;obtain ⟨xd, yd, zd, vd⟩ := Bd.f;obtain ⟨xz, yz, zz, vz⟩ := Bz.f;obtain ⟨xx, yx, zx, vx⟩ := Bx.f;go_wp2_with fail;refine zA1 fun W15 hW => ?_;have Ca : Box W15 (w.heap.size) [.int .i64 a.x, .int .i64 a.y] 30 := by rw [hW]; exact ((Ba.sn bkx 0 (.int .i64 a.x) (by first | assumption | omega)).sn bkx 1 (.int .i64 a.y) (by first | assumption | omega))
  have Cb : Box W15 (w.heap.size + 1) [.int .i64 b.x, .int .i64 b.y] 30 := by rw [hW]; exact ((Bb.sn bkx 0 (.int .i64 a.x) (by first | assumption | omega)).sn bkx 1 (.int .i64 a.y) (by first | assumption | omega))
  have Cc : Box W15 (w.heap.size + 1 + 1) [.int .i64 c.x, .int .i64 c.y] 30 := by rw [hW]; exact ((Bc.sn bkx 0 (.int .i64 a.x) (by first | assumption | omega)).sn bkx 1 (.int .i64 a.y) (by first | assumption | omega))
  have Cd : Box W15 (w.heap.size + 1 + 1 + 1) [.int .i64 d.x, .int .i64 d.y] 30 := by rw [hW]; exact ((Bd.sn bkx 0 (.int .i64 a.x) (by first | assumption | omega)).sn bkx 1 (.int .i64 a.y) (by first | assumption | omega))
  have Cz : Box W15 (bkz) [.int .i64 H3, .int .u64 L3] 132 := by rw [hW]; exact ((Bz.sn bkx 0 (.int .i64 a.x) (by first | assumption | omega)).sn bkx 1 (.int .i64 a.y) (by first | assumption | omega))
  have Cx : Box W15 (bkx) [.int .i64 a.x, .int .i64 a.y] 30 := by rw [hW]; exact ((Bx.set 0 (.int .i64 a.x)).set 1 (.int .i64 a.y))
  replace hw : Below w.heap.size w W15 := by have hl := hw.size; rw [hW]; go_grown
  clear xa ya za va xb yb zb vb xc yc zc vc xd yd zd vd xz yz zz vz xx yx zx vx;clear hW Ba Bb Bc Bd Bz Bx;have Ba := Ca;have Bb := Cb;have Bc := Cc;have Bd := Cd;have Bz := Cz;have Bx := Cx;clear Ca Cb Cc Cd Cz Cx;obtain ⟨xa, ya, za, va⟩ := Ba.f;obtain ⟨xb, yb, zb, vb⟩ := Bb.f;obtain ⟨xc, yc, zc, vc⟩ := Bc.f;obtain ⟨xd, yd, zd, vd⟩ := Bd.f;obtain ⟨xz, yz, zz, vz⟩ := Bz.f;obtain ⟨xx, yx, zx, vx⟩ := Bx.f;have kc := zAb b a;have L1 : Hid (lsr b a = if cmpP b a < 0 then b else a) := Lib.hid rfl;generalize cmpP b a = k1 at *
  refine (kc _).mono ?_;rintro e w16 ⟨rfl, hb⟩;clear xa ya za va xb yb zb vb xc yc zc vc xd yd zd vd xz yz zz vz xx yx zx vx;obtain ⟨Ba, Bb, Bc, Bd, Bz, Bx, hw, -⟩ := X6 Ba Bb Bc Bd Bz Bx hw hb;clear hb;by_cases hk1 : k1 < 0
  ·have t3 : decide (k1 < 0) = true := by simpa using hk1
   have M1 : lsr b a = b := by rw [L1.out]; exact if_pos hk1
   have N1 := Lib.hid M1;clear M1 L1;obtain ⟨xa, ya, za, va⟩ := Ba.f;obtain ⟨xb, yb, zb, vb⟩ := Bb.f;obtain ⟨xc, yc, zc, vc⟩ := Bc.f;obtain ⟨xd, yd, zd, vd⟩ := Bd.f;obtain ⟨xz, yz, zz, vz⟩ := Bz.f;obtain ⟨xx, yx, zx, vx⟩ := Bx.f;go_wp2_with fail;refine zA1 fun W17 hW => ?_;have Ca : Box W17 (w.heap.size) [.int .i64 a.x, .int .i64 a.y] 30 := by rw [hW]; exact ((Ba.sn bkx 0 (.int .i64 b.x) (by first | assumption | omega)).sn bkx 1 (.int .i64 b.y) (by first | assumption | omega))
   have Cb : Box W17 (w.heap.size + 1) [.int .i64 b.x, .int .i64 b.y] 30 := by rw [hW]; exact ((Bb.sn bkx 0 (.int .i64 b.x) (by first | assumption | omega)).sn bkx 1 (.int .i64 b.y) (by first | assumption | omega))
   have Cc : Box W17 (w.heap.size + 1 + 1) [.int .i64 c.x, .int .i64 c.y] 30 := by rw [hW]; exact ((Bc.sn bkx 0 (.int .i64 b.x) (by first | assumption | omega)).sn bkx 1 (.int .i64 b.y) (by first | assumption | omega))
   have Cd : Box W17 (w.heap.size + 1 + 1 + 1) [.int .i64 d.x, .int .i64 d.y] 30 := by rw [hW]; exact ((Bd.sn bkx 0 (.int .i64 b.x) (by first | assumption | omega)).sn bkx 1 (.int .i64 b.y) (by first | assumption | omega))
   have Cz : Box W17 (bkz) [.int .i64 H3, .int .u64 L3] 132 := by rw [hW]; exact ((Bz.sn bkx 0 (.int .i64 b.x) (by first | assumption | omega)).sn bkx 1 (.int .i64 b.y) (by first | assumption | omega))
   have Cx : Box W17 (bkx) [.int .i64 b.x, .int .i64 b.y] 30 := by rw [hW]; exact ((Bx.set 0 (.int .i64 b.x)).set 1 (.int .i64 b.y))
   replace hw : Below w.heap.size w W17 := by have hl := hw.size; rw [hW]; go_grown
   clear xa ya za va xb yb zb vb xc yc zc vc xd yd zd vd xz yz zz vz xx yx zx vx;clear hW Ba Bb Bc Bd Bz Bx;have Ba := Ca;have Bb := Cb;have Bc := Cc;have Bd := Cd;have Bz := Cz;have Bx := Cx;clear Ca Cb Cc Cd Cz Cx;obtain ⟨xa, ya, za, va⟩ := Ba.f;obtain ⟨xb, yb, zb, vb⟩ := Bb.f;obtain ⟨xc, yc, zc, vc⟩ := Bc.f;obtain ⟨xd, yd, zd, vd⟩ := Bd.f;obtain ⟨xz, yz, zz, vz⟩ := Bz.f;obtain ⟨xx, yx, zx, vx⟩ := Bx.f;have kc := zAb c b;have L1 : Hid (lsr c b = if cmpP c b < 0 then c else b) := Lib.hid rfl;generalize cmpP c b = k2 at *
   refine (kc _).mono ?_;rintro e w18 ⟨rfl, hb⟩;clear xa ya za va xb yb zb vb xc yc zc vc xd yd zd vd xz yz zz vz xx yx zx vx;obtain ⟨Ba, Bb, Bc, Bd, Bz, Bx, hw, -⟩ := X6 Ba Bb Bc Bd Bz Bx hw hb;clear hb;by_cases hk2 : k2 < 0
   ·have t4 : decide (k2 < 0) = true := by simpa using hk2
    have M2 : lsr c b = c := by rw [L1.out]; exact if_pos hk2
    have N2 := Lib.hid M2;clear M2 L1;obtain ⟨xa, ya, za, va⟩ := Ba.f;obtain ⟨xb, yb, zb, vb⟩ := Bb.f;obtain ⟨xc, yc, zc, vc⟩ := Bc.f;obtain ⟨xd, yd, zd, vd⟩ := Bd.f;obtain ⟨xz, yz, zz, vz⟩ := Bz.f;obtain ⟨xx, yx, zx, vx⟩ := Bx.f;go_wp2_with fail;refine zA1 fun W19 hW => ?_;have Ca : Box W19 (w.heap.size) [.int .i64 a.x, .int .i64 a.y] 30 := by rw [hW]; exact ((Ba.sn bkx 0 (.int .i64 c.x) (by first | assumption | omega)).sn bkx 1 (.int .i64 c.y) (by first | assumption | omega))
    have Cb : Box W19 (w.heap.size + 1) [.int .i64 b.x, .int .i64 b.y] 30 := by rw [hW]; exact ((Bb.sn bkx 0 (.int .i64 c.x) (by first | assumption | omega)).sn bkx 1 (.int .i64 c.y) (by first | assumption | omega))
    have Cc : Box W19 (w.heap.size + 1 + 1) [.int .i64 c.x, .int .i64 c.y] 30 := by rw [hW]; exact ((Bc.sn bkx 0 (.int .i64 c.x) (by first | assumption | omega)).sn bkx 1 (.int .i64 c.y) (by first | assumption | omega))
    have Cd : Box W19 (w.heap.size + 1 + 1 + 1) [.int .i64 d.x, .int .i64 d.y] 30 := by rw [hW]; exact ((Bd.sn bkx 0 (.int .i64 c.x) (by first | assumption | omega)).sn bkx 1 (.int .i64 c.y) (by first | assumption | omega))
    have Cz : Box W19 (bkz) [.int .i64 H3, .int .u64 L3] 132 := by rw [hW]; exact ((Bz.sn bkx 0 (.int .i64 c.x) (by first | assumption | omega)).sn bkx 1 (.int .i64 c.y) (by first | assumption | omega))
    have Cx : Box W19 (bkx) [.int .i64 c.x, .int .i64 c.y] 30 := by rw [hW]; exact ((Bx.set 0 (.int .i64 c.x)).set 1 (.int .i64 c.y))
    replace hw : Below w.heap.size w W19 := by have hl := hw.size; rw [hW]; go_grown
    clear xa ya za va xb yb zb vb xc yc zc vc xd yd zd vd xz yz zz vz xx yx zx vx;clear hW Ba Bb Bc Bd Bz Bx;have Ba := Ca;have Bb := Cb;have Bc := Cc;have Bd := Cd;have Bz := Cz;have Bx := Cx;clear Ca Cb Cc Cd Cz Cx;obtain ⟨xa, ya, za, va⟩ := Ba.f;obtain ⟨xb, yb, zb, vb⟩ := Bb.f;obtain ⟨xc, yc, zc, vc⟩ := Bc.f;obtain ⟨xd, yd, zd, vd⟩ := Bd.f;obtain ⟨xz, yz, zz, vz⟩ := Bz.f;obtain ⟨xx, yx, zx, vx⟩ := Bx.f;obtain ⟨xa, ya, za, va⟩ := Ba.f;obtain ⟨xb, yb, zb, vb⟩ := Bb.f;obtain ⟨xc, yc, zc, vc⟩ := Bc.f;obtain ⟨xd, yd, zd, vd⟩ := Bd.f;obtain ⟨xz, yz, zz, vz⟩ := Bz.f;obtain ⟨xx, yx, zx, vx⟩ := Bx.f;have co2 := zA4 a b d;have bo2 := zB4 a b d;have E : Hid (tie a b c d (lsr c (lsr b (lsr a d))) 1 = -ori a b d) := Lib.hid (by rw [N0.out]; rw [N1.out]; rw [N2.out]; simp [tie, f3, d2, d3]);generalize ori a b d = o2 at *
    go_wp2_with fail;refine (co2 _).mono ?_;rintro e w20 ⟨rfl, hb⟩;clear xa ya za va xb yb zb vb xc yc zc vc xd yd zd vd xz yz zz vz xx yx zx vx;obtain ⟨Ba, Bb, Bc, Bd, Bz, Bx, hw, -⟩ := X6 Ba Bb Bc Bd Bz Bx hw hb;clear hb;go_wp2
    go_ret
    exact ⟨zAq (by rw [E.out]), hw⟩
   ·have t4 : decide (k2 < 0) = false := by simpa using hk2
    have M2 : lsr c b = b := by rw [L1.out]; exact if_neg hk2
    have N2 := Lib.hid M2;clear M2 L1;obtain ⟨xa, ya, za, va⟩ := Ba.f;obtain ⟨xb, yb, zb, vb⟩ := Bb.f;obtain ⟨xc, yc, zc, vc⟩ := Bc.f;obtain ⟨xd, yd, zd, vd⟩ := Bd.f;obtain ⟨xz, yz, zz, vz⟩ := Bz.f;obtain ⟨xx, yx, zx, vx⟩ := Bx.f;go_wp2_with fail;obtain ⟨xa, ya, za, va⟩ := Ba.f;obtain ⟨xb, yb, zb, vb⟩ := Bb.f;obtain ⟨xc, yc, zc, vc⟩ := Bc.f;obtain ⟨xd, yd, zd, vd⟩ := Bd.f;obtain ⟨xz, yz, zz, vz⟩ := Bz.f;obtain ⟨xx, yx, zx, vx⟩ := Bx.f;have co2 := zA4 a d c;have bo2 := zB4 a d c;have E : Hid (tie a b c d (lsr c (lsr b (lsr a d))) 1 = -ori a d c) := Lib.hid (by rw [N0.out]; rw [N1.out]; rw [N2.out]; simp [tie, f2, d1, i2]);generalize ori a d c = o2 at *
    go_wp2_with fail;refine (co2 _).mono ?_;rintro e w19 ⟨rfl, hb⟩;clear xa ya za va xb yb zb vb xc yc zc vc xd yd zd vd xz yz zz vz xx yx zx vx;obtain ⟨Ba, Bb, Bc, Bd, Bz, Bx, hw, -⟩ := X6 Ba Bb Bc Bd Bz Bx hw hb;clear hb;go_wp2
    go_ret
    exact ⟨zAq (by rw [E.out]), hw⟩
  ·have t3 : decide (k1 < 0) = false := by simpa using hk1
   have M1 : lsr b a = a := by rw [L1.out]; exact if_neg hk1
   have N1 := Lib.hid M1;clear M1 L1;obtain ⟨xa, ya, za, va⟩ := Ba.f;obtain ⟨xb, yb, zb, vb⟩ := Bb.f;obtain ⟨xc, yc, zc, vc⟩ := Bc.f;obtain ⟨xd, yd, zd, vd⟩ := Bd.f;obtain ⟨xz, yz, zz, vz⟩ := Bz.f;obtain ⟨xx, yx, zx, vx⟩ := Bx.f;go_wp2_with fail;have kc := zAb c a;have L1 : Hid (lsr c a = if cmpP c a < 0 then c else a) := Lib.hid rfl;generalize cmpP c a = k2 at *
   refine (kc _).mono ?_;rintro e w17 ⟨rfl, hb⟩;clear xa ya za va xb yb zb vb xc yc zc vc xd yd zd vd xz yz zz vz xx yx zx vx;obtain ⟨Ba, Bb, Bc, Bd, Bz, Bx, hw, -⟩ := X6 Ba Bb Bc Bd Bz Bx hw hb;clear hb;by_cases hk2 : k2 < 0
   ·have t4 : decide (k2 < 0) = true := by simpa using hk2
    have M2 : lsr c a = c := by rw [L1.out]; exact if_pos hk2
    have N2 := Lib.hid M2;clear M2 L1;obtain ⟨xa, ya, za, va⟩ := Ba.f;obtain ⟨xb, yb, zb, vb⟩ := Bb.f;obtain ⟨xc, yc, zc, vc⟩ := Bc.f;obtain ⟨xd, yd, zd, vd⟩ := Bd.f;obtain ⟨xz, yz, zz, vz⟩ := Bz.f;obtain ⟨xx, yx, zx, vx⟩ := Bx.f;go_wp2_with fail;refine zA1 fun W18 hW => ?_;have Ca : Box W18 (w.heap.size) [.int .i64 a.x, .int .i64 a.y] 30 := by rw [hW]; exact ((Ba.sn bkx 0 (.int .i64 c.x) (by first | assumption | omega)).sn bkx 1 (.int .i64 c.y) (by first | assumption | omega))
    have Cb : Box W18 (w.heap.size + 1) [.int .i64 b.x, .int .i64 b.y] 30 := by rw [hW]; exact ((Bb.sn bkx 0 (.int .i64 c.x) (by first | assumption | omega)).sn bkx 1 (.int .i64 c.y) (by first | assumption | omega))
    have Cc : Box W18 (w.heap.size + 1 + 1) [.int .i64 c.x, .int .i64 c.y] 30 := by rw [hW]; exact ((Bc.sn bkx 0 (.int .i64 c.x) (by first | assumption | omega)).sn bkx 1 (.int .i64 c.y) (by first | assumption | omega))
    have Cd : Box W18 (w.heap.size + 1 + 1 + 1) [.int .i64 d.x, .int .i64 d.y] 30 := by rw [hW]; exact ((Bd.sn bkx 0 (.int .i64 c.x) (by first | assumption | omega)).sn bkx 1 (.int .i64 c.y) (by first | assumption | omega))
    have Cz : Box W18 (bkz) [.int .i64 H3, .int .u64 L3] 132 := by rw [hW]; exact ((Bz.sn bkx 0 (.int .i64 c.x) (by first | assumption | omega)).sn bkx 1 (.int .i64 c.y) (by first | assumption | omega))
    have Cx : Box W18 (bkx) [.int .i64 c.x, .int .i64 c.y] 30 := by rw [hW]; exact ((Bx.set 0 (.int .i64 c.x)).set 1 (.int .i64 c.y))
    replace hw : Below w.heap.size w W18 := by have hl := hw.size; rw [hW]; go_grown
    clear xa ya za va xb yb zb vb xc yc zc vc xd yd zd vd xz yz zz vz xx yx zx vx;clear hW Ba Bb Bc Bd Bz Bx;have Ba := Ca;have Bb := Cb;have Bc := Cc;have Bd := Cd;have Bz := Cz;have Bx := Cx;clear Ca Cb Cc Cd Cz Cx;obtain ⟨xa, ya, za, va⟩ := Ba.f;obtain ⟨xb, yb, zb, vb⟩ := Bb.f;obtain ⟨xc, yc, zc, vc⟩ := Bc.f;obtain ⟨xd, yd, zd, vd⟩ := Bd.f;obtain ⟨xz, yz, zz, vz⟩ := Bz.f;obtain ⟨xx, yx, zx, vx⟩ := Bx.f;obtain ⟨xa, ya, za, va⟩ := Ba.f;obtain ⟨xb, yb, zb, vb⟩ := Bb.f;obtain ⟨xc, yc, zc, vc⟩ := Bc.f;obtain ⟨xd, yd, zd, vd⟩ := Bd.f;obtain ⟨xz, yz, zz, vz⟩ := Bz.f;obtain ⟨xx, yx, zx, vx⟩ := Bx.f;have co2 := zA4 a b d;have bo2 := zB4 a b d;have E : Hid (tie a b c d (lsr c (lsr b (lsr a d))) 1 = -ori a b d) := Lib.hid (by rw [N0.out]; rw [N1.out]; rw [N2.out]; simp [tie, f3, d2, d3]);generalize ori a b d = o2 at *
    go_wp2_with fail;refine (co2 _).mono ?_;rintro e w19 ⟨rfl, hb⟩;clear xa ya za va xb yb zb vb xc yc zc vc xd yd zd vd xz yz zz vz xx yx zx vx;obtain ⟨Ba, Bb, Bc, Bd, Bz, Bx, hw, -⟩ := X6 Ba Bb Bc Bd Bz Bx hw hb;clear hb;go_wp2
    go_ret
    exact ⟨zAq (by rw [E.out]), hw⟩
   ·have t4 : decide (k2 < 0) = false := by simpa using hk2
    have M2 : lsr c a = a := by rw [L1.out]; exact if_neg hk2
    have N2 := Lib.hid M2;clear M2 L1;obtain ⟨xa, ya, za, va⟩ := Ba.f;obtain ⟨xb, yb, zb, vb⟩ := Bb.f;obtain ⟨xc, yc, zc, vc⟩ := Bc.f;obtain ⟨xd, yd, zd, vd⟩ := Bd.f;obtain ⟨xz, yz, zz, vz⟩ := Bz.f;obtain ⟨xx, yx, zx, vx⟩ := Bx.f;go_wp2_with fail;obtain ⟨xa, ya, za, va⟩ := Ba.f;obtain ⟨xb, yb, zb, vb⟩ := Bb.f;obtain ⟨xc, yc, zc, vc⟩ := Bc.f;obtain ⟨xd, yd, zd, vd⟩ := Bd.f;obtain ⟨xz, yz, zz, vz⟩ := Bz.f;obtain ⟨xx, yx, zx, vx⟩ := Bx.f;have co2 := zA4 d b c;have bo2 := zB4 d b c;have E : Hid (tie a b c d (lsr c (lsr b (lsr a d))) 1 = -ori d b c) := Lib.hid (by rw [N0.out]; rw [N1.out]; rw [N2.out]; simp [tie, f1, i1]);generalize ori d b c = o2 at *
    go_wp2_with fail;refine (co2 _).mono ?_;rintro e w18 ⟨rfl, hb⟩;clear xa ya za va xb yb zb vb xc yc zc vc xd yd zd vd xz yz zz vz xx yx zx vx;obtain ⟨Ba, Bb, Bc, Bd, Bz, Bx, hw, -⟩ := X6 Ba Bb Bc Bd Bz Bx hw hb;clear hb;go_wp2
    go_ret
    exact ⟨zAq (by rw [E.out]), hw⟩
 ·have t2 : decide (k0 < 0) = false := by simpa using hk0
  have M0 : lsr a d = d := by rw [L1.out]; exact if_neg hk0
  have N0 := Lib.hid M0;clear M0 L1;obtain ⟨xa, ya, za, va⟩ := Ba.f;obtain ⟨xb, yb, zb, vb⟩ := Bb.f;obtain ⟨xc, yc, zc, vc⟩ := Bc.f;obtain ⟨xd, yd, zd, vd⟩ := Bd.f;obtain ⟨xz, yz, zz, vz⟩ := Bz.f;obtain ⟨xx, yx, zx, vx⟩ := Bx.f;go_wp2_with fail;have kc := zAb b d;have L1 : Hid (lsr b d = if cmpP b d < 0 then b else d) := Lib.hid rfl;generalize cmpP b d = k1 at *
  refine (kc _).mono ?_;rintro e w15 ⟨rfl, hb⟩;clear xa ya za va xb yb zb vb xc yc zc vc xd yd zd vd xz yz zz vz xx yx zx vx;obtain ⟨Ba, Bb, Bc, Bd, Bz, Bx, hw, -⟩ := X6 Ba Bb Bc Bd Bz Bx hw hb;clear hb;by_cases hk1 : k1 < 0
  ·have t3 : decide (k1 < 0) = true := by simpa using hk1
   have M1 : lsr b d = b := by rw [L1.out]; exact if_pos hk1
   have N1 := Lib.hid M1;clear M1 L1;obtain ⟨xa, ya, za, va⟩ := Ba.f;obtain ⟨xb, yb, zb, vb⟩ := Bb.f;obtain ⟨xc, yc, zc, vc⟩ := Bc.f;obtain ⟨xd, yd, zd, vd⟩ := Bd.f;obtain ⟨xz, yz, zz, vz⟩ := Bz.f;obtain ⟨xx, yx, zx, vx⟩ := Bx.f;go_wp2_with fail;refine zA1 fun W16 hW => ?_;have Ca : Box W16 (w.heap.size) [.int .i64 a.x, .int .i64 a.y] 30 := by rw [hW]; exact ((Ba.sn bkx 0 (.int .i64 b.x) (by first | assumption | omega)).sn bkx 1 (.int .i64 b.y) (by first | assumption | omega))
   have Cb : Box W16 (w.heap.size + 1) [.int .i64 b.x, .int .i64 b.y] 30 := by rw [hW]; exact ((Bb.sn bkx 0 (.int .i64 b.x) (by first | assumption | omega)).sn bkx 1 (.int .i64 b.y) (by first | assumption | omega))
   have Cc : Box W16 (w.heap.size + 1 + 1) [.int .i64 c.x, .int .i64 c.y] 30 := by rw [hW]; exact ((Bc.sn bkx 0 (.int .i64 b.x) (by first | assumption | omega)).sn bkx 1 (.int .i64 b.y) (by first | assumption | omega))
   have Cd : Box W16 (w.heap.size + 1 + 1 + 1) [.int .i64 d.x, .int .i64 d.y] 30 := by rw [hW]; exact ((Bd.sn bkx 0 (.int .i64 b.x) (by first | assumption | omega)).sn bkx 1 (.int .i64 b.y) (by first | assumption | omega))
   have Cz : Box W16 (bkz) [.int .i64 H3, .int .u64 L3] 132 := by rw [hW]; exact ((Bz.sn bkx 0 (.int .i64 b.x) (by first | assumption | omega)).sn bkx 1 (.int .i64 b.y) (by first | assumption | omega))
   have Cx : Box W16 (bkx) [.int .i64 b.x, .int .i64 b.y] 30 := by rw [hW]; exact ((Bx.set 0 (.int .i64 b.x)).set 1 (.int .i64 b.y))
   replace hw : Below w.heap.size w W16 := by have hl := hw.size; rw [hW]; go_grown
   clear xa ya za va xb yb zb vb xc yc zc vc xd yd zd vd xz yz zz vz xx yx zx vx;clear hW Ba Bb Bc Bd Bz Bx;have Ba := Ca;have Bb := Cb;have Bc := Cc;have Bd := Cd;have Bz := Cz;have Bx := Cx;clear Ca Cb Cc Cd Cz Cx;obtain ⟨xa, ya, za, va⟩ := Ba.f;obtain ⟨xb, yb, zb, vb⟩ := Bb.f;obtain ⟨xc, yc, zc, vc⟩ := Bc.f;obtain ⟨xd, yd, zd, vd⟩ := Bd.f;obtain ⟨xz, yz, zz, vz⟩ := Bz.f;obtain ⟨xx, yx, zx, vx⟩ := Bx.f;have kc := zAb c b;have L1 : Hid (lsr c b = if cmpP c b < 0 then c else b) := Lib.hid rfl;generalize cmpP c b = k2 at *
   refine (kc _).mono ?_;rintro e w17 ⟨rfl, hb⟩;clear xa ya za va xb yb zb vb xc yc zc vc xd yd zd vd xz yz zz vz xx yx zx vx;obtain ⟨Ba, Bb, Bc, Bd, Bz, Bx, hw, -⟩ := X6 Ba Bb Bc Bd Bz Bx hw hb;clear hb;by_cases hk2 : k2 < 0
   ·have t4 : decide (k2 < 0) = true := by simpa using hk2
    have M2 : lsr c b = c := by rw [L1.out]; exact if_pos hk2
    have N2 := Lib.hid M2;clear M2 L1;obtain ⟨xa, ya, za, va⟩ := Ba.f;obtain ⟨xb, yb, zb, vb⟩ := Bb.f;obtain ⟨xc, yc, zc, vc⟩ := Bc.f;obtain ⟨xd, yd, zd, vd⟩ := Bd.f;obtain ⟨xz, yz, zz, vz⟩ := Bz.f;obtain ⟨xx, yx, zx, vx⟩ := Bx.f;go_wp2_with fail;refine zA1 fun W18 hW => ?_;have Ca : Box W18 (w.heap.size) [.int .i64 a.x, .int .i64 a.y] 30 := by rw [hW]; exact ((Ba.sn bkx 0 (.int .i64 c.x) (by first | assumption | omega)).sn bkx 1 (.int .i64 c.y) (by first | assumption | omega))
    have Cb : Box W18 (w.heap.size + 1) [.int .i64 b.x, .int .i64 b.y] 30 := by rw [hW]; exact ((Bb.sn bkx 0 (.int .i64 c.x) (by first | assumption | omega)).sn bkx 1 (.int .i64 c.y) (by first | assumption | omega))
    have Cc : Box W18 (w.heap.size + 1 + 1) [.int .i64 c.x, .int .i64 c.y] 30 := by rw [hW]; exact ((Bc.sn bkx 0 (.int .i64 c.x) (by first | assumption | omega)).sn bkx 1 (.int .i64 c.y) (by first | assumption | omega))
    have Cd : Box W18 (w.heap.size + 1 + 1 + 1) [.int .i64 d.x, .int .i64 d.y] 30 := by rw [hW]; exact ((Bd.sn bkx 0 (.int .i64 c.x) (by first | assumption | omega)).sn bkx 1 (.int .i64 c.y) (by first | assumption | omega))
    have Cz : Box W18 (bkz) [.int .i64 H3, .int .u64 L3] 132 := by rw [hW]; exact ((Bz.sn bkx 0 (.int .i64 c.x) (by first | assumption | omega)).sn bkx 1 (.int .i64 c.y) (by first | assumption | omega))
    have Cx : Box W18 (bkx) [.int .i64 c.x, .int .i64 c.y] 30 := by rw [hW]; exact ((Bx.set 0 (.int .i64 c.x)).set 1 (.int .i64 c.y))
    replace hw : Below w.heap.size w W18 := by have hl := hw.size; rw [hW]; go_grown
    clear xa ya za va xb yb zb vb xc yc zc vc xd yd zd vd xz yz zz vz xx yx zx vx;clear hW Ba Bb Bc Bd Bz Bx;have Ba := Ca;have Bb := Cb;have Bc := Cc;have Bd := Cd;have Bz := Cz;have Bx := Cx;clear Ca Cb Cc Cd Cz Cx;obtain ⟨xa, ya, za, va⟩ := Ba.f;obtain ⟨xb, yb, zb, vb⟩ := Bb.f;obtain ⟨xc, yc, zc, vc⟩ := Bc.f;obtain ⟨xd, yd, zd, vd⟩ := Bd.f;obtain ⟨xz, yz, zz, vz⟩ := Bz.f;obtain ⟨xx, yx, zx, vx⟩ := Bx.f;obtain ⟨xa, ya, za, va⟩ := Ba.f;obtain ⟨xb, yb, zb, vb⟩ := Bb.f;obtain ⟨xc, yc, zc, vc⟩ := Bc.f;obtain ⟨xd, yd, zd, vd⟩ := Bd.f;obtain ⟨xz, yz, zz, vz⟩ := Bz.f;obtain ⟨xx, yx, zx, vx⟩ := Bx.f;have co2 := zA4 a b d;have bo2 := zB4 a b d;have E : Hid (tie a b c d (lsr c (lsr b (lsr a d))) 1 = -ori a b d) := Lib.hid (by rw [N0.out]; rw [N1.out]; rw [N2.out]; simp [tie, f3, d2, d3]);generalize ori a b d = o2 at *
    go_wp2_with fail;refine (co2 _).mono ?_;rintro e w19 ⟨rfl, hb⟩;clear xa ya za va xb yb zb vb xc yc zc vc xd yd zd vd xz yz zz vz xx yx zx vx;obtain ⟨Ba, Bb, Bc, Bd, Bz, Bx, hw, -⟩ := X6 Ba Bb Bc Bd Bz Bx hw hb;clear hb;go_wp2
    go_ret
    exact ⟨zAq (by rw [E.out]), hw⟩
   ·have t4 : decide (k2 < 0) = false := by simpa using hk2
    have M2 : lsr c b = b := by rw [L1.out]; exact if_neg hk2
    have N2 := Lib.hid M2;clear M2 L1;obtain ⟨xa, ya, za, va⟩ := Ba.f;obtain ⟨xb, yb, zb, vb⟩ := Bb.f;obtain ⟨xc, yc, zc, vc⟩ := Bc.f;obtain ⟨xd, yd, zd, vd⟩ := Bd.f;obtain ⟨xz, yz, zz, vz⟩ := Bz.f;obtain ⟨xx, yx, zx, vx⟩ := Bx.f;go_wp2_with fail;obtain ⟨xa, ya, za, va⟩ := Ba.f;obtain ⟨xb, yb, zb, vb⟩ := Bb.f;obtain ⟨xc, yc, zc, vc⟩ := Bc.f;obtain ⟨xd, yd, zd, vd⟩ := Bd.f;obtain ⟨xz, yz, zz, vz⟩ := Bz.f;obtain ⟨xx, yx, zx, vx⟩ := Bx.f;have co2 := zA4 a d c;have bo2 := zB4 a d c;have E : Hid (tie a b c d (lsr c (lsr b (lsr a d))) 1 = -ori a d c) := Lib.hid (by rw [N0.out]; rw [N1.out]; rw [N2.out]; simp [tie, f2, d1, i2]);generalize ori a d c = o2 at *
    go_wp2_with fail;refine (co2 _).mono ?_;rintro e w18 ⟨rfl, hb⟩;clear xa ya za va xb yb zb vb xc yc zc vc xd yd zd vd xz yz zz vz xx yx zx vx;obtain ⟨Ba, Bb, Bc, Bd, Bz, Bx, hw, -⟩ := X6 Ba Bb Bc Bd Bz Bx hw hb;clear hb;go_wp2
    go_ret
    exact ⟨zAq (by rw [E.out]), hw⟩
  ·have t3 : decide (k1 < 0) = false := by simpa using hk1
   have M1 : lsr b d = d := by rw [L1.out]; exact if_neg hk1
   have N1 := Lib.hid M1;clear M1 L1;obtain ⟨xa, ya, za, va⟩ := Ba.f;obtain ⟨xb, yb, zb, vb⟩ := Bb.f;obtain ⟨xc, yc, zc, vc⟩ := Bc.f;obtain ⟨xd, yd, zd, vd⟩ := Bd.f;obtain ⟨xz, yz, zz, vz⟩ := Bz.f;obtain ⟨xx, yx, zx, vx⟩ := Bx.f;go_wp2_with fail;have kc := zAb c d;have L1 : Hid (lsr c d = if cmpP c d < 0 then c else d) := Lib.hid rfl;generalize cmpP c d = k2 at *
   refine (kc _).mono ?_;rintro e w16 ⟨rfl, hb⟩;clear xa ya za va xb yb zb vb xc yc zc vc xd yd zd vd xz yz zz vz xx yx zx vx;obtain ⟨Ba, Bb, Bc, Bd, Bz, Bx, hw, -⟩ := X6 Ba Bb Bc Bd Bz Bx hw hb;clear hb;by_cases hk2 : k2 < 0
   ·have t4 : decide (k2 < 0) = true := by simpa using hk2
    have M2 : lsr c d = c := by rw [L1.out]; exact if_pos hk2
    have N2 := Lib.hid M2;clear M2 L1;obtain ⟨xa, ya, za, va⟩ := Ba.f;obtain ⟨xb, yb, zb, vb⟩ := Bb.f;obtain ⟨xc, yc, zc, vc⟩ := Bc.f;obtain ⟨xd, yd, zd, vd⟩ := Bd.f;obtain ⟨xz, yz, zz, vz⟩ := Bz.f;obtain ⟨xx, yx, zx, vx⟩ := Bx.f;go_wp2_with fail;refine zA1 fun W17 hW => ?_;have Ca : Box W17 (w.heap.size) [.int .i64 a.x, .int .i64 a.y] 30 := by rw [hW]; exact ((Ba.sn bkx 0 (.int .i64 c.x) (by first | assumption | omega)).sn bkx 1 (.int .i64 c.y) (by first | assumption | omega))
    have Cb : Box W17 (w.heap.size + 1) [.int .i64 b.x, .int .i64 b.y] 30 := by rw [hW]; exact ((Bb.sn bkx 0 (.int .i64 c.x) (by first | assumption | omega)).sn bkx 1 (.int .i64 c.y) (by first | assumption | omega))
    have Cc : Box W17 (w.heap.size + 1 + 1) [.int .i64 c.x, .int .i64 c.y] 30 := by rw [hW]; exact ((Bc.sn bkx 0 (.int .i64 c.x) (by first | assumption | omega)).sn bkx 1 (.int .i64 c.y) (by first | assumption | omega))
    have Cd : Box W17 (w.heap.size + 1 + 1 + 1) [.int .i64 d.x, .int .i64 d.y] 30 := by rw [hW]; exact ((Bd.sn bkx 0 (.int .i64 c.x) (by first | assumption | omega)).sn bkx 1 (.int .i64 c.y) (by first | assumption | omega))
    have Cz : Box W17 (bkz) [.int .i64 H3, .int .u64 L3] 132 := by rw [hW]; exact ((Bz.sn bkx 0 (.int .i64 c.x) (by first | assumption | omega)).sn bkx 1 (.int .i64 c.y) (by first | assumption | omega))
    have Cx : Box W17 (bkx) [.int .i64 c.x, .int .i64 c.y] 30 := by rw [hW]; exact ((Bx.set 0 (.int .i64 c.x)).set 1 (.int .i64 c.y))
    replace hw : Below w.heap.size w W17 := by have hl := hw.size; rw [hW]; go_grown
    clear xa ya za va xb yb zb vb xc yc zc vc xd yd zd vd xz yz zz vz xx yx zx vx;clear hW Ba Bb Bc Bd Bz Bx;have Ba := Ca;have Bb := Cb;have Bc := Cc;have Bd := Cd;have Bz := Cz;have Bx := Cx;clear Ca Cb Cc Cd Cz Cx;obtain ⟨xa, ya, za, va⟩ := Ba.f;obtain ⟨xb, yb, zb, vb⟩ := Bb.f;obtain ⟨xc, yc, zc, vc⟩ := Bc.f;obtain ⟨xd, yd, zd, vd⟩ := Bd.f;obtain ⟨xz, yz, zz, vz⟩ := Bz.f;obtain ⟨xx, yx, zx, vx⟩ := Bx.f;obtain ⟨xa, ya, za, va⟩ := Ba.f;obtain ⟨xb, yb, zb, vb⟩ := Bb.f;obtain ⟨xc, yc, zc, vc⟩ := Bc.f;obtain ⟨xd, yd, zd, vd⟩ := Bd.f;obtain ⟨xz, yz, zz, vz⟩ := Bz.f;obtain ⟨xx, yx, zx, vx⟩ := Bx.f;have co2 := zA4 a b d;have bo2 := zB4 a b d;have E : Hid (tie a b c d (lsr c (lsr b (lsr a d))) 1 = -ori a b d) := Lib.hid (by rw [N0.out]; rw [N1.out]; rw [N2.out]; simp [tie, f3, d2, d3]);generalize ori a b d = o2 at *
    go_wp2_with fail;refine (co2 _).mono ?_;rintro e w18 ⟨rfl, hb⟩;clear xa ya za va xb yb zb vb xc yc zc vc xd yd zd vd xz yz zz vz xx yx zx vx;obtain ⟨Ba, Bb, Bc, Bd, Bz, Bx, hw, -⟩ := X6 Ba Bb Bc Bd Bz Bx hw hb;clear hb;go_wp2
    go_ret
    exact ⟨zAq (by rw [E.out]), hw⟩
   ·have t4 : decide (k2 < 0) = false := by simpa using hk2
    have M2 : lsr c d = d := by rw [L1.out]; exact if_neg hk2
    have N2 := Lib.hid M2;clear M2 L1;obtain ⟨xa, ya, za, va⟩ := Ba.f;obtain ⟨xb, yb, zb, vb⟩ := Bb.f;obtain ⟨xc, yc, zc, vc⟩ := Bc.f;obtain ⟨xd, yd, zd, vd⟩ := Bd.f;obtain ⟨xz, yz, zz, vz⟩ := Bz.f;obtain ⟨xx, yx, zx, vx⟩ := Bx.f;go_wp2_with fail;obtain ⟨xa, ya, za, va⟩ := Ba.f;obtain ⟨xb, yb, zb, vb⟩ := Bb.f;obtain ⟨xc, yc, zc, vc⟩ := Bc.f;obtain ⟨xd, yd, zd, vd⟩ := Bd.f;obtain ⟨xz, yz, zz, vz⟩ := Bz.f;obtain ⟨xx, yx, zx, vx⟩ := Bx.f;have E : Hid (tie a b c d (lsr c (lsr b (lsr a d))) 1 = 1) := Lib.hid (by rw [N0.out]; rw [N1.out]; rw [N2.out]; simp [tie, i3]);go_wp2
    go_ret
    exact ⟨zAq (by rw [E.out]), hw⟩
end Go.Proofs.YtmobnmjjmafibaaGreat
