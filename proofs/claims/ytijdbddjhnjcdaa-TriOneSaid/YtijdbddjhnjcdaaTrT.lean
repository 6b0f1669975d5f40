/- Three points sorted; two rows of the same three points are one. -/
import Derived.Test.YtijdbddjhnjcdaaRows
import Derived.Test.YtijdbddjhnjcdaaTrS
import Derived.Test.YtijdbddjhnjcdaaPost
import Derived.WalkKit
import Derived.WalkSpells
import Derived.WalkLawsBesides
import Derived.Laws.Externs
import Derived.Deep.QuietTactic
import Derived.BigQuiet
import Derived.Lib.Hide
import Derived.Handy
import Derived.LoopN
namespace Go.Proofs.Ytijdbddjhnjcdaa
open Go.RowKit Go.Sort
attribute [local go_sem] rOper rAt rUpon cell_set sg_i64 sg_u64 alloc_cell alloc_frozen
attribute [local go_sem 10000] pt_eql pt_neq
attribute [local irreducible] rWalk

/-- Three points, the least first. -/
def srt3 (x y z : Pt) : Tri3 :=
  if key x < key y then (if key y < key z then ⟨x, y, z⟩ else if key x < key z then ⟨x, z, y⟩ else ⟨z, x, y⟩)
  else (if key x < key z then ⟨y, x, z⟩ else if key y < key z then ⟨y, z, x⟩ else ⟨z, y, x⟩)
theorem cmp_m {p q : Pt} (hp : vld p = true) (hq : vld q = true) (h : key p < key q) : cmpP p q = -1 := by rw [cmpP_key hp hq]; exact sgn_n (by omega)
theorem cmp_p {p q : Pt} (hp : vld p = true) (hq : vld q = true) (h : key q < key p) : cmpP p q = 1 := by rw [cmpP_key hp hq]; exact sgn_p (by omega)
theorem key_ne {p q : Pt} (h : key p ≠ key q) : peqI p.x p.y q.x q.y = false := peqI_ne.2 (fun e => h (by rw [e]))
def cells3 (S : Tri3) (tl : List Value) : List Value := .int .i64 S.A.x :: .int .i64 S.A.y :: .int .i64 S.B.x :: .int .i64 S.B.y :: .int .i64 S.C.x :: .int .i64 S.C.y :: tl
theorem sort3_any (x y z : Pt) (vx : vld x = true) (vy : vld y = true) (vz : vld z = true) (n1 : key x ≠ key y) (n2 : key x ≠ key z) (n3 : key y ≠ key z) (w : World) (bk : Nat) (hB : Box w bk [.int .i64 x.x, .int .i64 x.y, .int .i64 y.x, .int .i64 y.y, .int .i64 z.x, .int .i64 z.y] 23) :
    Calls Try.prog 7 #[.slice (some ⟨bk, 0, none⟩) 3 3] w fun e w' => ∃ g cap tl, e = .returned (.slice (some ⟨g, 0, none⟩) 3 cap) ∧ w.heap.size ≤ g ∧ Box w' g (cells3 (srt3 x y z) tl) 23 ∧ Below w.heap.size w w' := by
  unfold srt3 cells3
  by_cases h1 : key x < key y
  · rw [if_pos h1]
    by_cases h2 : key y < key z
    · rw [if_pos h2]; exact sort_00 x y z (cmp_m vx vy h1) (key_ne n1) (cmp_m vy vz h2) (key_ne n3) w bk hB
    · rw [if_neg h2]
      by_cases h3 : key x < key z
      · rw [if_pos h3]; exact sort_01 x y z (cmp_m vx vy h1) (key_ne n1) (cmp_p vy vz (by omega)) (cmp_m vx vz h3) (key_ne n2) w bk hB
      · rw [if_neg h3]; exact sort_02 x y z (cmp_m vx vy h1) (key_ne n1) (cmp_p vy vz (by omega)) (cmp_p vx vz (by omega)) w bk hB
  · rw [if_neg h1]
    by_cases h2 : key x < key z
    · rw [if_pos h2]; exact sort_10 x y z (cmp_p vx vy (by omega)) (cmp_m vx vz h2) (key_ne n2) w bk hB
    · rw [if_neg h2]
      by_cases h3 : key y < key z
      · rw [if_pos h3]; exact sort_11 x y z (cmp_p vx vy (by omega)) (cmp_p vx vz (by omega)) (cmp_m vy vz h3) (key_ne n3) w bk hB
      · rw [if_neg h3]; exact sort_12 x y z (cmp_p vx vy (by omega)) (cmp_p vx vz (by omega)) (cmp_p vy vz (by omega)) w bk hB
theorem srt3_mk {a b c : Pt} (h0 : ¬ ori a b c = 0) : srt3 (mk a b c).A (mk a b c).B (mk a b c).C = srt3 a b c ∧ (srt3 a b c).A = (mk a b c).A ∧
    key (mk a b c).A ≠ key (mk a b c).B ∧ key (mk a b c).A ≠ key (mk a b c).C ∧ key (mk a b c).B ≠ key (mk a b c).C := by
  obtain ⟨va, vb, vc, n1, n2, n3⟩ := mk_keys h0
  obtain ⟨hv, hp⟩ := mk_ok h0
  obtain ⟨uA, uB, uC⟩ := valT_vld hv
  rw [val_eq] at hv
  unfold valS lds at hv
  rw [leq_key uA uB, leq_key uA uC] at hv
  simp only [Bool.and_eq_true, decide_eq_true_eq] at hv
  obtain ⟨_, l1, l2⟩ := hv
  clear uA uB uC
  rcases hp with e | e | e | e | e | e <;> rw [e] at l1 l2 ⊢ <;> simp only at l1 l2 ⊢ <;> refine ⟨?_, ?_, ?_, ?_, ?_⟩ <;> first
    | omega
    | trivial
    | (unfold srt3; (repeat' split) <;> first | rfl | (exfalso; omega))
set_option maxHeartbeats 1000000 in
theorem points_eq (S : Tri3) (w : World) (b1 b2 k1 k2 : Nat) (tl1 tl2 : List Value) (h1 : Box w b1 (cells3 S tl1) 23) (h2 : Box w b2 (cells3 S tl2) 23) :
    Calls Try.prog 8 #[.slice (some ⟨b1, 0, none⟩) 3 k1, .slice (some ⟨b2, 0, none⟩) 3 k2] w fun e w' => e = .returned (.bool true) ∧ Below w.heap.size w w' := by
  have Bp := h1
  have Bq := h2
  clear h1 h2
  unfold cells3 at Bp Bq
  have hw := Below.refl w.heap.size w
  have e1 : peqI S.A.x S.A.y S.A.x S.A.y = true := pp rfl
  have e2 : peqI S.B.x S.B.y S.B.x S.B.y = true := pp rfl
  have e3 : peqI S.C.x S.C.y S.C.x S.C.y = true := pp rfl
  go_enter Try.func8, Try.ntmps8
  obtain ⟨xp, yp, zp, vp⟩ := Bp.facts
  obtain ⟨xq, yq, zq, vq⟩ := Bq.facts
  go_wp2_with fail
  refine wp_loop_rounds 5 ?_
  try rw [rounds_succ]
  obtain ⟨xp, yp, zp, vp⟩ := Bp.facts
  obtain ⟨xq, yq, zq, vq⟩ := Bq.facts
  go_wp2_with fail
  refine at_world fun W1 hW => ?_
  replace hw : Below w.heap.size w W1 := by rw [hW]; exact hw
  replace Bp : Box W1 (b1) (.int .i64 S.A.x :: .int .i64 S.A.y :: .int .i64 S.B.x :: .int .i64 S.B.y :: .int .i64 S.C.x :: .int .i64 S.C.y :: tl1) 23 := by rw [hW]; exact Bp
  replace Bq : Box W1 (b2) (.int .i64 S.A.x :: .int .i64 S.A.y :: .int .i64 S.B.x :: .int .i64 S.B.y :: .int .i64 S.C.x :: .int .i64 S.C.y :: tl2) 23 := by rw [hW]; exact Bq
  clear hW
  clear xp yp zp vp xq yq zq vq
  have gp := Bp.cells
  have gq := Bq.cells
  refine wp_region_tail 8 (by kernel_rfl) (by kernel_rfl) (C := fun w' => ∃ p : Regrown, w' = grow (redrawn W1 p.d) p.os) (fun w' h => regrown_of_below h) ?_
  simp only [List.take_succ_cons, List.take_zero, List.drop_succ_cons, List.drop_zero]
  repeat (first | (refine rWalk_skip (Eq.refl false) ?_; simp only [Act.put, List.setIfInBounds_toArray, List.set_cons_succ, List.set_cons_zero]) | (refine rWalk_step (fun K hK => ?_); go_simp; first | (refine hK _ ?_; clear hK K) | (apply Exists.intro; refine ⟨fun _ => ?_, hK _ ?_⟩; (first | fail); clear hK K)))
  refine rWalk_nil ?_
  intro w2 hb
  clear gp gq
  replace Bp := Bp.ext hb rfl
  replace Bq := Bq.ext hb rfl
  replace hw := hw.trans (hb.mono hw.size)
  obtain ⟨xp, yp, zp, vp⟩ := Bp.facts
  obtain ⟨xq, yq, zq, vq⟩ := Bq.facts
  go_wp2_with fail
  try rw [rounds_succ]
  obtain ⟨xp, yp, zp, vp⟩ := Bp.facts
  obtain ⟨xq, yq, zq, vq⟩ := Bq.facts
  go_wp2_with fail
  refine at_world fun W3 hW => ?_
  replace hw : Below w.heap.size w W3 := by rw [hW]; exact hw
  replace Bp : Box W3 (b1) (.int .i64 S.A.x :: .int .i64 S.A.y :: .int .i64 S.B.x :: .int .i64 S.B.y :: .int .i64 S.C.x :: .int .i64 S.C.y :: tl1) 23 := by rw [hW]; exact Bp
  replace Bq : Box W3 (b2) (.int .i64 S.A.x :: .int .i64 S.A.y :: .int .i64 S.B.x :: .int .i64 S.B.y :: .int .i64 S.C.x :: .int .i64 S.C.y :: tl2) 23 := by rw [hW]; exact Bq
  clear hW
  clear xp yp zp vp xq yq zq vq
  have gp := Bp.cells
  have gq := Bq.cells
  refine wp_region_tail 8 (by kernel_rfl) (by kernel_rfl) (C := fun w' => ∃ p : Regrown, w' = grow (redrawn W3 p.d) p.os) (fun w' h => regrown_of_below h) ?_
  simp only [List.take_succ_cons, List.take_zero, List.drop_succ_cons, List.drop_zero]
  repeat (first | (refine rWalk_skip (Eq.refl false) ?_; simp only [Act.put, List.setIfInBounds_toArray, List.set_cons_succ, List.set_cons_zero]) | (refine rWalk_step (fun K hK => ?_); go_simp; first | (refine hK _ ?_; clear hK K) | (apply Exists.intro; refine ⟨fun _ => ?_, hK _ ?_⟩; (first | fail); clear hK K)))
  refine rWalk_nil ?_
  intro w4 hb
  clear gp gq
  replace Bp := Bp.ext hb rfl
  replace Bq := Bq.ext hb rfl
  replace hw := hw.trans (hb.mono hw.size)
  obtain ⟨xp, yp, zp, vp⟩ := Bp.facts
  obtain ⟨xq, yq, zq, vq⟩ := Bq.facts
  go_wp2_with fail
  try rw [rounds_succ]
  obtain ⟨xp, yp, zp, vp⟩ := Bp.facts
  obtain ⟨xq, yq, zq, vq⟩ := Bq.facts
  go_wp2_with fail
  refine at_world fun W5 hW => ?_
  replace hw : Below w.heap.size w W5 := by rw [hW]; exact hw
  replace Bp : Box W5 (b1) (.int .i64 S.A.x :: .int .i64 S.A.y :: .int .i64 S.B.x :: .int .i64 S.B.y :: .int .i64 S.C.x :: .int .i64 S.C.y :: tl1) 23 := by rw [hW]; exact Bp
  replace Bq : Box W5 (b2) (.int .i64 S.A.x :: .int .i64 S.A.y :: .int .i64 S.B.x :: .int .i64 S.B.y :: .int .i64 S.C.x :: .int .i64 S.C.y :: tl2) 23 := by rw [hW]; exact Bq
  clear hW
  clear xp yp zp vp xq yq zq vq
  have gp := Bp.cells
  have gq := Bq.cells
  refine wp_region_tail 8 (by kernel_rfl) (by kernel_rfl) (C := fun w' => ∃ p : Regrown, w' = grow (redrawn W5 p.d) p.os) (fun w' h => regrown_of_below h) ?_
  simp only [List.take_succ_cons, List.take_zero, List.drop_succ_cons, List.drop_zero]
  repeat (first | (refine rWalk_skip (Eq.refl false) ?_; simp only [Act.put, List.setIfInBounds_toArray, List.set_cons_succ, List.set_cons_zero]) | (refine rWalk_step (fun K hK => ?_); go_simp; first | (refine hK _ ?_; clear hK K) | (apply Exists.intro; refine ⟨fun _ => ?_, hK _ ?_⟩; (first | fail); clear hK K)))
  refine rWalk_nil ?_
  intro w6 hb
  clear gp gq
  replace Bp := Bp.ext hb rfl
  replace Bq := Bq.ext hb rfl
  replace hw := hw.trans (hb.mono hw.size)
  obtain ⟨xp, yp, zp, vp⟩ := Bp.facts
  obtain ⟨xq, yq, zq, vq⟩ := Bq.facts
  go_wp2_with fail
  try rw [rounds_succ]
  go_wp2
  go_ret
  exact ⟨rfl, hw⟩

end Go.Proofs.Ytijdbddjhnjcdaa
