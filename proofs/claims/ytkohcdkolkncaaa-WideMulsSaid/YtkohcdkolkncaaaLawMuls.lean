/- Products of any two numbers are as the document says, in either order, and with both opposite: the law WideMuls of package hectarelaw1 answers true at every input; no conditions. -/
import Derived.Test.YtkohcdkolkncaaaRows
import Derived.Test.YtkohcdkolkncaaaWideK
import Derived.Test.YtkohcdkolkncaaaPost
import Derived.WalkKit
import Derived.WalkSpells
import Derived.WalkLawsBesides
import Derived.Deep.QuietTactic
import Derived.BigQuiet
import Derived.Lib.Hide
import Derived.Handy
import Derived.ProofKit
import Derived.Lib.SmallJoins
namespace Go.Proofs.Ytkohcdkolkncaaa
open Go.RowKit Go.Sort Go.ChangeShapes Go.WideShapes Go.ChangeAt
attribute [local go_sem] rOper rAt rUpon cell_set sg_i64 sg_u64 alloc_cell alloc_frozen

theorem muls_a (a b : Int) (a0 : -9223372036854775808 ≤ a) (a1 : a ≤ 9223372036854775807) (b0 : -9223372036854775808 ≤ b) (b1 : b ≤ 9223372036854775807) (ha : a = -9223372036854775808) (w : World) :
    Calls Try.prog 4 #[.int .i64 a, .int .i64 b] w fun e w' => e = .returned (.bool true) ∧ Below w.heap.size w w' := by
  have m1 := mul_any a b a0 a1 b0 b1
  have m2 := mul_any b a b0 b1 a0 a1
  have r1 := r_mul a b a0 a1 b0 b1
  rw [Int.mul_comm b a] at m2
  have o1 := of_any (cH (a * b)) (cL (a * b))
  obtain ⟨H0, hH⟩ : ∃ x, cH (a * b) = x := ⟨_, rfl⟩
  obtain ⟨L0, hL⟩ : ∃ x, cL (a * b) = x := ⟨_, rfl⟩
  rw [hH, hL] at m1 m2 r1 o1
  have t1 : (a == -9223372036854775808) = true := by simpa using ha
  clear hH hL ha
  go_enter Try.func4, Try.ntmps4
  go_wp2_with fail
  refine (m1 _).mono ?_
  rintro e w1 ⟨rfl, hb⟩
  have hw := hb
  clear hb
  go_wp2_with fail
  refine at_world fun W2 hW => ?_
  obtain ⟨bp, hbp⟩ : ∃ b, w1.heap.size = b := ⟨_, rfl⟩
  rw [hbp]
  have Bp : Box W2 bp [.int .i64 H0, .int .u64 L0] 24 := by rw [hW]; exact Box.new hbp.symm
  replace hw : Below w.heap.size w W2 := by have hl := hw.size; rw [hW]; go_grown
  clear hW hbp
  have gp := Bp.cells
  refine wp_region_tail 12 (by kernel_rfl) (by kernel_rfl) (C := fun w' => ∃ p : Regrown, w' = grow (redrawn W2 p.d) p.os) (fun w' h => regrown_of_below h) ?_
  simp only [List.take_succ_cons, List.take_zero, List.drop_succ_cons, List.drop_zero]
  repeat (refine rWalk_step (fun K hK => ?_); go_simp; first | (refine hK _ ?_; clear hK K) | (apply Exists.intro; refine ⟨fun _ => ?_, hK _ ?_⟩; (first | with_reducible exact toExt o1 _ | with_reducible exact toExt r1 _ | with_reducible exact toExt m2 _); clear hK K))
  refine rWalk_nil ?_
  intro w3 hb
  clear gp
  replace Bp := Bp.ext hb rfl
  replace hw := hw.trans (hb.mono hw.size)
  go_wp2_with fail
  refine (awake_any _).mono ?_
  rintro e w4 ⟨rfl, hb⟩
  replace Bp := Bp.ext hb rfl
  replace hw := hw.trans (hb.mono hw.size)
  clear hb
  go_wp2
  go_ret
  exact ⟨rfl, hw⟩
theorem muls_b (a b : Int) (a0 : -9223372036854775808 ≤ a) (a1 : a ≤ 9223372036854775807) (b0 : -9223372036854775808 ≤ b) (b1 : b ≤ 9223372036854775807) (ha : ¬ a = -9223372036854775808) (hb : b = -9223372036854775808) (w : World) :
    Calls Try.prog 4 #[.int .i64 a, .int .i64 b] w fun e w' => e = .returned (.bool true) ∧ Below w.heap.size w w' := by
  have m1 := mul_any a b a0 a1 b0 b1
  have m2 := mul_any b a b0 b1 a0 a1
  have r1 := r_mul a b a0 a1 b0 b1
  rw [Int.mul_comm b a] at m2
  have o1 := of_any (cH (a * b)) (cL (a * b))
  obtain ⟨H0, hH⟩ : ∃ x, cH (a * b) = x := ⟨_, rfl⟩
  obtain ⟨L0, hL⟩ : ∃ x, cL (a * b) = x := ⟨_, rfl⟩
  rw [hH, hL] at m1 m2 r1 o1
  have t1 : (a == -9223372036854775808) = false := by simpa using ha
  have t2 : (b == -9223372036854775808) = true := by simpa using hb
  clear hH hL ha hb
  go_enter Try.func4, Try.ntmps4
  go_wp2_with fail
  refine (m1 _).mono ?_
  rintro e w1 ⟨rfl, hb⟩
  have hw := hb
  clear hb
  go_wp2_with fail
  refine at_world fun W2 hW => ?_
  obtain ⟨bp, hbp⟩ : ∃ b, w1.heap.size = b := ⟨_, rfl⟩
  rw [hbp]
  have Bp : Box W2 bp [.int .i64 H0, .int .u64 L0] 24 := by rw [hW]; exact Box.new hbp.symm
  replace hw : Below w.heap.size w W2 := by have hl := hw.size; rw [hW]; go_grown
  clear hW hbp
  have gp := Bp.cells
  refine wp_region_tail 12 (by kernel_rfl) (by kernel_rfl) (C := fun w' => ∃ p : Regrown, w' = grow (redrawn W2 p.d) p.os) (fun w' h => regrown_of_below h) ?_
  simp only [List.take_succ_cons, List.take_zero, List.drop_succ_cons, List.drop_zero]
  repeat (refine rWalk_step (fun K hK => ?_); go_simp; first | (refine hK _ ?_; clear hK K) | (apply Exists.intro; refine ⟨fun _ => ?_, hK _ ?_⟩; (first | with_reducible exact toExt o1 _ | with_reducible exact toExt r1 _ | with_reducible exact toExt m2 _); clear hK K))
  refine rWalk_nil ?_
  intro w3 hb
  clear gp
  replace Bp := Bp.ext hb rfl
  replace hw := hw.trans (hb.mono hw.size)
  go_wp2_with fail
  refine (awake_any _).mono ?_
  rintro e w4 ⟨rfl, hb⟩
  replace Bp := Bp.ext hb rfl
  replace hw := hw.trans (hb.mono hw.size)
  clear hb
  go_wp2
  go_ret
  exact ⟨rfl, hw⟩
theorem muls_c (a b : Int) (a0 : -9223372036854775808 ≤ a) (a1 : a ≤ 9223372036854775807) (b0 : -9223372036854775808 ≤ b) (b1 : b ≤ 9223372036854775807) (ha : ¬ a = -9223372036854775808) (hb : ¬ b = -9223372036854775808) (w : World) :
    Calls Try.prog 4 #[.int .i64 a, .int .i64 b] w fun e w' => e = .returned (.bool true) ∧ Below w.heap.size w w' := by
  have m1 := mul_any a b a0 a1 b0 b1
  have m2 := mul_any b a b0 b1 a0 a1
  have r1 := r_mul a b a0 a1 b0 b1
  rw [Int.mul_comm b a] at m2
  have o1 := of_any (cH (a * b)) (cL (a * b))
  have n1 := neg_any (cH (a * b)) (cL (a * b)) (ok_c _)
  have q1 := mul_any (-a) (-b) (by omega) (by omega) (by omega) (by omega)
  have q2 := mul_any (-a) b (by omega) (by omega) b0 b1
  have ef := fits_mul (-a) b (by omega) (by omega) b0 b1
  rw [V_c (fits_mul a b a0 a1 b0 b1)] at n1
  rw [Int.neg_mul_neg] at q1
  rw [Int.neg_mul] at q2 ef
  rw [ef] at n1
  obtain ⟨H1, hH1⟩ : ∃ x, cH (-(a * b)) = x := ⟨_, rfl⟩
  obtain ⟨L1, hL1⟩ : ∃ x, cL (-(a * b)) = x := ⟨_, rfl⟩
  rw [hH1, hL1] at n1 q2
  obtain ⟨H0, hH⟩ : ∃ x, cH (a * b) = x := ⟨_, rfl⟩
  obtain ⟨L0, hL⟩ : ∃ x, cL (a * b) = x := ⟨_, rfl⟩
  rw [hH, hL] at m1 m2 r1 o1 n1 q1
  have t1 : (a == -9223372036854775808) = false := by simpa using ha
  have t2 : (b == -9223372036854775808) = false := by simpa using hb
  have a2 : -9223372036854775807 ≤ a := by omega
  have b2 : -9223372036854775807 ≤ b := by omega
  have ea : IntKind.i64.wrap (-a) = -a := by rw [IntKind.wrap_i64]; omega
  have eb : IntKind.i64.wrap (-b) = -b := by rw [IntKind.wrap_i64]; omega
  clear hH hL hH1 hL1 ha hb ef
  go_enter Try.func4, Try.ntmps4
  go_wp2_with fail
  refine (m1 _).mono ?_
  rintro e w1 ⟨rfl, hb⟩
  have hw := hb
  clear hb
  go_wp2_with fail
  refine at_world fun W2 hW => ?_
  obtain ⟨bp, hbp⟩ : ∃ b, w1.heap.size = b := ⟨_, rfl⟩
  rw [hbp]
  have Bp : Box W2 bp [.int .i64 H0, .int .u64 L0] 24 := by rw [hW]; exact Box.new hbp.symm
  replace hw : Below w.heap.size w W2 := by have hl := hw.size; rw [hW]; go_grown
  clear hW hbp
  have gp := Bp.cells
  refine wp_region_tail 12 (by kernel_rfl) (by kernel_rfl) (C := fun w' => ∃ p : Regrown, w' = grow (redrawn W2 p.d) p.os) (fun w' h => regrown_of_below h) ?_
  simp only [List.take_succ_cons, List.take_zero, List.drop_succ_cons, List.drop_zero]
  repeat (refine rWalk_step (fun K hK => ?_); go_simp; first | (refine hK _ ?_; clear hK K) | (apply Exists.intro; refine ⟨fun _ => ?_, hK _ ?_⟩; (first | with_reducible exact toExt o1 _ | with_reducible exact toExt r1 _ | with_reducible exact toExt m2 _); clear hK K))
  refine rWalk_nil ?_
  intro w3 hb
  clear gp
  replace Bp := Bp.ext hb rfl
  replace hw := hw.trans (hb.mono hw.size)
  obtain ⟨xp, yp, zp, vp⟩ := Bp.facts
  go_wp2_with fail
  refine (n1 _).mono ?_
  rintro e w4 ⟨rfl, hb⟩
  clear xp yp zp vp
  replace Bp := Bp.ext hb rfl
  replace hw := hw.trans (hb.mono hw.size)
  clear hb
  obtain ⟨xp, yp, zp, vp⟩ := Bp.facts
  go_wp2_with fail
  refine at_world fun W5 hW => ?_
  obtain ⟨bn, hbn⟩ : ∃ b, w4.heap.size = b := ⟨_, rfl⟩
  rw [hbn]
  have Bn : Box W5 bn [.int .i64 H1, .int .u64 L1] 24 := by rw [hW]; exact Box.new hbn.symm
  replace Bp : Box W5 (bp) [.int .i64 H0, .int .u64 L0] 24 := by rw [hW]; exact Bp.old _
  replace hw : Below w.heap.size w W5 := by have hl := hw.size; rw [hW]; go_grown
  clear hW hbn
  have gp := Bp.cells
  have gn := Bn.cells
  refine wp_region_tail 21 (by kernel_rfl) (by kernel_rfl) (C := fun w' => ∃ p : Regrown, w' = grow (redrawn W5 p.d) p.os) (fun w' h => regrown_of_below h) ?_
  simp only [List.take_succ_cons, List.take_zero, List.drop_succ_cons, List.drop_zero]
  repeat (refine rWalk_step (fun K hK => ?_); go_simp; first | (refine hK _ ?_; clear hK K) | (apply Exists.intro; refine ⟨fun _ => ?_, hK _ ?_⟩; (first | with_reducible exact toExt q1 _ | with_reducible exact toExt q2 _ | with_reducible exact toExt awake_any _); clear hK K))
  refine rWalk_nil ?_
  intro w6 hb
  clear gp gn
  clear xp yp zp vp
  replace Bp := Bp.ext hb rfl
  replace Bn := Bn.ext hb rfl
  replace hw := hw.trans (hb.mono hw.size)
  go_wp2
  go_ret
  exact ⟨rfl, hw⟩
theorem muls_law (a b : Int) (a0 : -9223372036854775808 ≤ a) (a1 : a ≤ 9223372036854775807) (b0 : -9223372036854775808 ≤ b) (b1 : b ≤ 9223372036854775807) (w : World) :
    Calls Try.prog 4 #[.int .i64 a, .int .i64 b] w fun e w' => e = .returned (.bool true) ∧ Below w.heap.size w w' := by
  by_cases ha : a = -9223372036854775808
  · exact muls_a a b a0 a1 b0 b1 ha w
  · by_cases hb : b = -9223372036854775808
    · exact muls_b a b a0 a1 b0 b1 ha hb w
    · exact muls_c a b a0 a1 b0 b1 ha hb w
set_option maxRecDepth 100000 in
theorem wideMuls_lifted (os : Os) (started : os.Started) (H : Type) (enc : TypeId × Value → H) :
    ReturnsInHanded {} Try.checked os 4 .any (Rows.wideMulsSpec.pre6 enc Try.prog Try.f4 Rows.wideMulsRow.domain false) (Rows.wideMulsSpec.post enc Try.prog Try.f4 false true false false) := by
  refine returnsInHanded_of_change (C := Try.checked) Try.own started (by kernel_rfl) Try.func4
    (ChangeSpec.witness6 (enc := enc) (C := Try.checked) false ⟨#[], #[.int .i64 0, .int .i64 0], []⟩ 8 (by kernel_rfl) (by kernel_rfl) (by kernel_rfl) (by kernel_rfl)) ?_
  intro W base args ds gs before hval0 hW hcnd _
  have hval : ∀ (j : Nat) t v, Try.f4.params[j]? = some t → args[j]? = some v → Value.okWide Try.prog W .any base t v := hval0
  have hW' := hW
  obtain ⟨p, q, hA0, hV, rfl, hfz, hnd⟩ := hW
  have hA : DataW.TrodAll enc Try.prog W 0 (fun _ => true) true Try.f4.params.toList args.toList ds p := hA0
  rw [Try.params4] at hA hval
  obtain ⟨v0, v1, d0, d1, q0, q1, rfl, rfl, rfl, p0, p1⟩ := trodAll_two hA
  obtain ⟨rfl, rfl⟩ := trodVars_none hV
  obtain ⟨a, rfl, rfl, rfl, wa⟩ := open_int Try.underlying3 (hval 0 3 v0 rfl rfl) p0
  have k0 := int_wf wa
  obtain ⟨b, rfl, rfl, rfl, wb⟩ := open_int Try.underlying3 (hval 1 3 v1 rfl rfl) p1
  have k1 := int_wf wb
  clear hA0 hval0
  simp only [List.append_nil] at hW'
  refine (muls_law a b k0.1 k0.2 k1.1 k1.2 W).mono fun e W' ⟨he, hb⟩ => ?_
  subst he
  exact ⟨_, rfl, post_of_below (pa := []) (pv := []) hW' (fun _ _ _ => trodAll_mk1 (shut_bool Try.underlying4 true)) (fun sp _ => trodAll_mk2 (shut_int Try.underlying3 wa) (shut_int Try.underlying3 wb)) (fun _ _ => rfl) rfl hb (ok_one (by kernel_rfl) rfl (okWide_bool_mk Try.underlying4 true))⟩
/-- The law WideMuls holds of every input. -/
theorem wideMuls_holds : Rows.WideMulsSaid :=
  OpenClaim.holds_of_wide 4 Try.f4 rfl rfl rfl rfl rfl rfl rfl ⟨rfl, rfl, rfl, rfl, rfl⟩ rfl rfl rfl rfl rfl (by kernel_rfl) Try.func4 (by kernel_rfl)
    (of_decide_eq_true (by kernel_rfl)) (by unfold Func.isWrapper; rw [if_neg (of_decide_eq_false (by kernel_rfl))]; exact ⟨rfl, rfl⟩)
    (fun os started H enc _ => wideMuls_lifted os started H enc)
end Go.Proofs.Ytkohcdkolkncaaa
