/- A product is the sum of the products of parts, and what was added is taken away again: the law WideParts of package hectarelaw1 answers true at every input; no conditions. -/
import Derived.Test.YtkohcdkolkncaaaRows
import Derived.Test.YtkohcdkolkncaaaWideK
import Derived.Test.YtkohcdkolkncaaaPost
import Derived.Test.YtkohcdkolkncaaaLate
import Derived.WalkKit
import Derived.WalkSpells
import Derived.WalkLawsBesides
import Derived.Deep.QuietTactic
import Derived.BigQuiet
import Derived.Lib.Hide
import Derived.Handy
import Derived.ProofKit
import Derived.Lib.SmallJoins
namespace Go.Proofs.Ytkohcdkolkncaaa
open Go.RowKit Go.Sort Go.ChangeShapes Go.WideShapes Go.ChangeAt
attribute [local go_sem] rOper rAt rUpon cell_set sg_i64 sg_u64 alloc_cell alloc_frozen

theorem parts_0 (a b c : Int) (h1 : 2305843009213693952 < b) (w : World) :
    Calls Try.prog 5 #[.int .i64 a, .int .i64 b, .int .i64 c] w fun e w' => e = .returned (.bool true) ∧ Below w.heap.size w w' := by
  go_enter Try.func5, Try.ntmps5
  go_wp2_with fail
  refine (awake_any _).mono ?_
  rintro e w1 ⟨rfl, hb⟩
  have hw := hb
  clear hb
  go_wp2
  go_ret
  exact ⟨rfl, hw⟩
theorem parts_1 (a b c : Int) (h1 : b ≤ 2305843009213693952) (h2 : b < -2305843009213693952) (w : World) :
    Calls Try.prog 5 #[.int .i64 a, .int .i64 b, .int .i64 c] w fun e w' => e = .returned (.bool true) ∧ Below w.heap.size w w' := by
  go_enter Try.func5, Try.ntmps5
  go_wp2_with fail
  refine (awake_any _).mono ?_
  rintro e w1 ⟨rfl, hb⟩
  have hw := hb
  clear hb
  go_wp2
  go_ret
  exact ⟨rfl, hw⟩
theorem parts_2 (a b c : Int) (h1 : b ≤ 2305843009213693952) (h2 : -2305843009213693952 ≤ b) (h3 : 2305843009213693952 < c) (w : World) :
    Calls Try.prog 5 #[.int .i64 a, .int .i64 b, .int .i64 c] w fun e w' => e = .returned (.bool true) ∧ Below w.heap.size w w' := by
  go_enter Try.func5, Try.ntmps5
  go_wp2_with fail
  refine (awake_any _).mono ?_
  rintro e w1 ⟨rfl, hb⟩
  have hw := hb
  clear hb
  go_wp2
  go_ret
  exact ⟨rfl, hw⟩
theorem parts_3 (a b c : Int) (h1 : b ≤ 2305843009213693952) (h2 : -2305843009213693952 ≤ b) (h3 : c ≤ 2305843009213693952) (h4 : c < -2305843009213693952) (w : World) :
    Calls Try.prog 5 #[.int .i64 a, .int .i64 b, .int .i64 c] w fun e w' => e = .returned (.bool true) ∧ Below w.heap.size w w' := by
  go_enter Try.func5, Try.ntmps5
  go_wp2_with fail
  refine (awake_any _).mono ?_
  rintro e w1 ⟨rfl, hb⟩
  have hw := hb
  clear hb
  go_wp2
  go_ret
  exact ⟨rfl, hw⟩
theorem parts_ina (a b c : Int) (a0 : -9223372036854775808 ≤ a) (a1 : a ≤ 9223372036854775807) (b0 : -9223372036854775808 ≤ b) (b1 : b ≤ 9223372036854775807) (c0 : -9223372036854775808 ≤ c) (c1 : c ≤ 9223372036854775807) (h1 : b ≤ 2305843009213693952) (h2 : -2305843009213693952 ≤ b) (h3 : c ≤ 2305843009213693952) (h4 : -2305843009213693952 ≤ c) (z1 : (a == 0) = true) (w : World) :
    Calls Try.prog 5 #[.int .i64 a, .int .i64 b, .int .i64 c] w fun e w' => e = .returned (.bool true) ∧ Below w.heap.size w w' := by
  have m1 := mul_any a b a0 a1 b0 b1
  have m2 := mul_any a c a0 a1 c0 c1
  have m3 := mul_any a (b + c) a0 a1 (by omega) (by omega)
  have eb : IntKind.i64.wrap (b + c) = b + c := by rw [IntKind.wrap_i64]; omega
  have fb := fits_mul a b a0 a1 b0 b1
  have fc := fits_mul a c a0 a1 c0 c1
  have fs := fits_mul a (b + c) a0 a1 (by omega) (by omega)
  have d1 := add_any (cH (a * b)) (cL (a * b)) (cH (a * c)) (cL (a * c)) (ok_c _) (ok_c _)
  rw [V_c fb, V_c fc, ← Int.mul_add, fs] at d1
  have d2 := sub_any (cH (a * (b + c))) (cL (a * (b + c))) (cH (a * c)) (cL (a * c)) (ok_c _) (ok_c _)
  rw [V_c fs, V_c fc, show a * (b + c) - a * c = a * b by rw [Int.mul_add]; omega, fb] at d2
  have g1 := sign_any (cH (a * b)) (cL (a * b)) (ok_c _)
  rw [V_c fb] at g1
  obtain ⟨σ, hσ⟩ : ∃ x, sgn (a * b) = x := ⟨_, rfl⟩
  have hs : (σ == 0) = (a == 0 || b == 0) := by
    rw [← hσ, Bool.eq_iff_iff]
    simp only [beq_iff_eq, Bool.or_eq_true]
    rw [← Int.mul_eq_zero]
    generalize a * b = p
    unfold sgn; split <;> (try split) <;> omega
  rw [z1, Bool.true_or] at hs
  obtain ⟨H0, hH⟩ : ∃ x, cH (a * (b + c)) = x := ⟨_, rfl⟩
  obtain ⟨L0, hL⟩ : ∃ x, cL (a * (b + c)) = x := ⟨_, rfl⟩
  obtain ⟨H1, hH1⟩ : ∃ x, cH (a * b) = x := ⟨_, rfl⟩
  obtain ⟨L1, hL1⟩ : ∃ x, cL (a * b) = x := ⟨_, rfl⟩
  obtain ⟨H2, hH2⟩ : ∃ x, cH (a * c) = x := ⟨_, rfl⟩
  obtain ⟨L2, hL2⟩ : ∃ x, cL (a * c) = x := ⟨_, rfl⟩
  rw [hH, hL] at m3 d1 d2
  rw [hH1, hL1] at m1 d1 d2 g1
  rw [hH2, hL2] at m2 d1 d2
  rw [hσ] at g1
  clear hH hL hH1 hL1 hH2 hL2 hσ fb fc fs
  go_enter Try.func5, Try.ntmps5
  go_wp2_with fail
  refine (m1 _).mono ?_
  rintro e w1 ⟨rfl, hb⟩
  have hw := hb
  clear hb
  go_wp2_with fail
  refine (m2 _).mono ?_
  rintro e w2 ⟨rfl, hb⟩
  replace hw := hw.trans (hb.mono hw.size)
  clear hb
  go_wp2_with fail
  refine (d1 _).mono ?_
  rintro e w3 ⟨rfl, hb⟩
  replace hw := hw.trans (hb.mono hw.size)
  clear hb
  go_wp2_with fail
  refine at_world fun W4 hW => ?_
  obtain ⟨bkx, hbx⟩ : ∃ b, w3.heap.size = b := ⟨_, rfl⟩
  rw [hbx]
  have Bx : Box W4 bkx [.int .i64 H0, .int .u64 L0] 24 := by rw [hW]; exact Box.new hbx.symm
  replace hw : Below w.heap.size w W4 := by have hl := hw.size; rw [hW]; go_grown
  clear hW hbx
  have gx := Bx.cells
  refine wp_region_late2 8 9 42 (.int .i64 H1) (.int .u64 L1) rfl rfl rfl rfl rfl rfl rfl (by simp) (fun ρ W => by simp [execOp, go_sem]; rfl) (by kernel_rfl) (by kernel_rfl) (C := fun w' => ∃ p : Regrown, w' = grow (redrawn W4 p.d) p.os) (fun w' h => regrown_of_below h) ?_ (fun ρ W b e1 e2 hB => by obtain ⟨x, y, _, _⟩ := hB.facts; simp [execOp, go_sem, e1, e2, x, y, eff2])
  simp only [List.take_succ_cons, List.take_zero, List.drop_succ_cons, List.drop_zero]
  repeat (refine rWalk_step (fun K hK => ?_); go_simp; first | (refine hK _ ?_; clear hK K) | (apply Exists.intro; refine ⟨fun _ => ?_, hK _ ?_⟩; (first | with_reducible exact toExt m2 _ | with_reducible exact toExt d2 _); clear hK K))
  refine rWalk_nil ⟨rfl, ?_⟩
  intro w5 bky hb h1b h2b By
  clear gx
  replace Bx := Bx.ext hb rfl
  replace hw := hw.trans (hb.mono hw.size)
  clear hb h1b h2b
  simp only [Act.put]
  obtain ⟨xx, yx, zx, vx⟩ := Bx.facts
  obtain ⟨xy, yy, zy, vy⟩ := By.facts
  go_wp2_with fail
  clear xx yx zx vx xy yy zy vy
  have gx := Bx.cells
  have gy := By.cells
  refine wp_region_tail 37 (by kernel_rfl) (by kernel_rfl) (C := fun w' => ∃ p : Regrown, w' = grow (redrawn w5 p.d) p.os) (fun w' h => regrown_of_below h) ?_
  simp only [List.take_succ_cons, List.take_zero, List.drop_succ_cons, List.drop_zero]
  repeat (refine rWalk_step (fun K hK => ?_); go_simp; first | (refine hK _ ?_; clear hK K) | (apply Exists.intro; refine ⟨fun _ => ?_, hK _ ?_⟩; (first | with_reducible exact toExt m3 _ | with_reducible exact toExt m1 _ | with_reducible exact toExt g1 _ | with_reducible exact toExt awake_any _); clear hK K))
  refine rWalk_nil ?_
  intro w6 hb
  clear gx gy
  replace Bx := Bx.ext hb rfl
  replace By := By.ext hb rfl
  replace hw := hw.trans (hb.mono hw.size)
  go_wp2
  go_ret
  exact ⟨rfl, hw⟩
theorem parts_inb (a b c : Int) (a0 : -9223372036854775808 ≤ a) (a1 : a ≤ 9223372036854775807) (b0 : -9223372036854775808 ≤ b) (b1 : b ≤ 9223372036854775807) (c0 : -9223372036854775808 ≤ c) (c1 : c ≤ 9223372036854775807) (h1 : b ≤ 2305843009213693952) (h2 : -2305843009213693952 ≤ b) (h3 : c ≤ 2305843009213693952) (h4 : -2305843009213693952 ≤ c) (z1 : (a == 0) = false) (z2 : (b == 0) = true) (w : World) :
    Calls Try.prog 5 #[.int .i64 a, .int .i64 b, .int .i64 c] w fun e w' => e = .returned (.bool true) ∧ Below w.heap.size w w' := by
  have m1 := mul_any a b a0 a1 b0 b1
  have m2 := mul_any a c a0 a1 c0 c1
  have m3 := mul_any a (b + c) a0 a1 (by omega) (by omega)
  have eb : IntKind.i64.wrap (b + c) = b + c := by rw [IntKind.wrap_i64]; omega
  have fb := fits_mul a b a0 a1 b0 b1
  have fc := fits_mul a c a0 a1 c0 c1
  have fs := fits_mul a (b + c) a0 a1 (by omega) (by omega)
  have d1 := add_any (cH (a * b)) (cL (a * b)) (cH (a * c)) (cL (a * c)) (ok_c _) (ok_c _)
  rw [V_c fb, V_c fc, ← Int.mul_add, fs] at d1
  have d2 := sub_any (cH (a * (b + c))) (cL (a * (b + c))) (cH (a * c)) (cL (a * c)) (ok_c _) (ok_c _)
  rw [V_c fs, V_c fc, show a * (b + c) - a * c = a * b by rw [Int.mul_add]; omega, fb] at d2
  have g1 := sign_any (cH (a * b)) (cL (a * b)) (ok_c _)
  rw [V_c fb] at g1
  obtain ⟨σ, hσ⟩ : ∃ x, sgn (a * b) = x := ⟨_, rfl⟩
  have hs : (σ == 0) = (a == 0 || b == 0) := by
    rw [← hσ, Bool.eq_iff_iff]
    simp only [beq_iff_eq, Bool.or_eq_true]
    rw [← Int.mul_eq_zero]
    generalize a * b = p
    unfold sgn; split <;> (try split) <;> omega
  rw [z1, z2, Bool.or_true] at hs
  obtain ⟨H0, hH⟩ : ∃ x, cH (a * (b + c)) = x := ⟨_, rfl⟩
  obtain ⟨L0, hL⟩ : ∃ x, cL (a * (b + c)) = x := ⟨_, rfl⟩
  obtain ⟨H1, hH1⟩ : ∃ x, cH (a * b) = x := ⟨_, rfl⟩
  obtain ⟨L1, hL1⟩ : ∃ x, cL (a * b) = x := ⟨_, rfl⟩
  obtain ⟨H2, hH2⟩ : ∃ x, cH (a * c) = x := ⟨_, rfl⟩
  obtain ⟨L2, hL2⟩ : ∃ x, cL (a * c) = x := ⟨_, rfl⟩
  rw [hH, hL] at m3 d1 d2
  rw [hH1, hL1] at m1 d1 d2 g1
  rw [hH2, hL2] at m2 d1 d2
  rw [hσ] at g1
  clear hH hL hH1 hL1 hH2 hL2 hσ fb fc fs
  go_enter Try.func5, Try.ntmps5
  go_wp2_with fail
  refine (m1 _).mono ?_
  rintro e w1 ⟨rfl, hb⟩
  have hw := hb
  clear hb
  go_wp2_with fail
  refine (m2 _).mono ?_
  rintro e w2 ⟨rfl, hb⟩
  replace hw := hw.trans (hb.mono hw.size)
  clear hb
  go_wp2_with fail
  refine (d1 _).mono ?_
  rintro e w3 ⟨rfl, hb⟩
  replace hw := hw.trans (hb.mono hw.size)
  clear hb
  go_wp2_with fail
  refine at_world fun W4 hW => ?_
  obtain ⟨bkx, hbx⟩ : ∃ b, w3.heap.size = b := ⟨_, rfl⟩
  rw [hbx]
  have Bx : Box W4 bkx [.int .i64 H0, .int .u64 L0] 24 := by rw [hW]; exact Box.new hbx.symm
  replace hw : Below w.heap.size w W4 := by have hl := hw.size; rw [hW]; go_grown
  clear hW hbx
  have gx := Bx.cells
  refine wp_region_late2 8 9 42 (.int .i64 H1) (.int .u64 L1) rfl rfl rfl rfl rfl rfl rfl (by simp) (fun ρ W => by simp [execOp, go_sem]; rfl) (by kernel_rfl) (by kernel_rfl) (C := fun w' => ∃ p : Regrown, w' = grow (redrawn W4 p.d) p.os) (fun w' h => regrown_of_below h) ?_ (fun ρ W b e1 e2 hB => by obtain ⟨x, y, _, _⟩ := hB.facts; simp [execOp, go_sem, e1, e2, x, y, eff2])
  simp only [List.take_succ_cons, List.take_zero, List.drop_succ_cons, List.drop_zero]
  repeat (refine rWalk_step (fun K hK => ?_); go_simp; first | (refine hK _ ?_; clear hK K) | (apply Exists.intro; refine ⟨fun _ => ?_, hK _ ?_⟩; (first | with_reducible exact toExt m2 _ | with_reducible exact toExt d2 _); clear hK K))
  refine rWalk_nil ⟨rfl, ?_⟩
  intro w5 bky hb h1b h2b By
  clear gx
  replace Bx := Bx.ext hb rfl
  replace hw := hw.trans (hb.mono hw.size)
  clear hb h1b h2b
  simp only [Act.put]
  obtain ⟨xx, yx, zx, vx⟩ := Bx.facts
  obtain ⟨xy, yy, zy, vy⟩ := By.facts
  go_wp2_with fail
  clear xx yx zx vx xy yy zy vy
  have gx := Bx.cells
  have gy := By.cells
  refine wp_region_tail 37 (by kernel_rfl) (by kernel_rfl) (C := fun w' => ∃ p : Regrown, w' = grow (redrawn w5 p.d) p.os) (fun w' h => regrown_of_below h) ?_
  simp only [List.take_succ_cons, List.take_zero, List.drop_succ_cons, List.drop_zero]
  repeat (refine rWalk_step (fun K hK => ?_); go_simp; first | (refine hK _ ?_; clear hK K) | (apply Exists.intro; refine ⟨fun _ => ?_, hK _ ?_⟩; (first | with_reducible exact toExt m3 _ | with_reducible exact toExt m1 _ | with_reducible exact toExt g1 _ | with_reducible exact toExt awake_any _); clear hK K))
  refine rWalk_nil ?_
  intro w6 hb
  clear gx gy
  replace Bx := Bx.ext hb rfl
  replace By := By.ext hb rfl
  replace hw := hw.trans (hb.mono hw.size)
  go_wp2
  go_ret
  exact ⟨rfl, hw⟩
theorem parts_inc (a b c : Int) (a0 : -9223372036854775808 ≤ a) (a1 : a ≤ 9223372036854775807) (b0 : -9223372036854775808 ≤ b) (b1 : b ≤ 9223372036854775807) (c0 : -9223372036854775808 ≤ c) (c1 : c ≤ 9223372036854775807) (h1 : b ≤ 2305843009213693952) (h2 : -2305843009213693952 ≤ b) (h3 : c ≤ 2305843009213693952) (h4 : -2305843009213693952 ≤ c) (z1 : (a == 0) = false) (z2 : (b == 0) = false) (w : World) :
    Calls Try.prog 5 #[.int .i64 a, .int .i64 b, .int .i64 c] w fun e w' => e = .returned (.bool true) ∧ Below w.heap.size w w' := by
  have m1 := mul_any a b a0 a1 b0 b1
  have m2 := mul_any a c a0 a1 c0 c1
  have m3 := mul_any a (b + c) a0 a1 (by omega) (by omega)
  have eb : IntKind.i64.wrap (b + c) = b + c := by rw [IntKind.wrap_i64]; omega
  have fb := fits_mul a b a0 a1 b0 b1
  have fc := fits_mul a c a0 a1 c0 c1
  have fs := fits_mul a (b + c) a0 a1 (by omega) (by omega)
  have d1 := add_any (cH (a * b)) (cL (a * b)) (cH (a * c)) (cL (a * c)) (ok_c _) (ok_c _)
  rw [V_c fb, V_c fc, ← Int.mul_add, fs] at d1
  have d2 := sub_any (cH (a * (b + c))) (cL (a * (b + c))) (cH (a * c)) (cL (a * c)) (ok_c _) (ok_c _)
  rw [V_c fs, V_c fc, show a * (b + c) - a * c = a * b by rw [Int.mul_add]; omega, fb] at d2
  have g1 := sign_any (cH (a * b)) (cL (a * b)) (ok_c _)
  rw [V_c fb] at g1
  obtain ⟨σ, hσ⟩ : ∃ x, sgn (a * b) = x := ⟨_, rfl⟩
  have hs : (σ == 0) = (a == 0 || b == 0) := by
    rw [← hσ, Bool.eq_iff_iff]
    simp only [beq_iff_eq, Bool.or_eq_true]
    rw [← Int.mul_eq_zero]
    generalize a * b = p
    unfold sgn; split <;> (try split) <;> omega
  rw [z1, z2, Bool.or_false] at hs
  obtain ⟨H0, hH⟩ : ∃ x, cH (a * (b + c)) = x := ⟨_, rfl⟩
  obtain ⟨L0, hL⟩ : ∃ x, cL (a * (b + c)) = x := ⟨_, rfl⟩
  obtain ⟨H1, hH1⟩ : ∃ x, cH (a * b) = x := ⟨_, rfl⟩
  obtain ⟨L1, hL1⟩ : ∃ x, cL (a * b) = x := ⟨_, rfl⟩
  obtain ⟨H2, hH2⟩ : ∃ x, cH (a * c) = x := ⟨_, rfl⟩
  obtain ⟨L2, hL2⟩ : ∃ x, cL (a * c) = x := ⟨_, rfl⟩
  rw [hH, hL] at m3 d1 d2
  rw [hH1, hL1] at m1 d1 d2 g1
  rw [hH2, hL2] at m2 d1 d2
  rw [hσ] at g1
  clear hH hL hH1 hL1 hH2 hL2 hσ fb fc fs
  go_enter Try.func5, Try.ntmps5
  go_wp2_with fail
  refine (m1 _).mono ?_
  rintro e w1 ⟨rfl, hb⟩
  have hw := hb
  clear hb
  go_wp2_with fail
  refine (m2 _).mono ?_
  rintro e w2 ⟨rfl, hb⟩
  replace hw := hw.trans (hb.mono hw.size)
  clear hb
  go_wp2_with fail
  refine (d1 _).mono ?_
  rintro e w3 ⟨rfl, hb⟩
  replace hw := hw.trans (hb.mono hw.size)
  clear hb
  go_wp2_with fail
  refine at_world fun W4 hW => ?_
  obtain ⟨bkx, hbx⟩ : ∃ b, w3.heap.size = b := ⟨_, rfl⟩
  rw [hbx]
  have Bx : Box W4 bkx [.int .i64 H0, .int .u64 L0] 24 := by rw [hW]; exact Box.new hbx.symm
  replace hw : Below w.heap.size w W4 := by have hl := hw.size; rw [hW]; go_grown
  clear hW hbx
  have gx := Bx.cells
  refine wp_region_late2 8 9 42 (.int .i64 H1) (.int .u64 L1) rfl rfl rfl rfl rfl rfl rfl (by simp) (fun ρ W => by simp [execOp, go_sem]; rfl) (by kernel_rfl) (by kernel_rfl) (C := fun w' => ∃ p : Regrown, w' = grow (redrawn W4 p.d) p.os) (fun w' h => regrown_of_below h) ?_ (fun ρ W b e1 e2 hB => by obtain ⟨x, y, _, _⟩ := hB.facts; simp [execOp, go_sem, e1, e2, x, y, eff2])
  simp only [List.take_succ_cons, List.take_zero, List.drop_succ_cons, List.drop_zero]
  repeat (refine rWalk_step (fun K hK => ?_); go_simp; first | (refine hK _ ?_; clear hK K) | (apply Exists.intro; refine ⟨fun _ => ?_, hK _ ?_⟩; (first | with_reducible exact toExt m2 _ | with_reducible exact toExt d2 _); clear hK K))
  refine rWalk_nil ⟨rfl, ?_⟩
  intro w5 bky hb h1b h2b By
  clear gx
  replace Bx := Bx.ext hb rfl
  replace hw := hw.trans (hb.mono hw.size)
  clear hb h1b h2b
  simp only [Act.put]
  obtain ⟨xx, yx, zx, vx⟩ := Bx.facts
  obtain ⟨xy, yy, zy, vy⟩ := By.facts
  go_wp2_with fail
  clear xx yx zx vx xy yy zy vy
  have gx := Bx.cells
  have gy := By.cells
  refine wp_region_tail 37 (by kernel_rfl) (by kernel_rfl) (C := fun w' => ∃ p : Regrown, w' = grow (redrawn w5 p.d) p.os) (fun w' h => regrown_of_below h) ?_
  simp only [List.take_succ_cons, List.take_zero, List.drop_succ_cons, List.drop_zero]
  repeat (refine rWalk_step (fun K hK => ?_); go_simp; first | (refine hK _ ?_; clear hK K) | (apply Exists.intro; refine ⟨fun _ => ?_, hK _ ?_⟩; (first | with_reducible exact toExt m3 _ | with_reducible exact toExt m1 _ | with_reducible exact toExt g1 _ | with_reducible exact toExt awake_any _); clear hK K))
  refine rWalk_nil ?_
  intro w6 hb
  clear gx gy
  replace Bx := Bx.ext hb rfl
  replace By := By.ext hb rfl
  replace hw := hw.trans (hb.mono hw.size)
  go_wp2
  go_ret
  exact ⟨rfl, hw⟩
theorem parts_law (a b c : Int) (a0 : -9223372036854775808 ≤ a) (a1 : a ≤ 9223372036854775807) (b0 : -9223372036854775808 ≤ b) (b1 : b ≤ 9223372036854775807) (c0 : -9223372036854775808 ≤ c) (c1 : c ≤ 9223372036854775807) (w : World) :
    Calls Try.prog 5 #[.int .i64 a, .int .i64 b, .int .i64 c] w fun e w' => e = .returned (.bool true) ∧ Below w.heap.size w w' := by
  by_cases h1 : 2305843009213693952 < b
  · exact parts_0 a b c h1 w
  by_cases h2 : b < -2305843009213693952
  · exact parts_1 a b c (by omega) h2 w
  by_cases h3 : 2305843009213693952 < c
  · exact parts_2 a b c (by omega) (by omega) h3 w
  by_cases h4 : c < -2305843009213693952
  · exact parts_3 a b c (by omega) (by omega) (by omega) h4 w
  cases z1 : (a == 0) with
  | true => exact parts_ina a b c a0 a1 b0 b1 c0 c1 (by omega) (by omega) (by omega) (by omega) z1 w
  | false =>
    cases z2 : (b == 0) with
    | true => exact parts_inb a b c a0 a1 b0 b1 c0 c1 (by omega) (by omega) (by omega) (by omega) z1 z2 w
    | false => exact parts_inc a b c a0 a1 b0 b1 c0 c1 (by omega) (by omega) (by omega) (by omega) z1 z2 w
set_option maxRecDepth 100000 in
theorem wideParts_lifted (os : Os) (started : os.Started) (H : Type) (enc : TypeId × Value → H) :
    ReturnsInHanded {} Try.checked os 5 .any (Rows.widePartsSpec.pre6 enc Try.prog Try.f5 Rows.widePartsRow.domain false) (Rows.widePartsSpec.post enc Try.prog Try.f5 false true false false) := by
  refine returnsInHanded_of_change (C := Try.checked) Try.own started (by kernel_rfl) Try.func5
    (ChangeSpec.witness6 (enc := enc) (C := Try.checked) false ⟨#[], #[.int .i64 0, .int .i64 0, .int .i64 0], []⟩ 8 (by kernel_rfl) (by kernel_rfl) (by kernel_rfl) (by kernel_rfl)) ?_
  intro W base args ds gs before hval0 hW hcnd _
  have hval : ∀ (j : Nat) t v, Try.f5.params[j]? = some t → args[j]? = some v → Value.okWide Try.prog W .any base t v := hval0
  have hW' := hW
  obtain ⟨p, q, hA0, hV, rfl, hfz, hnd⟩ := hW
  have hA : DataW.TrodAll enc Try.prog W 0 (fun _ => true) true Try.f5.params.toList args.toList ds p := hA0
  rw [Try.params5] at hA hval
  obtain ⟨v0, v1, v2, d0, d1, d2, q0, q1, q2, rfl, rfl, rfl, p0, p1, p2⟩ := trodAll_three hA
  obtain ⟨rfl, rfl⟩ := trodVars_none hV
  obtain ⟨a, rfl, rfl, rfl, wa⟩ := open_int Try.underlying3 (hval 0 3 v0 rfl rfl) p0
  have k0 := int_wf wa
  obtain ⟨b, rfl, rfl, rfl, wb⟩ := open_int Try.underlying3 (hval 1 3 v1 rfl rfl) p1
  have k1 := int_wf wb
  obtain ⟨c, rfl, rfl, rfl, wc⟩ := open_int Try.underlying3 (hval 2 3 v2 rfl rfl) p2
  have k2 := int_wf wc
  clear hA0 hval0
  simp only [List.append_nil] at hW'
  refine (parts_law a b c k0.1 k0.2 k1.1 k1.2 k2.1 k2.2 W).mono fun e W' ⟨he, hb⟩ => ?_
  subst he
  exact ⟨_, rfl, post_of_below (pa := []) (pv := []) hW' (fun _ _ _ => trodAll_mk1 (shut_bool Try.underlying4 true)) (fun sp _ => trodAll_mk3 (shut_int Try.underlying3 wa) (shut_int Try.underlying3 wb) (shut_int Try.underlying3 wc)) (fun _ _ => rfl) rfl hb (ok_one (by kernel_rfl) rfl (okWide_bool_mk Try.underlying4 true))⟩
/-- The law WideParts holds of every input. -/
theorem wideParts_holds : Rows.WidePartsSaid :=
  OpenClaim.holds_of_wide 5 Try.f5 rfl rfl rfl rfl rfl rfl rfl ⟨rfl, rfl, rfl, rfl, rfl⟩ rfl rfl rfl rfl rfl (by kernel_rfl) Try.func5 (by kernel_rfl)
    (of_decide_eq_true (by kernel_rfl)) (by unfold Func.isWrapper; rw [if_neg (of_decide_eq_false (by kernel_rfl))]; exact ⟨rfl, rfl⟩)
    (fun os started H enc _ => wideParts_lifted os started H enc)
end Go.Proofs.Ytkohcdkolkncaaa
