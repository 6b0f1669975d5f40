/- Part of the law WideOrder of package hectarelaw1: one case of its order each; no conditions beyond the case's own. -/
import Derived.Test.YtkohcdkolkncaaaRows
import Derived.Test.YtkohcdkolkncaaaWideK
import Derived.Test.YtkohcdkolkncaaaPost
import Derived.Test.YtkohcdkolkncaaaLate
import Derived.Test.YtkohcdkolkncaaaLawOrder1
import Derived.WalkKit
import Derived.WalkSpells
import Derived.WalkLawsBesides
import Derived.Deep.QuietTactic
import Derived.BigQuiet
import Derived.Lib.Hide
import Derived.Handy
import Derived.ProofKit
import Derived.Lib.SmallJoins
namespace Go.Proofs.Ytkohcdkolkncaaa
open Go.RowKit Go.Sort Go.ChangeShapes Go.WideShapes Go.ChangeAt
attribute [local go_sem] rOper rAt rUpon cell_set sg_i64 sg_u64 alloc_cell alloc_frozen
attribute [local irreducible] rWalk

set_option maxHeartbeats 2000000 in
theorem ord_gt_11 (h1 l1 l2 h3 l3 : Int) (k : Ok h1 l1) (q : Ok h1 l2) (r : Ok h3 l3) (hc : V h1 l2 < V h1 l1) (hn : ¬ l1 = l2) (hf : fits (V h1 l1 - V h1 l2) = true) (w : World) :
    Calls Try.prog 7 #[.agg #[.int .i64 h1, .int .u64 l1], .agg #[.int .i64 h1, .int .u64 l2], .agg #[.int .i64 h3, .int .u64 l3]] w fun e w' => e = .returned (.bool true) ∧ Below w.heap.size w w' := by
  have cxy := cmp_any h1 l1 h1 l2 k q
  have cyx := cmp_any h1 l2 h1 l1 q k
  have cyz := cmp_any h1 l2 h3 l3 q r
  have cxz := cmp_any h1 l1 h3 l3 k r
  have d1 := sub_any h1 l1 h1 l2 k q
  have n1 := neg_any h1 l1 k
  have n2 := neg_any h1 l2 q
  have s1 := sign_any h1 l1 k
  have z1 := cmp_any h1 l1 0 0 k ⟨by omega, by omega, by omega, by omega⟩
  rw [show V h1 l1 - V 0 0 = V h1 l1 by unfold V; omega] at z1
  have ab : fits (-V h1 l1) = true → fits (-V h1 l2) = true → ∀ w : World, Calls Try.prog 19 #[.agg #[.int .i64 (cH (-V h1 l1)), .int .u64 (cL (-V h1 l1))], .agg #[.int .i64 (cH (-V h1 l2)), .int .u64 (cL (-V h1 l2))]] w fun e w' => e = .returned (.int .i64 (-1)) ∧ Below w.heap.size w w' := fun f g => by
    have c := cmp_any (cH (-V h1 l1)) (cL (-V h1 l1)) (cH (-V h1 l2)) (cL (-V h1 l2)) (ok_c _) (ok_c _)
    rw [V_c f, V_c g, sgn_neg (-V h1 l1 - -V h1 l2) (by omega)] at c
    exact c
  rw [sgn_pos (V h1 l1 - V h1 l2) (by omega)] at cxy
  rw [sgn_neg (V h1 l2 - V h1 l1) (by omega)] at cyx
  have g1 := sign_any (cH (V h1 l1 - V h1 l2)) (cL (V h1 l1 - V h1 l2)) (ok_c _)
  rw [V_c hf, sgn_pos (V h1 l1 - V h1 l2) (by omega)] at g1
  rw [hf] at d1
  obtain ⟨D0, hD0⟩ : ∃ x, cH (V h1 l1 - V h1 l2) = x := ⟨_, rfl⟩
  obtain ⟨D1, hD1⟩ : ∃ x, cL (V h1 l1 - V h1 l2) = x := ⟨_, rfl⟩
  rw [hD0, hD1] at d1 g1
  clear hD0 hD1 hf
  obtain ⟨ξ, hξ⟩ : ∃ x, sgn (V h1 l1) = x := ⟨_, rfl⟩
  rw [hξ] at s1 z1
  obtain ⟨f1, hf1⟩ : ∃ x, fits (-V h1 l1) = x := ⟨_, rfl⟩
  obtain ⟨f2, hf2⟩ : ∃ x, fits (-V h1 l2) = x := ⟨_, rfl⟩
  obtain ⟨A0, hA0⟩ : ∃ x, cH (-V h1 l1) = x := ⟨_, rfl⟩
  obtain ⟨A1, hA1⟩ : ∃ x, cL (-V h1 l1) = x := ⟨_, rfl⟩
  obtain ⟨B0, hB0⟩ : ∃ x, cH (-V h1 l2) = x := ⟨_, rfl⟩
  obtain ⟨B1, hB1⟩ : ∃ x, cL (-V h1 l2) = x := ⟨_, rfl⟩
  simp only [hf1, hA0, hA1] at n1 ab
  simp only [hf2, hB0, hB1] at n2 ab
  have AB := Lib.hid ab
  clear ab hf1 hf2 hA0 hA1 hB0 hB1 hξ hc
  go_enter Try.func7, Try.ntmps7
  go_wp2_with fail
  refine at_call fun W1 hW => ?_
  have Bx : Box W1 (w.heap.size) [.int .i64 h1, .int .u64 l1] 24 := by rw [hW]; exact ((Box.new rfl).old _).old _
  have By : Box W1 (w.heap.size + 1) [.int .i64 h1, .int .u64 l2] 24 := by rw [hW]; exact (Box.new (by simp)).old _
  have Bz : Box W1 (w.heap.size + 1 + 1) [.int .i64 h3, .int .u64 l3] 24 := by rw [hW]; exact Box.new (by simp)
  have hw : Below w.heap.size w W1 := by rw [hW]; go_grown
  clear hW
  refine (cxy _).mono ?_
  rintro e w2 ⟨rfl, hb⟩
  replace Bx := Bx.ext hb rfl
  replace By := By.ext hb rfl
  replace Bz := Bz.ext hb rfl
  replace hw := hw.trans (hb.mono hw.size)
  clear hb
  obtain ⟨xx, yx, zx, vx⟩ := Bx.facts
  obtain ⟨xy, yy, zy, vy⟩ := By.facts
  obtain ⟨xz, yz, zz, vz⟩ := Bz.facts
  go_wp2_with fail
  refine (d1 _).mono ?_
  rintro e w3 ⟨rfl, hb⟩
  clear xx yx zx vx xy yy zy vy xz yz zz vz
  replace Bx := Bx.ext hb rfl
  replace By := By.ext hb rfl
  replace Bz := Bz.ext hb rfl
  replace hw := hw.trans (hb.mono hw.size)
  clear hb
  obtain ⟨xx, yx, zx, vx⟩ := Bx.facts
  obtain ⟨xy, yy, zy, vy⟩ := By.facts
  obtain ⟨xz, yz, zz, vz⟩ := Bz.facts
  go_wp2_with fail
  refine at_call fun W4 hW => ?_
  obtain ⟨bkd, hbd⟩ : ∃ b, w3.heap.size = b := ⟨_, rfl⟩
  rw [hbd]
  have Bd : Box W4 bkd [.int .i64 D0, .int .u64 D1] 24 := by rw [hW]; exact Box.new hbd.symm
  replace Bx : Box W4 (w.heap.size) [.int .i64 h1, .int .u64 l1] 24 := by rw [hW]; exact Bx.old _
  replace By : Box W4 (w.heap.size + 1) [.int .i64 h1, .int .u64 l2] 24 := by rw [hW]; exact By.old _
  replace Bz : Box W4 (w.heap.size + 1 + 1) [.int .i64 h3, .int .u64 l3] 24 := by rw [hW]; exact Bz.old _
  replace hw : Below w.heap.size w W4 := by have hl := hw.size; rw [hW]; go_grown
  clear hW hbd
  refine (cyx _).mono ?_
  rintro e w5 ⟨rfl, hb⟩
  clear xx yx zx vx xy yy zy vy xz yz zz vz
  replace Bx := Bx.ext hb rfl
  replace By := By.ext hb rfl
  replace Bz := Bz.ext hb rfl
  replace Bd := Bd.ext hb rfl
  replace hw := hw.trans (hb.mono hw.size)
  clear hb
  obtain ⟨xx, yx, zx, vx⟩ := Bx.facts
  obtain ⟨xy, yy, zy, vy⟩ := By.facts
  obtain ⟨xz, yz, zz, vz⟩ := Bz.facts
  obtain ⟨xd, yd, zd, vd⟩ := Bd.facts
  go_wp2_with fail
  refine (g1 _).mono ?_
  rintro e w6 ⟨rfl, hb⟩
  clear xx yx zx vx xy yy zy vy xz yz zz vz xd yd zd vd
  replace Bx := Bx.ext hb rfl
  replace By := By.ext hb rfl
  replace Bz := Bz.ext hb rfl
  replace Bd := Bd.ext hb rfl
  replace hw := hw.trans (hb.mono hw.size)
  clear hb
  obtain ⟨xx, yx, zx, vx⟩ := Bx.facts
  obtain ⟨xy, yy, zy, vy⟩ := By.facts
  obtain ⟨xz, yz, zz, vz⟩ := Bz.facts
  obtain ⟨xd, yd, zd, vd⟩ := Bd.facts
  go_wp2_with fail
  refine (n1 _).mono ?_
  rintro e w7 ⟨rfl, hb⟩
  clear xx yx zx vx xy yy zy vy xz yz zz vz xd yd zd vd
  replace Bx := Bx.ext hb rfl
  replace By := By.ext hb rfl
  replace Bz := Bz.ext hb rfl
  replace Bd := Bd.ext hb rfl
  replace hw := hw.trans (hb.mono hw.size)
  clear hb
  obtain ⟨xx, yx, zx, vx⟩ := Bx.facts
  obtain ⟨xy, yy, zy, vy⟩ := By.facts
  obtain ⟨xz, yz, zz, vz⟩ := Bz.facts
  obtain ⟨xd, yd, zd, vd⟩ := Bd.facts
  go_wp2_with fail
  refine at_call fun W8 hW => ?_
  obtain ⟨bka, hba⟩ : ∃ b, w7.heap.size = b := ⟨_, rfl⟩
  rw [hba]
  have Ba : Box W8 bka [.int .i64 A0, .int .u64 A1] 24 := by rw [hW]; exact Box.new hba.symm
  replace Bx : Box W8 (w.heap.size) [.int .i64 h1, .int .u64 l1] 24 := by rw [hW]; exact Bx.old _
  replace By : Box W8 (w.heap.size + 1) [.int .i64 h1, .int .u64 l2] 24 := by rw [hW]; exact By.old _
  replace Bz : Box W8 (w.heap.size + 1 + 1) [.int .i64 h3, .int .u64 l3] 24 := by rw [hW]; exact Bz.old _
  replace Bd : Box W8 (bkd) [.int .i64 D0, .int .u64 D1] 24 := by rw [hW]; exact Bd.old _
  replace hw : Below w.heap.size w W8 := by have hl := hw.size; rw [hW]; go_grown
  clear hW hba
  refine (n2 _).mono ?_
  rintro e w9 ⟨rfl, hb⟩
  clear xx yx zx vx xy yy zy vy xz yz zz vz xd yd zd vd
  replace Bx := Bx.ext hb rfl
  replace By := By.ext hb rfl
  replace Bz := Bz.ext hb rfl
  replace Bd := Bd.ext hb rfl
  replace Ba := Ba.ext hb rfl
  replace hw := hw.trans (hb.mono hw.size)
  clear hb
  obtain ⟨xx, yx, zx, vx⟩ := Bx.facts
  obtain ⟨xy, yy, zy, vy⟩ := By.facts
  obtain ⟨xz, yz, zz, vz⟩ := Bz.facts
  obtain ⟨xd, yd, zd, vd⟩ := Bd.facts
  obtain ⟨xa, ya, za, va⟩ := Ba.facts
  go_wp2_with fail
  refine at_world fun W10 hW => ?_
  obtain ⟨bkb, hbb⟩ : ∃ b, w9.heap.size = b := ⟨_, rfl⟩
  rw [hbb]
  have Bb : Box W10 bkb [.int .i64 B0, .int .u64 B1] 24 := by rw [hW]; exact Box.new hbb.symm
  replace Bx : Box W10 (w.heap.size) [.int .i64 h1, .int .u64 l1] 24 := by rw [hW]; exact Bx.old _
  replace By : Box W10 (w.heap.size + 1) [.int .i64 h1, .int .u64 l2] 24 := by rw [hW]; exact By.old _
  replace Bz : Box W10 (w.heap.size + 1 + 1) [.int .i64 h3, .int .u64 l3] 24 := by rw [hW]; exact Bz.old _
  replace Bd : Box W10 (bkd) [.int .i64 D0, .int .u64 D1] 24 := by rw [hW]; exact Bd.old _
  replace Ba : Box W10 (bka) [.int .i64 A0, .int .u64 A1] 24 := by rw [hW]; exact Ba.old _
  replace hw : Below w.heap.size w W10 := by have hl := hw.size; rw [hW]; go_grown
  clear hW hbb
  cases f1 with
  | false =>
    clear AB
    have gx := Bx.cells
    have gy := By.cells
    have gz := Bz.cells
    have gd := Bd.cells
    have ga := Ba.cells
    have gb := Bb.cells
    refine wp_region_tail 25 (by kernel_rfl) (by kernel_rfl) (C := fun w' => ∃ p : Regrown, w' = grow (redrawn W10 p.d) p.os) (fun w' h => regrown_of_below h) ?_
    simp only [List.take_succ_cons, List.take_zero, List.drop_succ_cons, List.drop_zero]
    repeat (first | (refine rWalk_skip (Eq.refl false) ?_; simp only [Act.put, List.setIfInBounds_toArray, List.set_cons_succ, List.set_cons_zero]) | (refine rWalk_step (fun K hK => ?_); go_simp; first | (refine hK _ ?_; clear hK K) | (apply Exists.intro; refine ⟨fun _ => ?_, hK _ ?_⟩; (first | with_reducible exact toExt s1 _ | with_reducible exact toExt z1 _ | with_reducible exact toExt awake_any _); clear hK K)))
    refine rWalk_nil ?_
    intro w11 hb
    clear gx gy gz gd ga gb
    clear xx yx zx vx xy yy zy vy xz yz zz vz xd yd zd vd xa ya za va
    replace Bx := Bx.ext hb rfl
    replace By := By.ext hb rfl
    replace Bz := Bz.ext hb rfl
    replace Bd := Bd.ext hb rfl
    replace Ba := Ba.ext hb rfl
    replace Bb := Bb.ext hb rfl
    replace hw := hw.trans (hb.mono hw.size)
    go_wp2
    go_ret
    exact ⟨rfl, hw⟩
  | true =>
    cases f2 with
    | false =>
      clear AB
      have gx := Bx.cells
      have gy := By.cells
      have gz := Bz.cells
      have gd := Bd.cells
      have ga := Ba.cells
      have gb := Bb.cells
      refine wp_region_tail 25 (by kernel_rfl) (by kernel_rfl) (C := fun w' => ∃ p : Regrown, w' = grow (redrawn W10 p.d) p.os) (fun w' h => regrown_of_below h) ?_
      simp only [List.take_succ_cons, List.take_zero, List.drop_succ_cons, List.drop_zero]
      repeat (first | (refine rWalk_skip (Eq.refl false) ?_; simp only [Act.put, List.setIfInBounds_toArray, List.set_cons_succ, List.set_cons_zero]) | (refine rWalk_step (fun K hK => ?_); go_simp; first | (refine hK _ ?_; clear hK K) | (apply Exists.intro; refine ⟨fun _ => ?_, hK _ ?_⟩; (first | with_reducible exact toExt s1 _ | with_reducible exact toExt z1 _ | with_reducible exact toExt awake_any _); clear hK K)))
      refine rWalk_nil ?_
      intro w11 hb
      clear gx gy gz gd ga gb
      clear xx yx zx vx xy yy zy vy xz yz zz vz xd yd zd vd xa ya za va
      replace Bx := Bx.ext hb rfl
      replace By := By.ext hb rfl
      replace Bz := Bz.ext hb rfl
      replace Bd := Bd.ext hb rfl
      replace Ba := Ba.ext hb rfl
      replace Bb := Bb.ext hb rfl
      replace hw := hw.trans (hb.mono hw.size)
      go_wp2
      go_ret
      exact ⟨rfl, hw⟩
    | true =>
      have ab := AB.out rfl rfl
      clear AB
      have gx := Bx.cells
      have gy := By.cells
      have gz := Bz.cells
      have gd := Bd.cells
      have ga := Ba.cells
      have gb := Bb.cells
      refine wp_region_tail 25 (by kernel_rfl) (by kernel_rfl) (C := fun w' => ∃ p : Regrown, w' = grow (redrawn W10 p.d) p.os) (fun w' h => regrown_of_below h) ?_
      simp only [List.take_succ_cons, List.take_zero, List.drop_succ_cons, List.drop_zero]
      repeat (first | (refine rWalk_skip (Eq.refl false) ?_; simp only [Act.put, List.setIfInBounds_toArray, List.set_cons_succ, List.set_cons_zero]) | (refine rWalk_step (fun K hK => ?_); go_simp; first | (refine hK _ ?_; clear hK K) | (apply Exists.intro; refine ⟨fun _ => ?_, hK _ ?_⟩; (first | with_reducible exact toExt ab _ | with_reducible exact toExt s1 _ | with_reducible exact toExt z1 _ | with_reducible exact toExt awake_any _); clear hK K)))
      refine rWalk_nil ?_
      intro w11 hb
      clear gx gy gz gd ga gb
      clear xx yx zx vx xy yy zy vy xz yz zz vz xd yd zd vd xa ya za va
      replace Bx := Bx.ext hb rfl
      replace By := By.ext hb rfl
      replace Bz := Bz.ext hb rfl
      replace Bd := Bd.ext hb rfl
      replace Ba := Ba.ext hb rfl
      replace Bb := Bb.ext hb rfl
      replace hw := hw.trans (hb.mono hw.size)
      go_wp2
      go_ret
      exact ⟨rfl, hw⟩
set_option maxHeartbeats 2000000 in
theorem ord_lt_10le (h1 l1 l2 h3 l3 : Int) (k : Ok h1 l1) (q : Ok h1 l2) (r : Ok h3 l3) (hc : V h1 l1 < V h1 l2) (hn : ¬ l1 = l2) (hf : fits (V h1 l1 - V h1 l2) = false) (ht : V h1 l2 ≤ V h3 l3) (w : World) :
    Calls Try.prog 7 #[.agg #[.int .i64 h1, .int .u64 l1], .agg #[.int .i64 h1, .int .u64 l2], .agg #[.int .i64 h3, .int .u64 l3]] w fun e w' => e = .returned (.bool true) ∧ Below w.heap.size w w' := by
  have cxy := cmp_any h1 l1 h1 l2 k q
  have cyx := cmp_any h1 l2 h1 l1 q k
  have cyz := cmp_any h1 l2 h3 l3 q r
  have cxz := cmp_any h1 l1 h3 l3 k r
  have d1 := sub_any h1 l1 h1 l2 k q
  have n1 := neg_any h1 l1 k
  have n2 := neg_any h1 l2 q
  have s1 := sign_any h1 l1 k
  have z1 := cmp_any h1 l1 0 0 k ⟨by omega, by omega, by omega, by omega⟩
  rw [show V h1 l1 - V 0 0 = V h1 l1 by unfold V; omega] at z1
  have ab : fits (-V h1 l1) = true → fits (-V h1 l2) = true → ∀ w : World, Calls Try.prog 19 #[.agg #[.int .i64 (cH (-V h1 l1)), .int .u64 (cL (-V h1 l1))], .agg #[.int .i64 (cH (-V h1 l2)), .int .u64 (cL (-V h1 l2))]] w fun e w' => e = .returned (.int .i64 (1)) ∧ Below w.heap.size w w' := fun f g => by
    have c := cmp_any (cH (-V h1 l1)) (cL (-V h1 l1)) (cH (-V h1 l2)) (cL (-V h1 l2)) (ok_c _) (ok_c _)
    rw [V_c f, V_c g, sgn_pos (-V h1 l1 - -V h1 l2) (by omega)] at c
    exact c
  rw [sgn_neg (V h1 l1 - V h1 l2) (by omega)] at cxy
  rw [sgn_pos (V h1 l2 - V h1 l1) (by omega)] at cyx
  obtain ⟨e1, e2⟩ := c_not hf
  rw [hf, e1, e2] at d1
  clear hf e1 e2
  obtain ⟨τ, hτ⟩ : ∃ x, sgn (V h1 l2 - V h3 l3) = x := ⟨_, rfl⟩
  obtain ⟨ρ, hρ⟩ : ∃ x, sgn (V h1 l1 - V h3 l3) = x := ⟨_, rfl⟩
  have tl : τ ≤ 0 := by rw [← hτ, sgn_le]; omega
  have rl : ρ ≤ 0 := by rw [← hρ, sgn_le]; omega
  rw [hτ] at cyz
  rw [hρ] at cxz
  clear hτ hρ
  obtain ⟨ξ, hξ⟩ : ∃ x, sgn (V h1 l1) = x := ⟨_, rfl⟩
  rw [hξ] at s1 z1
  obtain ⟨f1, hf1⟩ : ∃ x, fits (-V h1 l1) = x := ⟨_, rfl⟩
  obtain ⟨f2, hf2⟩ : ∃ x, fits (-V h1 l2) = x := ⟨_, rfl⟩
  obtain ⟨A0, hA0⟩ : ∃ x, cH (-V h1 l1) = x := ⟨_, rfl⟩
  obtain ⟨A1, hA1⟩ : ∃ x, cL (-V h1 l1) = x := ⟨_, rfl⟩
  obtain ⟨B0, hB0⟩ : ∃ x, cH (-V h1 l2) = x := ⟨_, rfl⟩
  obtain ⟨B1, hB1⟩ : ∃ x, cL (-V h1 l2) = x := ⟨_, rfl⟩
  simp only [hf1, hA0, hA1] at n1 ab
  simp only [hf2, hB0, hB1] at n2 ab
  have AB := Lib.hid ab
  clear ab hf1 hf2 hA0 hA1 hB0 hB1 hξ hc ht
  go_enter Try.func7, Try.ntmps7
  go_wp2_with fail
  refine at_call fun W1 hW => ?_
  have Bx : Box W1 (w.heap.size) [.int .i64 h1, .int .u64 l1] 24 := by rw [hW]; exact ((Box.new rfl).old _).old _
  have By : Box W1 (w.heap.size + 1) [.int .i64 h1, .int .u64 l2] 24 := by rw [hW]; exact (Box.new (by simp)).old _
  have Bz : Box W1 (w.heap.size + 1 + 1) [.int .i64 h3, .int .u64 l3] 24 := by rw [hW]; exact Box.new (by simp)
  have hw : Below w.heap.size w W1 := by rw [hW]; go_grown
  clear hW
  refine (cxy _).mono ?_
  rintro e w2 ⟨rfl, hb⟩
  replace Bx := Bx.ext hb rfl
  replace By := By.ext hb rfl
  replace Bz := Bz.ext hb rfl
  replace hw := hw.trans (hb.mono hw.size)
  clear hb
  obtain ⟨xx, yx, zx, vx⟩ := Bx.facts
  obtain ⟨xy, yy, zy, vy⟩ := By.facts
  obtain ⟨xz, yz, zz, vz⟩ := Bz.facts
  go_wp2_with fail
  refine (d1 _).mono ?_
  rintro e w3 ⟨rfl, hb⟩
  clear xx yx zx vx xy yy zy vy xz yz zz vz
  replace Bx := Bx.ext hb rfl
  replace By := By.ext hb rfl
  replace Bz := Bz.ext hb rfl
  replace hw := hw.trans (hb.mono hw.size)
  clear hb
  obtain ⟨xx, yx, zx, vx⟩ := Bx.facts
  obtain ⟨xy, yy, zy, vy⟩ := By.facts
  obtain ⟨xz, yz, zz, vz⟩ := Bz.facts
  go_wp2_with fail
  refine at_call fun W4 hW => ?_
  obtain ⟨bkd, hbd⟩ : ∃ b, w3.heap.size = b := ⟨_, rfl⟩
  rw [hbd]
  have Bd : Box W4 bkd [.int .i64 0, .int .u64 0] 24 := by rw [hW]; exact Box.new hbd.symm
  replace Bx : Box W4 (w.heap.size) [.int .i64 h1, .int .u64 l1] 24 := by rw [hW]; exact Bx.old _
  replace By : Box W4 (w.heap.size + 1) [.int .i64 h1, .int .u64 l2] 24 := by rw [hW]; exact By.old _
  replace Bz : Box W4 (w.heap.size + 1 + 1) [.int .i64 h3, .int .u64 l3] 24 := by rw [hW]; exact Bz.old _
  replace hw : Below w.heap.size w W4 := by have hl := hw.size; rw [hW]; go_grown
  clear hW hbd
  refine (cyx _).mono ?_
  rintro e w5 ⟨rfl, hb⟩
  clear xx yx zx vx xy yy zy vy xz yz zz vz
  replace Bx := Bx.ext hb rfl
  replace By := By.ext hb rfl
  replace Bz := Bz.ext hb rfl
  replace Bd := Bd.ext hb rfl
  replace hw := hw.trans (hb.mono hw.size)
  clear hb
  obtain ⟨xx, yx, zx, vx⟩ := Bx.facts
  obtain ⟨xy, yy, zy, vy⟩ := By.facts
  obtain ⟨xz, yz, zz, vz⟩ := Bz.facts
  obtain ⟨xd, yd, zd, vd⟩ := Bd.facts
  go_wp2_with fail
  refine (cyz _).mono ?_
  rintro e w6 ⟨rfl, hb⟩
  clear xx yx zx vx xy yy zy vy xz yz zz vz xd yd zd vd
  replace Bx := Bx.ext hb rfl
  replace By := By.ext hb rfl
  replace Bz := Bz.ext hb rfl
  replace Bd := Bd.ext hb rfl
  replace hw := hw.trans (hb.mono hw.size)
  clear hb
  obtain ⟨xx, yx, zx, vx⟩ := Bx.facts
  obtain ⟨xy, yy, zy, vy⟩ := By.facts
  obtain ⟨xz, yz, zz, vz⟩ := Bz.facts
  obtain ⟨xd, yd, zd, vd⟩ := Bd.facts
  go_wp2_with fail
  refine (cxz _).mono ?_
  rintro e w7 ⟨rfl, hb⟩
  clear xx yx zx vx xy yy zy vy xz yz zz vz xd yd zd vd
  replace Bx := Bx.ext hb rfl
  replace By := By.ext hb rfl
  replace Bz := Bz.ext hb rfl
  replace Bd := Bd.ext hb rfl
  replace hw := hw.trans (hb.mono hw.size)
  clear hb
  obtain ⟨xx, yx, zx, vx⟩ := Bx.facts
  obtain ⟨xy, yy, zy, vy⟩ := By.facts
  obtain ⟨xz, yz, zz, vz⟩ := Bz.facts
  obtain ⟨xd, yd, zd, vd⟩ := Bd.facts
  go_wp2_with fail
  refine (n1 _).mono ?_
  rintro e w8 ⟨rfl, hb⟩
  clear xx yx zx vx xy yy zy vy xz yz zz vz xd yd zd vd
  replace Bx := Bx.ext hb rfl
  replace By := By.ext hb rfl
  replace Bz := Bz.ext hb rfl
  replace Bd := Bd.ext hb rfl
  replace hw := hw.trans (hb.mono hw.size)
  clear hb
  obtain ⟨xx, yx, zx, vx⟩ := Bx.facts
  obtain ⟨xy, yy, zy, vy⟩ := By.facts
  obtain ⟨xz, yz, zz, vz⟩ := Bz.facts
  obtain ⟨xd, yd, zd, vd⟩ := Bd.facts
  go_wp2_with fail
  refine at_call fun W9 hW => ?_
  obtain ⟨bka, hba⟩ : ∃ b, w8.heap.size = b := ⟨_, rfl⟩
  rw [hba]
  have Ba : Box W9 bka [.int .i64 A0, .int .u64 A1] 24 := by rw [hW]; exact Box.new hba.symm
  replace Bx : Box W9 (w.heap.size) [.int .i64 h1, .int .u64 l1] 24 := by rw [hW]; exact Bx.old _
  replace By : Box W9 (w.heap.size + 1) [.int .i64 h1, .int .u64 l2] 24 := by rw [hW]; exact By.old _
  replace Bz : Box W9 (w.heap.size + 1 + 1) [.int .i64 h3, .int .u64 l3] 24 := by rw [hW]; exact Bz.old _
  replace Bd : Box W9 (bkd) [.int .i64 0, .int .u64 0] 24 := by rw [hW]; exact Bd.old _
  replace hw : Below w.heap.size w W9 := by have hl := hw.size; rw [hW]; go_grown
  clear hW hba
  refine (n2 _).mono ?_
  rintro e w10 ⟨rfl, hb⟩
  clear xx yx zx vx xy yy zy vy xz yz zz vz xd yd zd vd
  replace Bx := Bx.ext hb rfl
  replace By := By.ext hb rfl
  replace Bz := Bz.ext hb rfl
  replace Bd := Bd.ext hb rfl
  replace Ba := Ba.ext hb rfl
  replace hw := hw.trans (hb.mono hw.size)
  clear hb
  obtain ⟨xx, yx, zx, vx⟩ := Bx.facts
  obtain ⟨xy, yy, zy, vy⟩ := By.facts
  obtain ⟨xz, yz, zz, vz⟩ := Bz.facts
  obtain ⟨xd, yd, zd, vd⟩ := Bd.facts
  obtain ⟨xa, ya, za, va⟩ := Ba.facts
  go_wp2_with fail
  refine at_world fun W11 hW => ?_
  obtain ⟨bkb, hbb⟩ : ∃ b, w10.heap.size = b := ⟨_, rfl⟩
  rw [hbb]
  have Bb : Box W11 bkb [.int .i64 B0, .int .u64 B1] 24 := by rw [hW]; exact Box.new hbb.symm
  replace Bx : Box W11 (w.heap.size) [.int .i64 h1, .int .u64 l1] 24 := by rw [hW]; exact Bx.old _
  replace By : Box W11 (w.heap.size + 1) [.int .i64 h1, .int .u64 l2] 24 := by rw [hW]; exact By.old _
  replace Bz : Box W11 (w.heap.size + 1 + 1) [.int .i64 h3, .int .u64 l3] 24 := by rw [hW]; exact Bz.old _
  replace Bd : Box W11 (bkd) [.int .i64 0, .int .u64 0] 24 := by rw [hW]; exact Bd.old _
  replace Ba : Box W11 (bka) [.int .i64 A0, .int .u64 A1] 24 := by rw [hW]; exact Ba.old _
  replace hw : Below w.heap.size w W11 := by have hl := hw.size; rw [hW]; go_grown
  clear hW hbb
  cases f1 with
  | false =>
    clear AB
    have gx := Bx.cells
    have gy := By.cells
    have gz := Bz.cells
    have gd := Bd.cells
    have ga := Ba.cells
    have gb := Bb.cells
    refine wp_region_tail 25 (by kernel_rfl) (by kernel_rfl) (C := fun w' => ∃ p : Regrown, w' = grow (redrawn W11 p.d) p.os) (fun w' h => regrown_of_below h) ?_
    simp only [List.take_succ_cons, List.take_zero, List.drop_succ_cons, List.drop_zero]
    repeat (first | (refine rWalk_skip (Eq.refl false) ?_; simp only [Act.put, List.setIfInBounds_toArray, List.set_cons_succ, List.set_cons_zero]) | (refine rWalk_step (fun K hK => ?_); go_simp; first | (refine hK _ ?_; clear hK K) | (apply Exists.intro; refine ⟨fun _ => ?_, hK _ ?_⟩; (first | with_reducible exact toExt s1 _ | with_reducible exact toExt z1 _ | with_reducible exact toExt awake_any _); clear hK K)))
    refine rWalk_nil ?_
    intro w12 hb
    clear gx gy gz gd ga gb
    clear xx yx zx vx xy yy zy vy xz yz zz vz xd yd zd vd xa ya za va
    replace Bx := Bx.ext hb rfl
    replace By := By.ext hb rfl
    replace Bz := Bz.ext hb rfl
    replace Bd := Bd.ext hb rfl
    replace Ba := Ba.ext hb rfl
    replace Bb := Bb.ext hb rfl
    replace hw := hw.trans (hb.mono hw.size)
    go_wp2
    go_ret
    exact ⟨rfl, hw⟩
  | true =>
    cases f2 with
    | false =>
      clear AB
      have gx := Bx.cells
      have gy := By.cells
      have gz := Bz.cells
      have gd := Bd.cells
      have ga := Ba.cells
      have gb := Bb.cells
      refine wp_region_tail 25 (by kernel_rfl) (by kernel_rfl) (C := fun w' => ∃ p : Regrown, w' = grow (redrawn W11 p.d) p.os) (fun w' h => regrown_of_below h) ?_
      simp only [List.take_succ_cons, List.take_zero, List.drop_succ_cons, List.drop_zero]
      repeat (first | (refine rWalk_skip (Eq.refl false) ?_; simp only [Act.put, List.setIfInBounds_toArray, List.set_cons_succ, List.set_cons_zero]) | (refine rWalk_step (fun K hK => ?_); go_simp; first | (refine hK _ ?_; clear hK K) | (apply Exists.intro; refine ⟨fun _ => ?_, hK _ ?_⟩; (first | with_reducible exact toExt s1 _ | with_reducible exact toExt z1 _ | with_reducible exact toExt awake_any _); clear hK K)))
      refine rWalk_nil ?_
      intro w12 hb
      clear gx gy gz gd ga gb
      clear xx yx zx vx xy yy zy vy xz yz zz vz xd yd zd vd xa ya za va
      replace Bx := Bx.ext hb rfl
      replace By := By.ext hb rfl
      replace Bz := Bz.ext hb rfl
      replace Bd := Bd.ext hb rfl
      replace Ba := Ba.ext hb rfl
      replace Bb := Bb.ext hb rfl
      replace hw := hw.trans (hb.mono hw.size)
      go_wp2
      go_ret
      exact ⟨rfl, hw⟩
    | true =>
      have ab := AB.out rfl rfl
      clear AB
      have gx := Bx.cells
      have gy := By.cells
      have gz := Bz.cells
      have gd := Bd.cells
      have ga := Ba.cells
      have gb := Bb.cells
      refine wp_region_tail 25 (by kernel_rfl) (by kernel_rfl) (C := fun w' => ∃ p : Regrown, w' = grow (redrawn W11 p.d) p.os) (fun w' h => regrown_of_below h) ?_
      simp only [List.take_succ_cons, List.take_zero, List.drop_succ_cons, List.drop_zero]
      repeat (first | (refine rWalk_skip (Eq.refl false) ?_; simp only [Act.put, List.setIfInBounds_toArray, List.set_cons_succ, List.set_cons_zero]) | (refine rWalk_step (fun K hK => ?_); go_simp; first | (refine hK _ ?_; clear hK K) | (apply Exists.intro; refine ⟨fun _ => ?_, hK _ ?_⟩; (first | with_reducible exact toExt ab _ | with_reducible exact toExt s1 _ | with_reducible exact toExt z1 _ | with_reducible exact toExt awake_any _); clear hK K)))
      refine rWalk_nil ?_
      intro w12 hb
      clear gx gy gz gd ga gb
      clear xx yx zx vx xy yy zy vy xz yz zz vz xd yd zd vd xa ya za va
      replace Bx := Bx.ext hb rfl
      replace By := By.ext hb rfl
      replace Bz := Bz.ext hb rfl
      replace Bd := Bd.ext hb rfl
      replace Ba := Ba.ext hb rfl
      replace Bb := Bb.ext hb rfl
      replace hw := hw.trans (hb.mono hw.size)
      go_wp2
      go_ret
      exact ⟨rfl, hw⟩
set_option maxHeartbeats 2000000 in
theorem ord_lt_10gt (h1 l1 l2 h3 l3 : Int) (k : Ok h1 l1) (q : Ok h1 l2) (r : Ok h3 l3) (hc : V h1 l1 < V h1 l2) (hn : ¬ l1 = l2) (hf : fits (V h1 l1 - V h1 l2) = false) (ht : V h3 l3 < V h1 l2) (w : World) :
    Calls Try.prog 7 #[.agg #[.int .i64 h1, .int .u64 l1], .agg #[.int .i64 h1, .int .u64 l2], .agg #[.int .i64 h3, .int .u64 l3]] w fun e w' => e = .returned (.bool true) ∧ Below w.heap.size w w' := by
  have cxy := cmp_any h1 l1 h1 l2 k q
  have cyx := cmp_any h1 l2 h1 l1 q k
  have cyz := cmp_any h1 l2 h3 l3 q r
  have cxz := cmp_any h1 l1 h3 l3 k r
  have d1 := sub_any h1 l1 h1 l2 k q
  have n1 := neg_any h1 l1 k
  have n2 := neg_any h1 l2 q
  have s1 := sign_any h1 l1 k
  have z1 := cmp_any h1 l1 0 0 k ⟨by omega, by omega, by omega, by omega⟩
  rw [show V h1 l1 - V 0 0 = V h1 l1 by unfold V; omega] at z1
  have ab : fits (-V h1 l1) = true → fits (-V h1 l2) = true → ∀ w : World, Calls Try.prog 19 #[.agg #[.int .i64 (cH (-V h1 l1)), .int .u64 (cL (-V h1 l1))], .agg #[.int .i64 (cH (-V h1 l2)), .int .u64 (cL (-V h1 l2))]] w fun e w' => e = .returned (.int .i64 (1)) ∧ Below w.heap.size w w' := fun f g => by
    have c := cmp_any (cH (-V h1 l1)) (cL (-V h1 l1)) (cH (-V h1 l2)) (cL (-V h1 l2)) (ok_c _) (ok_c _)
    rw [V_c f, V_c g, sgn_pos (-V h1 l1 - -V h1 l2) (by omega)] at c
    exact c
  rw [sgn_neg (V h1 l1 - V h1 l2) (by omega)] at cxy
  rw [sgn_pos (V h1 l2 - V h1 l1) (by omega)] at cyx
  obtain ⟨e1, e2⟩ := c_not hf
  rw [hf, e1, e2] at d1
  clear hf e1 e2
  obtain ⟨τ, hτ⟩ : ∃ x, sgn (V h1 l2 - V h3 l3) = x := ⟨_, rfl⟩
  have tl : 0 < τ := by have h0 := sgn_le (V h1 l2 - V h3 l3); rw [← hτ]; omega
  rw [hτ] at cyz
  clear hτ
  obtain ⟨ξ, hξ⟩ : ∃ x, sgn (V h1 l1) = x := ⟨_, rfl⟩
  rw [hξ] at s1 z1
  obtain ⟨f1, hf1⟩ : ∃ x, fits (-V h1 l1) = x := ⟨_, rfl⟩
  obtain ⟨f2, hf2⟩ : ∃ x, fits (-V h1 l2) = x := ⟨_, rfl⟩
  obtain ⟨A0, hA0⟩ : ∃ x, cH (-V h1 l1) = x := ⟨_, rfl⟩
  obtain ⟨A1, hA1⟩ : ∃ x, cL (-V h1 l1) = x := ⟨_, rfl⟩
  obtain ⟨B0, hB0⟩ : ∃ x, cH (-V h1 l2) = x := ⟨_, rfl⟩
  obtain ⟨B1, hB1⟩ : ∃ x, cL (-V h1 l2) = x := ⟨_, rfl⟩
  simp only [hf1, hA0, hA1] at n1 ab
  simp only [hf2, hB0, hB1] at n2 ab
  have AB := Lib.hid ab
  clear ab hf1 hf2 hA0 hA1 hB0 hB1 hξ hc ht
  go_enter Try.func7, Try.ntmps7
  go_wp2_with fail
  refine at_call fun W1 hW => ?_
  have Bx : Box W1 (w.heap.size) [.int .i64 h1, .int .u64 l1] 24 := by rw [hW]; exact ((Box.new rfl).old _).old _
  have By : Box W1 (w.heap.size + 1) [.int .i64 h1, .int .u64 l2] 24 := by rw [hW]; exact (Box.new (by simp)).old _
  have Bz : Box W1 (w.heap.size + 1 + 1) [.int .i64 h3, .int .u64 l3] 24 := by rw [hW]; exact Box.new (by simp)
  have hw : Below w.heap.size w W1 := by rw [hW]; go_grown
  clear hW
  refine (cxy _).mono ?_
  rintro e w2 ⟨rfl, hb⟩
  replace Bx := Bx.ext hb rfl
  replace By := By.ext hb rfl
  replace Bz := Bz.ext hb rfl
  replace hw := hw.trans (hb.mono hw.size)
  clear hb
  obtain ⟨xx, yx, zx, vx⟩ := Bx.facts
  obtain ⟨xy, yy, zy, vy⟩ := By.facts
  obtain ⟨xz, yz, zz, vz⟩ := Bz.facts
  go_wp2_with fail
  refine (d1 _).mono ?_
  rintro e w3 ⟨rfl, hb⟩
  clear xx yx zx vx xy yy zy vy xz yz zz vz
  replace Bx := Bx.ext hb rfl
  replace By := By.ext hb rfl
  replace Bz := Bz.ext hb rfl
  replace hw := hw.trans (hb.mono hw.size)
  clear hb
  obtain ⟨xx, yx, zx, vx⟩ := Bx.facts
  obtain ⟨xy, yy, zy, vy⟩ := By.facts
  obtain ⟨xz, yz, zz, vz⟩ := Bz.facts
  go_wp2_with fail
  refine at_call fun W4 hW => ?_
  obtain ⟨bkd, hbd⟩ : ∃ b, w3.heap.size = b := ⟨_, rfl⟩
  rw [hbd]
  have Bd : Box W4 bkd [.int .i64 0, .int .u64 0] 24 := by rw [hW]; exact Box.new hbd.symm
  replace Bx : Box W4 (w.heap.size) [.int .i64 h1, .int .u64 l1] 24 := by rw [hW]; exact Bx.old _
  replace By : Box W4 (w.heap.size + 1) [.int .i64 h1, .int .u64 l2] 24 := by rw [hW]; exact By.old _
  replace Bz : Box W4 (w.heap.size + 1 + 1) [.int .i64 h3, .int .u64 l3] 24 := by rw [hW]; exact Bz.old _
  replace hw : Below w.heap.size w W4 := by have hl := hw.size; rw [hW]; go_grown
  clear hW hbd
  refine (cyx _).mono ?_
  rintro e w5 ⟨rfl, hb⟩
  clear xx yx zx vx xy yy zy vy xz yz zz vz
  replace Bx := Bx.ext hb rfl
  replace By := By.ext hb rfl
  replace Bz := Bz.ext hb rfl
  replace Bd := Bd.ext hb rfl
  replace hw := hw.trans (hb.mono hw.size)
  clear hb
  obtain ⟨xx, yx, zx, vx⟩ := Bx.facts
  obtain ⟨xy, yy, zy, vy⟩ := By.facts
  obtain ⟨xz, yz, zz, vz⟩ := Bz.facts
  obtain ⟨xd, yd, zd, vd⟩ := Bd.facts
  go_wp2_with fail
  refine (cyz _).mono ?_
  rintro e w6 ⟨rfl, hb⟩
  clear xx yx zx vx xy yy zy vy xz yz zz vz xd yd zd vd
  replace Bx := Bx.ext hb rfl
  replace By := By.ext hb rfl
  replace Bz := Bz.ext hb rfl
  replace Bd := Bd.ext hb rfl
  replace hw := hw.trans (hb.mono hw.size)
  clear hb
  obtain ⟨xx, yx, zx, vx⟩ := Bx.facts
  obtain ⟨xy, yy, zy, vy⟩ := By.facts
  obtain ⟨xz, yz, zz, vz⟩ := Bz.facts
  obtain ⟨xd, yd, zd, vd⟩ := Bd.facts
  go_wp2_with fail
  refine (n1 _).mono ?_
  rintro e w7 ⟨rfl, hb⟩
  clear xx yx zx vx xy yy zy vy xz yz zz vz xd yd zd vd
  replace Bx := Bx.ext hb rfl
  replace By := By.ext hb rfl
  replace Bz := Bz.ext hb rfl
  replace Bd := Bd.ext hb rfl
  replace hw := hw.trans (hb.mono hw.size)
  clear hb
  obtain ⟨xx, yx, zx, vx⟩ := Bx.facts
  obtain ⟨xy, yy, zy, vy⟩ := By.facts
  obtain ⟨xz, yz, zz, vz⟩ := Bz.facts
  obtain ⟨xd, yd, zd, vd⟩ := Bd.facts
  go_wp2_with fail
  refine at_call fun W8 hW => ?_
  obtain ⟨bka, hba⟩ : ∃ b, w7.heap.size = b := ⟨_, rfl⟩
  rw [hba]
  have Ba : Box W8 bka [.int .i64 A0, .int .u64 A1] 24 := by rw [hW]; exact Box.new hba.symm
  replace Bx : Box W8 (w.heap.size) [.int .i64 h1, .int .u64 l1] 24 := by rw [hW]; exact Bx.old _
  replace By : Box W8 (w.heap.size + 1) [.int .i64 h1, .int .u64 l2] 24 := by rw [hW]; exact By.old _
  replace Bz : Box W8 (w.heap.size + 1 + 1) [.int .i64 h3, .int .u64 l3] 24 := by rw [hW]; exact Bz.old _
  replace Bd : Box W8 (bkd) [.int .i64 0, .int .u64 0] 24 := by rw [hW]; exact Bd.old _
  replace hw : Below w.heap.size w W8 := by have hl := hw.size; rw [hW]; go_grown
  clear hW hba
  refine (n2 _).mono ?_
  rintro e w9 ⟨rfl, hb⟩
  clear xx yx zx vx xy yy zy vy xz yz zz vz xd yd zd vd
  replace Bx := Bx.ext hb rfl
  replace By := By.ext hb rfl
  replace Bz := Bz.ext hb rfl
  replace Bd := Bd.ext hb rfl
  replace Ba := Ba.ext hb rfl
  replace hw := hw.trans (hb.mono hw.size)
  clear hb
  obtain ⟨xx, yx, zx, vx⟩ := Bx.facts
  obtain ⟨xy, yy, zy, vy⟩ := By.facts
  obtain ⟨xz, yz, zz, vz⟩ := Bz.facts
  obtain ⟨xd, yd, zd, vd⟩ := Bd.facts
  obtain ⟨xa, ya, za, va⟩ := Ba.facts
  go_wp2_with fail
  refine at_world fun W10 hW => ?_
  obtain ⟨bkb, hbb⟩ : ∃ b, w9.heap.size = b := ⟨_, rfl⟩
  rw [hbb]
  have Bb : Box W10 bkb [.int .i64 B0, .int .u64 B1] 24 := by rw [hW]; exact Box.new hbb.symm
  replace Bx : Box W10 (w.heap.size) [.int .i64 h1, .int .u64 l1] 24 := by rw [hW]; exact Bx.old _
  replace By : Box W10 (w.heap.size + 1) [.int .i64 h1, .int .u64 l2] 24 := by rw [hW]; exact By.old _
  replace Bz : Box W10 (w.heap.size + 1 + 1) [.int .i64 h3, .int .u64 l3] 24 := by rw [hW]; exact Bz.old _
  replace Bd : Box W10 (bkd) [.int .i64 0, .int .u64 0] 24 := by rw [hW]; exact Bd.old _
  replace Ba : Box W10 (bka) [.int .i64 A0, .int .u64 A1] 24 := by rw [hW]; exact Ba.old _
  replace hw : Below w.heap.size w W10 := by have hl := hw.size; rw [hW]; go_grown
  clear hW hbb
  cases f1 with
  | false =>
    clear AB
    have gx := Bx.cells
    have gy := By.cells
    have gz := Bz.cells
    have gd := Bd.cells
    have ga := Ba.cells
    have gb := Bb.cells
    refine wp_region_tail 25 (by kernel_rfl) (by kernel_rfl) (C := fun w' => ∃ p : Regrown, w' = grow (redrawn W10 p.d) p.os) (fun w' h => regrown_of_below h) ?_
    simp only [List.take_succ_cons, List.take_zero, List.drop_succ_cons, List.drop_zero]
    repeat (first | (refine rWalk_skip (Eq.refl false) ?_; simp only [Act.put, List.setIfInBounds_toArray, List.set_cons_succ, List.set_cons_zero]) | (refine rWalk_step (fun K hK => ?_); go_simp; first | (refine hK _ ?_; clear hK K) | (apply Exists.intro; refine ⟨fun _ => ?_, hK _ ?_⟩; (first | with_reducible exact toExt s1 _ | with_reducible exact toExt z1 _ | with_reducible exact toExt awake_any _); clear hK K)))
    refine rWalk_nil ?_
    intro w11 hb
    clear gx gy gz gd ga gb
    clear xx yx zx vx xy yy zy vy xz yz zz vz xd yd zd vd xa ya za va
    replace Bx := Bx.ext hb rfl
    replace By := By.ext hb rfl
    replace Bz := Bz.ext hb rfl
    replace Bd := Bd.ext hb rfl
    replace Ba := Ba.ext hb rfl
    replace Bb := Bb.ext hb rfl
    replace hw := hw.trans (hb.mono hw.size)
    go_wp2
    go_ret
    exact ⟨rfl, hw⟩
  | true =>
    cases f2 with
    | false =>
      clear AB
      have gx := Bx.cells
      have gy := By.cells
      have gz := Bz.cells
      have gd := Bd.cells
      have ga := Ba.cells
      have gb := Bb.cells
      refine wp_region_tail 25 (by kernel_rfl) (by kernel_rfl) (C := fun w' => ∃ p : Regrown, w' = grow (redrawn W10 p.d) p.os) (fun w' h => regrown_of_below h) ?_
      simp only [List.take_succ_cons, List.take_zero, List.drop_succ_cons, List.drop_zero]
      repeat (first | (refine rWalk_skip (Eq.refl false) ?_; simp only [Act.put, List.setIfInBounds_toArray, List.set_cons_succ, List.set_cons_zero]) | (refine rWalk_step (fun K hK => ?_); go_simp; first | (refine hK _ ?_; clear hK K) | (apply Exists.intro; refine ⟨fun _ => ?_, hK _ ?_⟩; (first | with_reducible exact toExt s1 _ | with_reducible exact toExt z1 _ | with_reducible exact toExt awake_any _); clear hK K)))
      refine rWalk_nil ?_
      intro w11 hb
      clear gx gy gz gd ga gb
      clear xx yx zx vx xy yy zy vy xz yz zz vz xd yd zd vd xa ya za va
      replace Bx := Bx.ext hb rfl
      replace By := By.ext hb rfl
      replace Bz := Bz.ext hb rfl
      replace Bd := Bd.ext hb rfl
      replace Ba := Ba.ext hb rfl
      replace Bb := Bb.ext hb rfl
      replace hw := hw.trans (hb.mono hw.size)
      go_wp2
      go_ret
      exact ⟨rfl, hw⟩
    | true =>
      have ab := AB.out rfl rfl
      clear AB
      have gx := Bx.cells
      have gy := By.cells
      have gz := Bz.cells
      have gd := Bd.cells
      have ga := Ba.cells
      have gb := Bb.cells
      refine wp_region_tail 25 (by kernel_rfl) (by kernel_rfl) (C := fun w' => ∃ p : Regrown, w' = grow (redrawn W10 p.d) p.os) (fun w' h => regrown_of_below h) ?_
      simp only [List.take_succ_cons, List.take_zero, List.drop_succ_cons, List.drop_zero]
      repeat (first | (refine rWalk_skip (Eq.refl false) ?_; simp only [Act.put, List.setIfInBounds_toArray, List.set_cons_succ, List.set_cons_zero]) | (refine rWalk_step (fun K hK => ?_); go_simp; first | (refine hK _ ?_; clear hK K) | (apply Exists.intro; refine ⟨fun _ => ?_, hK _ ?_⟩; (first | with_reducible exact toExt ab _ | with_reducible exact toExt s1 _ | with_reducible exact toExt z1 _ | with_reducible exact toExt awake_any _); clear hK K)))
      refine rWalk_nil ?_
      intro w11 hb
      clear gx gy gz gd ga gb
      clear xx yx zx vx xy yy zy vy xz yz zz vz xd yd zd vd xa ya za va
      replace Bx := Bx.ext hb rfl
      replace By := By.ext hb rfl
      replace Bz := Bz.ext hb rfl
      replace Bd := Bd.ext hb rfl
      replace Ba := Ba.ext hb rfl
      replace Bb := Bb.ext hb rfl
      replace hw := hw.trans (hb.mono hw.size)
      go_wp2
      go_ret
      exact ⟨rfl, hw⟩
set_option maxHeartbeats 2000000 in
theorem ord_gt_10 (h1 l1 l2 h3 l3 : Int) (k : Ok h1 l1) (q : Ok h1 l2) (r : Ok h3 l3) (hc : V h1 l2 < V h1 l1) (hn : ¬ l1 = l2) (hf : fits (V h1 l1 - V h1 l2) = false) (w : World) :
    Calls Try.prog 7 #[.agg #[.int .i64 h1, .int .u64 l1], .agg #[.int .i64 h1, .int .u64 l2], .agg #[.int .i64 h3, .int .u64 l3]] w fun e w' => e = .returned (.bool true) ∧ Below w.heap.size w w' := by
  have cxy := cmp_any h1 l1 h1 l2 k q
  have cyx := cmp_any h1 l2 h1 l1 q k
  have cyz := cmp_any h1 l2 h3 l3 q r
  have cxz := cmp_any h1 l1 h3 l3 k r
  have d1 := sub_any h1 l1 h1 l2 k q
  have n1 := neg_any h1 l1 k
  have n2 := neg_any h1 l2 q
  have s1 := sign_any h1 l1 k
  have z1 := cmp_any h1 l1 0 0 k ⟨by omega, by omega, by omega, by omega⟩
  rw [show V h1 l1 - V 0 0 = V h1 l1 by unfold V; omega] at z1
  have ab : fits (-V h1 l1) = true → fits (-V h1 l2) = true → ∀ w : World, Calls Try.prog 19 #[.agg #[.int .i64 (cH (-V h1 l1)), .int .u64 (cL (-V h1 l1))], .agg #[.int .i64 (cH (-V h1 l2)), .int .u64 (cL (-V h1 l2))]] w fun e w' => e = .returned (.int .i64 (-1)) ∧ Below w.heap.size w w' := fun f g => by
    have c := cmp_any (cH (-V h1 l1)) (cL (-V h1 l1)) (cH (-V h1 l2)) (cL (-V h1 l2)) (ok_c _) (ok_c _)
    rw [V_c f, V_c g, sgn_neg (-V h1 l1 - -V h1 l2) (by omega)] at c
    exact c
  rw [sgn_pos (V h1 l1 - V h1 l2) (by omega)] at cxy
  rw [sgn_neg (V h1 l2 - V h1 l1) (by omega)] at cyx
  obtain ⟨e1, e2⟩ := c_not hf
  rw [hf, e1, e2] at d1
  clear hf e1 e2
  obtain ⟨ξ, hξ⟩ : ∃ x, sgn (V h1 l1) = x := ⟨_, rfl⟩
  rw [hξ] at s1 z1
  obtain ⟨f1, hf1⟩ : ∃ x, fits (-V h1 l1) = x := ⟨_, rfl⟩
  obtain ⟨f2, hf2⟩ : ∃ x, fits (-V h1 l2) = x := ⟨_, rfl⟩
  obtain ⟨A0, hA0⟩ : ∃ x, cH (-V h1 l1) = x := ⟨_, rfl⟩
  obtain ⟨A1, hA1⟩ : ∃ x, cL (-V h1 l1) = x := ⟨_, rfl⟩
  obtain ⟨B0, hB0⟩ : ∃ x, cH (-V h1 l2) = x := ⟨_, rfl⟩
  obtain ⟨B1, hB1⟩ : ∃ x, cL (-V h1 l2) = x := ⟨_, rfl⟩
  simp only [hf1, hA0, hA1] at n1 ab
  simp only [hf2, hB0, hB1] at n2 ab
  have AB := Lib.hid ab
  clear ab hf1 hf2 hA0 hA1 hB0 hB1 hξ hc
  go_enter Try.func7, Try.ntmps7
  go_wp2_with fail
  refine at_call fun W1 hW => ?_
  have Bx : Box W1 (w.heap.size) [.int .i64 h1, .int .u64 l1] 24 := by rw [hW]; exact ((Box.new rfl).old _).old _
  have By : Box W1 (w.heap.size + 1) [.int .i64 h1, .int .u64 l2] 24 := by rw [hW]; exact (Box.new (by simp)).old _
  have Bz : Box W1 (w.heap.size + 1 + 1) [.int .i64 h3, .int .u64 l3] 24 := by rw [hW]; exact Box.new (by simp)
  have hw : Below w.heap.size w W1 := by rw [hW]; go_grown
  clear hW
  refine (cxy _).mono ?_
  rintro e w2 ⟨rfl, hb⟩
  replace Bx := Bx.ext hb rfl
  replace By := By.ext hb rfl
  replace Bz := Bz.ext hb rfl
  replace hw := hw.trans (hb.mono hw.size)
  clear hb
  obtain ⟨xx, yx, zx, vx⟩ := Bx.facts
  obtain ⟨xy, yy, zy, vy⟩ := By.facts
  obtain ⟨xz, yz, zz, vz⟩ := Bz.facts
  go_wp2_with fail
  refine (d1 _).mono ?_
  rintro e w3 ⟨rfl, hb⟩
  clear xx yx zx vx xy yy zy vy xz yz zz vz
  replace Bx := Bx.ext hb rfl
  replace By := By.ext hb rfl
  replace Bz := Bz.ext hb rfl
  replace hw := hw.trans (hb.mono hw.size)
  clear hb
  obtain ⟨xx, yx, zx, vx⟩ := Bx.facts
  obtain ⟨xy, yy, zy, vy⟩ := By.facts
  obtain ⟨xz, yz, zz, vz⟩ := Bz.facts
  go_wp2_with fail
  refine at_call fun W4 hW => ?_
  obtain ⟨bkd, hbd⟩ : ∃ b, w3.heap.size = b := ⟨_, rfl⟩
  rw [hbd]
  have Bd : Box W4 bkd [.int .i64 0, .int .u64 0] 24 := by rw [hW]; exact Box.new hbd.symm
  replace Bx : Box W4 (w.heap.size) [.int .i64 h1, .int .u64 l1] 24 := by rw [hW]; exact Bx.old _
  replace By : Box W4 (w.heap.size + 1) [.int .i64 h1, .int .u64 l2] 24 := by rw [hW]; exact By.old _
  replace Bz : Box W4 (w.heap.size + 1 + 1) [.int .i64 h3, .int .u64 l3] 24 := by rw [hW]; exact Bz.old _
  replace hw : Below w.heap.size w W4 := by have hl := hw.size; rw [hW]; go_grown
  clear hW hbd
  refine (cyx _).mono ?_
  rintro e w5 ⟨rfl, hb⟩
  clear xx yx zx vx xy yy zy vy xz yz zz vz
  replace Bx := Bx.ext hb rfl
  replace By := By.ext hb rfl
  replace Bz := Bz.ext hb rfl
  replace Bd := Bd.ext hb rfl
  replace hw := hw.trans (hb.mono hw.size)
  clear hb
  obtain ⟨xx, yx, zx, vx⟩ := Bx.facts
  obtain ⟨xy, yy, zy, vy⟩ := By.facts
  obtain ⟨xz, yz, zz, vz⟩ := Bz.facts
  obtain ⟨xd, yd, zd, vd⟩ := Bd.facts
  go_wp2_with fail
  refine (n1 _).mono ?_
  rintro e w6 ⟨rfl, hb⟩
  clear xx yx zx vx xy yy zy vy xz yz zz vz xd yd zd vd
  replace Bx := Bx.ext hb rfl
  replace By := By.ext hb rfl
  replace Bz := Bz.ext hb rfl
  replace Bd := Bd.ext hb rfl
  replace hw := hw.trans (hb.mono hw.size)
  clear hb
  obtain ⟨xx, yx, zx, vx⟩ := Bx.facts
  obtain ⟨xy, yy, zy, vy⟩ := By.facts
  obtain ⟨xz, yz, zz, vz⟩ := Bz.facts
  obtain ⟨xd, yd, zd, vd⟩ := Bd.facts
  go_wp2_with fail
  refine at_call fun W7 hW => ?_
  obtain ⟨bka, hba⟩ : ∃ b, w6.heap.size = b := ⟨_, rfl⟩
  rw [hba]
  have Ba : Box W7 bka [.int .i64 A0, .int .u64 A1] 24 := by rw [hW]; exact Box.new hba.symm
  replace Bx : Box W7 (w.heap.size) [.int .i64 h1, .int .u64 l1] 24 := by rw [hW]; exact Bx.old _
  replace By : Box W7 (w.heap.size + 1) [.int .i64 h1, .int .u64 l2] 24 := by rw [hW]; exact By.old _
  replace Bz : Box W7 (w.heap.size + 1 + 1) [.int .i64 h3, .int .u64 l3] 24 := by rw [hW]; exact Bz.old _
  replace Bd : Box W7 (bkd) [.int .i64 0, .int .u64 0] 24 := by rw [hW]; exact Bd.old _
  replace hw : Below w.heap.size w W7 := by have hl := hw.size; rw [hW]; go_grown
  clear hW hba
  refine (n2 _).mono ?_
  rintro e w8 ⟨rfl, hb⟩
  clear xx yx zx vx xy yy zy vy xz yz zz vz xd yd zd vd
  replace Bx := Bx.ext hb rfl
  replace By := By.ext hb rfl
  replace Bz := Bz.ext hb rfl
  replace Bd := Bd.ext hb rfl
  replace Ba := Ba.ext hb rfl
  replace hw := hw.trans (hb.mono hw.size)
  clear hb
  obtain ⟨xx, yx, zx, vx⟩ := Bx.facts
  obtain ⟨xy, yy, zy, vy⟩ := By.facts
  obtain ⟨xz, yz, zz, vz⟩ := Bz.facts
  obtain ⟨xd, yd, zd, vd⟩ := Bd.facts
  obtain ⟨xa, ya, za, va⟩ := Ba.facts
  go_wp2_with fail
  refine at_world fun W9 hW => ?_
  obtain ⟨bkb, hbb⟩ : ∃ b, w8.heap.size = b := ⟨_, rfl⟩
  rw [hbb]
  have Bb : Box W9 bkb [.int .i64 B0, .int .u64 B1] 24 := by rw [hW]; exact Box.new hbb.symm
  replace Bx : Box W9 (w.heap.size) [.int .i64 h1, .int .u64 l1] 24 := by rw [hW]; exact Bx.old _
  replace By : Box W9 (w.heap.size + 1) [.int .i64 h1, .int .u64 l2] 24 := by rw [hW]; exact By.old _
  replace Bz : Box W9 (w.heap.size + 1 + 1) [.int .i64 h3, .int .u64 l3] 24 := by rw [hW]; exact Bz.old _
  replace Bd : Box W9 (bkd) [.int .i64 0, .int .u64 0] 24 := by rw [hW]; exact Bd.old _
  replace Ba : Box W9 (bka) [.int .i64 A0, .int .u64 A1] 24 := by rw [hW]; exact Ba.old _
  replace hw : Below w.heap.size w W9 := by have hl := hw.size; rw [hW]; go_grown
  clear hW hbb
  cases f1 with
  | false =>
    clear AB
    have gx := Bx.cells
    have gy := By.cells
    have gz := Bz.cells
    have gd := Bd.cells
    have ga := Ba.cells
    have gb := Bb.cells
    refine wp_region_tail 25 (by kernel_rfl) (by kernel_rfl) (C := fun w' => ∃ p : Regrown, w' = grow (redrawn W9 p.d) p.os) (fun w' h => regrown_of_below h) ?_
    simp only [List.take_succ_cons, List.take_zero, List.drop_succ_cons, List.drop_zero]
    repeat (first | (refine rWalk_skip (Eq.refl false) ?_; simp only [Act.put, List.setIfInBounds_toArray, List.set_cons_succ, List.set_cons_zero]) | (refine rWalk_step (fun K hK => ?_); go_simp; first | (refine hK _ ?_; clear hK K) | (apply Exists.intro; refine ⟨fun _ => ?_, hK _ ?_⟩; (first | with_reducible exact toExt s1 _ | with_reducible exact toExt z1 _ | with_reducible exact toExt awake_any _); clear hK K)))
    refine rWalk_nil ?_
    intro w10 hb
    clear gx gy gz gd ga gb
    clear xx yx zx vx xy yy zy vy xz yz zz vz xd yd zd vd xa ya za va
    replace Bx := Bx.ext hb rfl
    replace By := By.ext hb rfl
    replace Bz := Bz.ext hb rfl
    replace Bd := Bd.ext hb rfl
    replace Ba := Ba.ext hb rfl
    replace Bb := Bb.ext hb rfl
    replace hw := hw.trans (hb.mono hw.size)
    go_wp2
    go_ret
    exact ⟨rfl, hw⟩
  | true =>
    cases f2 with
    | false =>
      clear AB
      have gx := Bx.cells
      have gy := By.cells
      have gz := Bz.cells
      have gd := Bd.cells
      have ga := Ba.cells
      have gb := Bb.cells
      refine wp_region_tail 25 (by kernel_rfl) (by kernel_rfl) (C := fun w' => ∃ p : Regrown, w' = grow (redrawn W9 p.d) p.os) (fun w' h => regrown_of_below h) ?_
      simp only [List.take_succ_cons, List.take_zero, List.drop_succ_cons, List.drop_zero]
      repeat (first | (refine rWalk_skip (Eq.refl false) ?_; simp only [Act.put, List.setIfInBounds_toArray, List.set_cons_succ, List.set_cons_zero]) | (refine rWalk_step (fun K hK => ?_); go_simp; first | (refine hK _ ?_; clear hK K) | (apply Exists.intro; refine ⟨fun _ => ?_, hK _ ?_⟩; (first | with_reducible exact toExt s1 _ | with_reducible exact toExt z1 _ | with_reducible exact toExt awake_any _); clear hK K)))
      refine rWalk_nil ?_
      intro w10 hb
      clear gx gy gz gd ga gb
      clear xx yx zx vx xy yy zy vy xz yz zz vz xd yd zd vd xa ya za va
      replace Bx := Bx.ext hb rfl
      replace By := By.ext hb rfl
      replace Bz := Bz.ext hb rfl
      replace Bd := Bd.ext hb rfl
      replace Ba := Ba.ext hb rfl
      replace Bb := Bb.ext hb rfl
      replace hw := hw.trans (hb.mono hw.size)
      go_wp2
      go_ret
      exact ⟨rfl, hw⟩
    | true =>
      have ab := AB.out rfl rfl
      clear AB
      have gx := Bx.cells
      have gy := By.cells
      have gz := Bz.cells
      have gd := Bd.cells
      have ga := Ba.cells
      have gb := Bb.cells
      refine wp_region_tail 25 (by kernel_rfl) (by kernel_rfl) (C := fun w' => ∃ p : Regrown, w' = grow (redrawn W9 p.d) p.os) (fun w' h => regrown_of_below h) ?_
      simp only [List.take_succ_cons, List.take_zero, List.drop_succ_cons, List.drop_zero]
      repeat (first | (refine rWalk_skip (Eq.refl false) ?_; simp only [Act.put, List.setIfInBounds_toArray, List.set_cons_succ, List.set_cons_zero]) | (refine rWalk_step (fun K hK => ?_); go_simp; first | (refine hK _ ?_; clear hK K) | (apply Exists.intro; refine ⟨fun _ => ?_, hK _ ?_⟩; (first | with_reducible exact toExt ab _ | with_reducible exact toExt s1 _ | with_reducible exact toExt z1 _ | with_reducible exact toExt awake_any _); clear hK K)))
      refine rWalk_nil ?_
      intro w10 hb
      clear gx gy gz gd ga gb
      clear xx yx zx vx xy yy zy vy xz yz zz vz xd yd zd vd xa ya za va
      replace Bx := Bx.ext hb rfl
      replace By := By.ext hb rfl
      replace Bz := Bz.ext hb rfl
      replace Bd := Bd.ext hb rfl
      replace Ba := Ba.ext hb rfl
      replace Bb := Bb.ext hb rfl
      replace hw := hw.trans (hb.mono hw.size)
      go_wp2
      go_ret
      exact ⟨rfl, hw⟩
end Go.Proofs.Ytkohcdkolkncaaa
