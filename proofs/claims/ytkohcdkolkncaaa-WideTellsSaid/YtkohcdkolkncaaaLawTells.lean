/- Of any numbers of 128 bits sums, differences, opposites, signs, order and text are as the document says: the law WideTells of package hectarelaw1 answers true at every input; no conditions. -/
import Derived.Test.YtkohcdkolkncaaaRows
import Derived.Test.YtkohcdkolkncaaaWideK
import Derived.Test.YtkohcdkolkncaaaPost
import Derived.Test.YtkohcdkolkncaaaLate
import Derived.Test.YtkohcdkolkncaaaWideU
import Derived.WalkKit
import Derived.WalkSpells
import Derived.WalkLawsBesides
import Derived.Deep.QuietTactic
import Derived.BigQuiet
import Derived.Lib.Hide
import Derived.Handy
import Derived.ProofKit
import Derived.Lib.SmallJoins
namespace Go.Proofs.Ytkohcdkolkncaaa
open Go.RowKit Go.Sort Go.ChangeShapes Go.WideShapes Go.ChangeAt
attribute [local go_sem] rOper rAt rUpon cell_set sg_i64 sg_u64 alloc_cell alloc_frozen
attribute [local irreducible] rWalk

theorem same_any (h l : Int) (b : Bool) (w : World) :
    Calls Try.prog 16 #[.agg #[.int .i64 h, .int .u64 l], .bool b, .agg #[.int .i64 h, .int .u64 l], .bool b] w fun e w' => e = .returned (.bool true) ∧ Below w.heap.size w w' := by
  have o1 := of_any h l
  have eb : (b == b) = true := by cases b <;> rfl
  go_enter Try.func16, Try.ntmps16
  go_wp2_with fail
  refine at_world fun W1 hW => ?_
  have Bx : Box W1 (w.heap.size) [.int .i64 h, .int .u64 l] 24 := by rw [hW]; exact (Box.new rfl).old _
  have By : Box W1 (w.heap.size + 1) [.int .i64 h, .int .u64 l] 27 := by rw [hW]; exact Box.new (by simp)
  have hw : Below w.heap.size w W1 := by rw [hW]; go_grown
  clear hW
  have gx := Bx.cells
  have gy := By.cells
  refine wp_region_tail 9 (by kernel_rfl) (by kernel_rfl) (C := fun w' => ∃ p : Regrown, w' = grow (redrawn W1 p.d) p.os) (fun w' h => regrown_of_below h) ?_
  simp only [List.take_succ_cons, List.take_zero, List.drop_succ_cons, List.drop_zero]
  repeat (first | (refine rWalk_skip (Eq.refl false) ?_; simp only [Act.put, List.setIfInBounds_toArray, List.set_cons_succ, List.set_cons_zero]) | (refine rWalk_step (fun K hK => ?_); go_simp; first | (refine hK _ ?_; clear hK K) | (apply Exists.intro; refine ⟨fun _ => ?_, hK _ ?_⟩; (first | with_reducible exact toExt o1 _); clear hK K)))
  refine rWalk_nil ?_
  intro w2 hb
  clear gx gy
  replace Bx := Bx.ext hb rfl
  replace By := By.ext hb rfl
  replace hw := hw.trans (hb.mono hw.size)
  go_wp2
  go_ret
  exact ⟨rfl, hw⟩
set_option maxHeartbeats 4000000 in
theorem tells_law (h1 l1 h2 l2 n : Int) (k : Ok h1 l1) (q : Ok h2 l2) (b0 : -9223372036854775808 ≤ n) (b1 : n ≤ 9223372036854775807) (w : World) :
    Calls Try.prog 3 #[.agg #[.int .i64 h1, .int .u64 l1], .agg #[.int .i64 h2, .int .u64 l2], .int .i64 n] w fun e w' => e = .returned (.bool true) ∧ Below w.heap.size w w' := by
  have ox := of_any h1 l1
  have oy := of_any h2 l2
  have a1 := add_any h1 l1 h2 l2 k q
  have a2 := r_add h1 l1 h2 l2 k q
  have d1 := sub_any h1 l1 h2 l2 k q
  have d2 := r_sub h1 l1 h2 l2 k q
  have n1 := neg_any h1 l1 k
  have n2 := r_neg h1 l1 k
  have s1 := sign_any h1 l1 k
  have s2 := r_sign h1 l1 k
  have c1 := cmp_any h1 l1 h2 l2 k q
  have c2 := r_cmp h1 l1 h2 l2 k q
  have t1 := text_any h1 l1 k
  have t2 := rtext_any h1 l1 k
  have f1 := from_any n b0 b1
  have f2 := r_from n b0 b1
  have of0 := of_any (cH n) (cL n)
  obtain ⟨S0, e1⟩ : ∃ x, cH (V h1 l1 + V h2 l2) = x := ⟨_, rfl⟩
  obtain ⟨S1, e2⟩ : ∃ x, cL (V h1 l1 + V h2 l2) = x := ⟨_, rfl⟩
  obtain ⟨Sf, e3⟩ : ∃ x, fits (V h1 l1 + V h2 l2) = x := ⟨_, rfl⟩
  obtain ⟨D0, e4⟩ : ∃ x, cH (V h1 l1 - V h2 l2) = x := ⟨_, rfl⟩
  obtain ⟨D1, e5⟩ : ∃ x, cL (V h1 l1 - V h2 l2) = x := ⟨_, rfl⟩
  obtain ⟨Df, e6⟩ : ∃ x, fits (V h1 l1 - V h2 l2) = x := ⟨_, rfl⟩
  obtain ⟨N0, e7⟩ : ∃ x, cH (-V h1 l1) = x := ⟨_, rfl⟩
  obtain ⟨N1, e8⟩ : ∃ x, cL (-V h1 l1) = x := ⟨_, rfl⟩
  obtain ⟨Nf, e9⟩ : ∃ x, fits (-V h1 l1) = x := ⟨_, rfl⟩
  obtain ⟨σ, g1⟩ : ∃ x, sgn (V h1 l1) = x := ⟨_, rfl⟩
  obtain ⟨τ, g2⟩ : ∃ x, sgn (V h1 l1 - V h2 l2) = x := ⟨_, rfl⟩
  obtain ⟨T, g3⟩ : ∃ T : ByteArray, ⟨(textV (V h1 l1)).toArray⟩ = T := ⟨_, rfl⟩
  obtain ⟨F0, g4⟩ : ∃ x, cH n = x := ⟨_, rfl⟩
  obtain ⟨F1, g5⟩ : ∃ x, cL n = x := ⟨_, rfl⟩
  rw [e1, e2, e3] at a1 a2
  rw [e4, e5, e6] at d1 d2
  rw [e7, e8, e9] at n1 n2
  rw [g1] at s1 s2
  rw [g2] at c1 c2
  rw [g3] at t1 t2
  rw [g4, g5] at f1 f2 of0
  have m1 := same_any S0 S1 Sf
  have m2 := same_any D0 D1 Df
  have m3 := same_any N0 N1 Nf
  have et : (T.toList == T.toList) = true := by simp
  clear e1 e2 e3 e4 e5 e6 e7 e8 e9 g1 g2 g3 g4 g5 k q
  go_enter Try.func3, Try.ntmps3
  go_wp2_with fail
  refine at_call fun W1 hW => ?_
  have Bx : Box W1 (w.heap.size) [.int .i64 h1, .int .u64 l1] 24 := by rw [hW]; exact (Box.new rfl).old _
  have By : Box W1 (w.heap.size + 1) [.int .i64 h2, .int .u64 l2] 24 := by rw [hW]; exact Box.new (by simp)
  have hw : Below w.heap.size w W1 := by rw [hW]; go_grown
  clear hW
  refine (a1 _).mono ?_
  rintro e w2 ⟨rfl, hb⟩
  replace Bx := Bx.ext hb rfl
  replace By := By.ext hb rfl
  replace hw := hw.trans (hb.mono hw.size)
  clear hb
  obtain ⟨xx, yx, zx, vx⟩ := Bx.facts
  obtain ⟨xy, yy, zy, vy⟩ := By.facts
  go_wp2_with fail
  refine at_world fun W3 hW => ?_
  obtain ⟨bka, hba⟩ : ∃ b, w2.heap.size = b := ⟨_, rfl⟩
  rw [hba]
  have Ba : Box W3 bka [.int .i64 S0, .int .u64 S1] 24 := by rw [hW]; exact Box.new hba.symm
  replace Bx : Box W3 (w.heap.size) [.int .i64 h1, .int .u64 l1] 24 := by rw [hW]; exact Bx.old _
  replace By : Box W3 (w.heap.size + 1) [.int .i64 h2, .int .u64 l2] 24 := by rw [hW]; exact By.old _
  replace hw : Below w.heap.size w W3 := by have hl := hw.size; rw [hW]; go_grown
  clear hW hba
  have gx := Bx.cells
  have gy := By.cells
  have ga := Ba.cells
  refine wp_region_late2 8 9 31 (.int .i64 S0) (.int .u64 S1) rfl rfl rfl rfl rfl rfl rfl (by simp) (fun ρ W => by simp [execOp, go_sem]; rfl) (by kernel_rfl) (by kernel_rfl) (C := fun w' => ∃ p : Regrown, w' = grow (redrawn W3 p.d) p.os) (fun w' h => regrown_of_below h) ?_ (fun ρ W b e1 e2 hB => by obtain ⟨x, y, _, _⟩ := hB.facts; simp [execOp, go_sem, e1, e2, x, y, eff2])
  simp only [List.take_succ_cons, List.take_zero, List.drop_succ_cons, List.drop_zero]
  repeat (first | (refine rWalk_skip (Eq.refl false) ?_; simp only [Act.put, List.setIfInBounds_toArray, List.set_cons_succ, List.set_cons_zero]) | (refine rWalk_step (fun K hK => ?_); go_simp; first | (refine hK _ ?_; clear hK K) | (apply Exists.intro; refine ⟨fun _ => ?_, hK _ ?_⟩; (first | with_reducible exact toExt ox _ | with_reducible exact toExt oy _ | with_reducible exact toExt a2 _); clear hK K)))
  refine rWalk_nil ⟨rfl, ?_⟩
  intro w4 bkb hb h1b h2b Bb
  clear gx gy ga
  clear xx yx zx vx xy yy zy vy
  replace Bx := Bx.ext hb rfl
  replace By := By.ext hb rfl
  replace Ba := Ba.ext hb rfl
  replace hw := hw.trans (hb.mono hw.size)
  clear hb h1b h2b
  simp only [Act.put]
  obtain ⟨xx, yx, zx, vx⟩ := Bx.facts
  obtain ⟨xy, yy, zy, vy⟩ := By.facts
  obtain ⟨xa, ya, za, va⟩ := Ba.facts
  obtain ⟨xb, yb, zb, vb⟩ := Bb.facts
  go_wp2_with fail
  refine (d1 _).mono ?_
  rintro e w5 ⟨rfl, hb⟩
  clear xx yx zx vx xy yy zy vy xa ya za va xb yb zb vb
  replace Bx := Bx.ext hb rfl
  replace By := By.ext hb rfl
  replace Ba := Ba.ext hb rfl
  replace Bb := Bb.ext hb rfl
  replace hw := hw.trans (hb.mono hw.size)
  clear hb
  obtain ⟨xx, yx, zx, vx⟩ := Bx.facts
  obtain ⟨xy, yy, zy, vy⟩ := By.facts
  obtain ⟨xa, ya, za, va⟩ := Ba.facts
  obtain ⟨xb, yb, zb, vb⟩ := Bb.facts
  go_wp2_with fail
  refine at_world fun W6 hW => ?_
  obtain ⟨bkc, hbc⟩ : ∃ b, w5.heap.size = b := ⟨_, rfl⟩
  rw [hbc]
  have Bc : Box W6 bkc [.int .i64 D0, .int .u64 D1] 24 := by rw [hW]; exact Box.new hbc.symm
  replace Bx : Box W6 (w.heap.size) [.int .i64 h1, .int .u64 l1] 24 := by rw [hW]; exact Bx.old _
  replace By : Box W6 (w.heap.size + 1) [.int .i64 h2, .int .u64 l2] 24 := by rw [hW]; exact By.old _
  replace Ba : Box W6 (bka) [.int .i64 S0, .int .u64 S1] 24 := by rw [hW]; exact Ba.old _
  replace Bb : Box W6 (bkb) [.int .i64 S0, .int .u64 S1] 27 := by rw [hW]; exact Bb.old _
  replace hw : Below w.heap.size w W6 := by have hl := hw.size; rw [hW]; go_grown
  clear hW hbc
  have gx := Bx.cells
  have gy := By.cells
  have ga := Ba.cells
  have gb := Bb.cells
  have gc := Bc.cells
  refine wp_region_late2 8 13 45 (.int .i64 D0) (.int .u64 D1) rfl rfl rfl rfl rfl rfl rfl (by simp) (fun ρ W => by simp [execOp, go_sem]; rfl) (by kernel_rfl) (by kernel_rfl) (C := fun w' => ∃ p : Regrown, w' = grow (redrawn W6 p.d) p.os) (fun w' h => regrown_of_below h) ?_ (fun ρ W b e1 e2 hB => by obtain ⟨x, y, _, _⟩ := hB.facts; simp [execOp, go_sem, e1, e2, x, y, eff2])
  simp only [List.take_succ_cons, List.take_zero, List.drop_succ_cons, List.drop_zero]
  repeat (first | (refine rWalk_skip (Eq.refl false) ?_; simp only [Act.put, List.setIfInBounds_toArray, List.set_cons_succ, List.set_cons_zero]) | (refine rWalk_step (fun K hK => ?_); go_simp; first | (refine hK _ ?_; clear hK K) | (apply Exists.intro; refine ⟨fun _ => ?_, hK _ ?_⟩; (first | with_reducible exact toExt ox _ | with_reducible exact toExt oy _ | with_reducible exact toExt d2 _); clear hK K)))
  refine rWalk_nil ⟨rfl, ?_⟩
  intro w7 bkd hb h1b h2b Bd
  clear gx gy ga gb gc
  clear xx yx zx vx xy yy zy vy xa ya za va xb yb zb vb
  replace Bx := Bx.ext hb rfl
  replace By := By.ext hb rfl
  replace Ba := Ba.ext hb rfl
  replace Bb := Bb.ext hb rfl
  replace Bc := Bc.ext hb rfl
  replace hw := hw.trans (hb.mono hw.size)
  clear hb h1b h2b
  simp only [Act.put]
  obtain ⟨xx, yx, zx, vx⟩ := Bx.facts
  obtain ⟨xy, yy, zy, vy⟩ := By.facts
  obtain ⟨xa, ya, za, va⟩ := Ba.facts
  obtain ⟨xb, yb, zb, vb⟩ := Bb.facts
  obtain ⟨xc, yc, zc, vc⟩ := Bc.facts
  obtain ⟨xd, yd, zd, vd⟩ := Bd.facts
  go_wp2_with fail
  refine (n1 _).mono ?_
  rintro e w8 ⟨rfl, hb⟩
  clear xx yx zx vx xy yy zy vy xa ya za va xb yb zb vb xc yc zc vc xd yd zd vd
  replace Bx := Bx.ext hb rfl
  replace By := By.ext hb rfl
  replace Ba := Ba.ext hb rfl
  replace Bb := Bb.ext hb rfl
  replace Bc := Bc.ext hb rfl
  replace Bd := Bd.ext hb rfl
  replace hw := hw.trans (hb.mono hw.size)
  clear hb
  obtain ⟨xx, yx, zx, vx⟩ := Bx.facts
  obtain ⟨xy, yy, zy, vy⟩ := By.facts
  obtain ⟨xa, ya, za, va⟩ := Ba.facts
  obtain ⟨xb, yb, zb, vb⟩ := Bb.facts
  obtain ⟨xc, yc, zc, vc⟩ := Bc.facts
  obtain ⟨xd, yd, zd, vd⟩ := Bd.facts
  go_wp2_with fail
  refine at_call fun W9 hW => ?_
  obtain ⟨bke, hbe⟩ : ∃ b, w8.heap.size = b := ⟨_, rfl⟩
  rw [hbe]
  have Be : Box W9 bke [.int .i64 N0, .int .u64 N1] 24 := by rw [hW]; exact Box.new hbe.symm
  replace Bx : Box W9 (w.heap.size) [.int .i64 h1, .int .u64 l1] 24 := by rw [hW]; exact Bx.old _
  replace By : Box W9 (w.heap.size + 1) [.int .i64 h2, .int .u64 l2] 24 := by rw [hW]; exact By.old _
  replace Ba : Box W9 (bka) [.int .i64 S0, .int .u64 S1] 24 := by rw [hW]; exact Ba.old _
  replace Bb : Box W9 (bkb) [.int .i64 S0, .int .u64 S1] 27 := by rw [hW]; exact Bb.old _
  replace Bc : Box W9 (bkc) [.int .i64 D0, .int .u64 D1] 24 := by rw [hW]; exact Bc.old _
  replace Bd : Box W9 (bkd) [.int .i64 D0, .int .u64 D1] 27 := by rw [hW]; exact Bd.old _
  replace hw : Below w.heap.size w W9 := by have hl := hw.size; rw [hW]; go_grown
  clear hW hbe
  refine (ox _).mono ?_
  rintro e w10 ⟨rfl, hb⟩
  clear xx yx zx vx xy yy zy vy xa ya za va xb yb zb vb xc yc zc vc xd yd zd vd
  replace Bx := Bx.ext hb rfl
  replace By := By.ext hb rfl
  replace Ba := Ba.ext hb rfl
  replace Bb := Bb.ext hb rfl
  replace Bc := Bc.ext hb rfl
  replace Bd := Bd.ext hb rfl
  replace Be := Be.ext hb rfl
  replace hw := hw.trans (hb.mono hw.size)
  clear hb
  obtain ⟨xx, yx, zx, vx⟩ := Bx.facts
  obtain ⟨xy, yy, zy, vy⟩ := By.facts
  obtain ⟨xa, ya, za, va⟩ := Ba.facts
  obtain ⟨xb, yb, zb, vb⟩ := Bb.facts
  obtain ⟨xc, yc, zc, vc⟩ := Bc.facts
  obtain ⟨xd, yd, zd, vd⟩ := Bd.facts
  obtain ⟨xe, ye, ze, ve⟩ := Be.facts
  go_wp2_with fail
  refine (n2 _).mono ?_
  rintro e w11 ⟨rfl, hb⟩
  clear xx yx zx vx xy yy zy vy xa ya za va xb yb zb vb xc yc zc vc xd yd zd vd xe ye ze ve
  replace Bx := Bx.ext hb rfl
  replace By := By.ext hb rfl
  replace Ba := Ba.ext hb rfl
  replace Bb := Bb.ext hb rfl
  replace Bc := Bc.ext hb rfl
  replace Bd := Bd.ext hb rfl
  replace Be := Be.ext hb rfl
  replace hw := hw.trans (hb.mono hw.size)
  clear hb
  obtain ⟨xx, yx, zx, vx⟩ := Bx.facts
  obtain ⟨xy, yy, zy, vy⟩ := By.facts
  obtain ⟨xa, ya, za, va⟩ := Ba.facts
  obtain ⟨xb, yb, zb, vb⟩ := Bb.facts
  obtain ⟨xc, yc, zc, vc⟩ := Bc.facts
  obtain ⟨xd, yd, zd, vd⟩ := Bd.facts
  obtain ⟨xe, ye, ze, ve⟩ := Be.facts
  go_wp2_with fail
  refine at_world fun W12 hW => ?_
  obtain ⟨bkf, hbf⟩ : ∃ b, w11.heap.size = b := ⟨_, rfl⟩
  rw [hbf]
  have Bf : Box W12 bkf [.int .i64 N0, .int .u64 N1] 27 := by rw [hW]; exact Box.new hbf.symm
  replace Bx : Box W12 (w.heap.size) [.int .i64 h1, .int .u64 l1] 24 := by rw [hW]; exact Bx.old _
  replace By : Box W12 (w.heap.size + 1) [.int .i64 h2, .int .u64 l2] 24 := by rw [hW]; exact By.old _
  replace Ba : Box W12 (bka) [.int .i64 S0, .int .u64 S1] 24 := by rw [hW]; exact Ba.old _
  replace Bb : Box W12 (bkb) [.int .i64 S0, .int .u64 S1] 27 := by rw [hW]; exact Bb.old _
  replace Bc : Box W12 (bkc) [.int .i64 D0, .int .u64 D1] 24 := by rw [hW]; exact Bc.old _
  replace Bd : Box W12 (bkd) [.int .i64 D0, .int .u64 D1] 27 := by rw [hW]; exact Bd.old _
  replace Be : Box W12 (bke) [.int .i64 N0, .int .u64 N1] 24 := by rw [hW]; exact Be.old _
  replace hw : Below w.heap.size w W12 := by have hl := hw.size; rw [hW]; go_grown
  clear hW hbf
  have gx := Bx.cells
  have gy := By.cells
  have ga := Ba.cells
  have gb := Bb.cells
  have gc := Bc.cells
  have gd := Bd.cells
  have ge := Be.cells
  have gf := Bf.cells
  refine wp_region_tail 57 (by kernel_rfl) (by kernel_rfl) (C := fun w' => ∃ p : Regrown, w' = grow (redrawn W12 p.d) p.os) (fun w' h => regrown_of_below h) ?_
  simp only [List.take_succ_cons, List.take_zero, List.drop_succ_cons, List.drop_zero]
  repeat (first | (refine rWalk_skip (Eq.refl false) ?_; simp only [Act.put, List.setIfInBounds_toArray, List.set_cons_succ, List.set_cons_zero]) | (refine rWalk_step (fun K hK => ?_); go_simp; first | (refine hK _ ?_; clear hK K) | (apply Exists.intro; refine ⟨fun _ => ?_, hK _ ?_⟩; (first | with_reducible exact toExt m1 _ | with_reducible exact toExt m2 _ | with_reducible exact toExt m3 _ | with_reducible exact toExt s1 _ | with_reducible exact toExt s2 _ | with_reducible exact toExt c1 _ | with_reducible exact toExt c2 _ | with_reducible exact toExt t1 _ | with_reducible exact toExt t2 _ | with_reducible exact toExt f1 _ | with_reducible exact toExt f2 _ | with_reducible exact toExt of0 _ | with_reducible exact toExt ox _ | with_reducible exact toExt oy _ | with_reducible exact toExt awake_any _); clear hK K)))
  refine rWalk_nil ?_
  intro w13 hb
  clear gx gy ga gb gc gd ge gf
  clear xx yx zx vx xy yy zy vy xa ya za va xb yb zb vb xc yc zc vc xd yd zd vd xe ye ze ve
  replace Bx := Bx.ext hb rfl
  replace By := By.ext hb rfl
  replace Ba := Ba.ext hb rfl
  replace Bb := Bb.ext hb rfl
  replace Bc := Bc.ext hb rfl
  replace Bd := Bd.ext hb rfl
  replace Be := Be.ext hb rfl
  replace Bf := Bf.ext hb rfl
  replace hw := hw.trans (hb.mono hw.size)
  go_wp2
  go_ret
  exact ⟨rfl, hw⟩
set_option maxRecDepth 100000 in
theorem wideTells_lifted (os : Os) (started : os.Started) (H : Type) (enc : TypeId × Value → H) :
    ReturnsInHanded {} Try.checked os 3 .any (Rows.wideTellsSpec.pre6 enc Try.prog Try.f3 Rows.wideTellsRow.domain false) (Rows.wideTellsSpec.post enc Try.prog Try.f3 false true false false) := by
  refine returnsInHanded_of_change (C := Try.checked) Try.own started (by kernel_rfl) Try.func3
    (ChangeSpec.witness6 (enc := enc) (C := Try.checked) false ⟨#[], #[.agg #[.int .i64 0, .int .u64 0], .agg #[.int .i64 0, .int .u64 0], .int .i64 0], []⟩ 8 (by kernel_rfl) (by kernel_rfl) (by kernel_rfl) (by kernel_rfl)) ?_
  intro W base args ds gs before hval0 hW hcnd _
  have hval : ∀ (j : Nat) t v, Try.f3.params[j]? = some t → args[j]? = some v → Value.okWide Try.prog W .any base t v := hval0
  have hW' := hW
  obtain ⟨p, q, hA0, hV, rfl, hfz, hnd⟩ := hW
  have hA : DataW.TrodAll enc Try.prog W 0 (fun _ => true) true Try.f3.params.toList args.toList ds p := hA0
  rw [Try.params3] at hA hval
  obtain ⟨v0, v1, v2, d0, d1, d2, q0, q1, q2, rfl, rfl, rfl, p0, p1, p2⟩ := trodAll_three hA
  obtain ⟨rfl, rfl⟩ := trodVars_none hV
  obtain ⟨c0, e0, y0, z0, m0, rfl, rfl, rfl, hy0, hz0⟩ := Joins.open_agg2 Try.underlying24 (by kernel_rfl) (by kernel_rfl) (hval 0 24 v0 rfl rfl) p0
  obtain ⟨h1, f0, rfl, wh1⟩ := DataW.trod_int Try.underlying2 hy0
  obtain ⟨l1, g0, rfl, wl1⟩ := DataW.trod_int Try.underlying22 hz0
  simp at f0 g0
  subst f0 g0
  have k0 : Ok h1 l1 := ok_wf wh1 wl1
  obtain ⟨c1, e1, y1, z1, m1, rfl, rfl, rfl, hy1, hz1⟩ := Joins.open_agg2 Try.underlying24 (by kernel_rfl) (by kernel_rfl) (hval 1 24 v1 rfl rfl) p1
  obtain ⟨h2, f1, rfl, wh2⟩ := DataW.trod_int Try.underlying2 hy1
  obtain ⟨l2, g1, rfl, wl2⟩ := DataW.trod_int Try.underlying22 hz1
  simp at f1 g1
  subst f1 g1
  have k1 : Ok h2 l2 := ok_wf wh2 wl2
  obtain ⟨n, rfl, rfl, rfl, wn⟩ := open_int Try.underlying3 (hval 2 3 v2 rfl rfl) p2
  have k2 := int_wf wn
  clear hA0 hval0
  simp only [List.append_nil] at hW'
  refine (tells_law h1 l1 h2 l2 n k0 k1 k2.1 k2.2 W).mono fun e W' ⟨he, hb⟩ => ?_
  subst he
  exact ⟨_, rfl, post_of_below (pa := []) (pv := []) hW' (fun _ _ _ => trodAll_mk1 (shut_bool Try.underlying4 true)) (fun sp _ => trodAll_mk3 (Joins.shut_agg2 (y0 := (.lit (.int .i64 h1), [])) (y1 := (.lit (.int .u64 l1), [])) Try.underlying24 (by kernel_rfl) (by kernel_rfl) ⟨1, by simp [DataW.trod, Try.underlying2, wh1]⟩ ⟨1, by simp [DataW.trod, Try.underlying22, wl1]⟩) (Joins.shut_agg2 (y0 := (.lit (.int .i64 h2), [])) (y1 := (.lit (.int .u64 l2), [])) Try.underlying24 (by kernel_rfl) (by kernel_rfl) ⟨1, by simp [DataW.trod, Try.underlying2, wh2]⟩ ⟨1, by simp [DataW.trod, Try.underlying22, wl2]⟩) (shut_int Try.underlying3 wn)) (fun _ _ => rfl) rfl hb (ok_one (by kernel_rfl) rfl (okWide_bool_mk Try.underlying4 true))⟩
/-- The law WideTells holds of every input. -/
theorem wideTells_holds : Rows.WideTellsSaid :=
  OpenClaim.holds_of_wide 3 Try.f3 rfl rfl rfl rfl rfl rfl rfl ⟨rfl, rfl, rfl, rfl, rfl⟩ rfl rfl rfl rfl rfl (by kernel_rfl) Try.func3 (by kernel_rfl)
    (of_decide_eq_true (by kernel_rfl)) (by unfold Func.isWrapper; rw [if_neg (of_decide_eq_false (by kernel_rfl))]; exact ⟨rfl, rfl⟩)
    (fun os started H enc _ => wideTells_lifted os started H enc)
end Go.Proofs.Ytkohcdkolkncaaa
