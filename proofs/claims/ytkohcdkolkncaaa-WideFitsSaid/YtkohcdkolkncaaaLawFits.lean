/- A sum does not fit just where it is beyond the greatest, or below the least: the law WideFits of package hectarelaw1 answers true at every input; no conditions. -/
import Derived.Test.YtkohcdkolkncaaaRows
import Derived.Test.YtkohcdkolkncaaaWideK
import Derived.Test.YtkohcdkolkncaaaPost
import Derived.WalkKit
import Derived.WalkSpells
import Derived.WalkLawsBesides
import Derived.Deep.QuietTactic
import Derived.BigQuiet
import Derived.Lib.Hide
import Derived.Handy
import Derived.ProofKit
import Derived.Lib.SmallJoins
namespace Go.Proofs.Ytkohcdkolkncaaa
open Go.RowKit Go.Sort Go.ChangeShapes Go.WideShapes Go.ChangeAt
attribute [local go_sem] rOper rAt rUpon cell_set sg_i64 sg_u64 alloc_cell alloc_frozen

theorem fits_signs {X Y : Int} (hx : fits X = true) (hy : fits Y = true) (h : fits (X + Y) = false) : sgn X = sgn Y ∧ (sgn X != 0) = true := by
  rw [fits_iff] at hx hy; rw [fits_not] at h
  unfold sgn
  by_cases a : X < 0
  · have b : Y < 0 := by omega
    rw [if_pos a, if_pos b]; exact ⟨rfl, rfl⟩
  · have b : ¬ Y < 0 := by omega
    rw [if_neg a, if_neg b, if_pos (by omega), if_pos (by omega)]; exact ⟨rfl, rfl⟩
theorem fits_no (h1 l1 h2 l2 : Int) (k : Ok h1 l1) (q : Ok h2 l2) (hf : fits (V h1 l1 + V h2 l2) = false) (w : World) :
    Calls Try.prog 8 #[.agg #[.int .i64 h1, .int .u64 l1], .agg #[.int .i64 h2, .int .u64 l2]] w fun e w' => e = .returned (.bool true) ∧ Below w.heap.size w w' := by
  have c1 := add_any h1 l1 h2 l2 k q
  have c2 := add_any h2 l2 h1 l1 q k
  rw [show V h2 l2 + V h1 l1 = V h1 l1 + V h2 l2 by omega] at c2
  obtain ⟨e1, e2⟩ := c_not hf
  rw [e1, e2, hf] at c1 c2
  obtain ⟨s1, s2⟩ := fits_signs (fits_V k) (fits_V q) hf
  have d1 := sign_any h1 l1 k
  have d2 := sign_any h2 l2 q
  rw [← s1] at d2
  obtain ⟨σ, hσ⟩ : ∃ σ, sgn (V h1 l1) = σ := ⟨_, rfl⟩
  rw [hσ] at d1 d2 s2
  clear e1 e2 hf s1 hσ
  go_enter Try.func8, Try.ntmps8
  go_wp2_with fail
  refine at_call fun W1 hW => ?_
  have Bx : Box W1 (w.heap.size) [.int .i64 h1, .int .u64 l1] 24 := by rw [hW]; exact (Box.new rfl).old _
  have By : Box W1 (w.heap.size + 1) [.int .i64 h2, .int .u64 l2] 24 := by rw [hW]; exact Box.new (by simp)
  have hw : Below w.heap.size w W1 := by rw [hW]; go_grown
  clear hW
  refine (c1 _).mono ?_
  rintro e w2 ⟨rfl, hb⟩
  replace Bx := Bx.ext hb rfl
  replace By := By.ext hb rfl
  replace hw := hw.trans (hb.mono hw.size)
  clear hb
  obtain ⟨xx, yx, zx, vx⟩ := Bx.facts
  obtain ⟨xy, yy, zy, vy⟩ := By.facts
  go_wp2_with fail
  refine at_call fun W3 hW => ?_
  obtain ⟨bs, hbs⟩ : ∃ b, w2.heap.size = b := ⟨_, rfl⟩
  rw [hbs]
  have Bs : Box W3 bs [.int .i64 0, .int .u64 0] 24 := by rw [hW]; exact Box.new hbs.symm
  replace Bx : Box W3 (w.heap.size) [.int .i64 h1, .int .u64 l1] 24 := by rw [hW]; exact Bx.old _
  replace By : Box W3 (w.heap.size + 1) [.int .i64 h2, .int .u64 l2] 24 := by rw [hW]; exact By.old _
  replace hw : Below w.heap.size w W3 := by have hl := hw.size; rw [hW]; go_grown
  clear hW hbs
  refine (c2 _).mono ?_
  rintro e w4 ⟨rfl, hb⟩
  clear xx yx zx vx xy yy zy vy
  replace Bx := Bx.ext hb rfl
  replace By := By.ext hb rfl
  replace Bs := Bs.ext hb rfl
  replace hw := hw.trans (hb.mono hw.size)
  clear hb
  obtain ⟨xx, yx, zx, vx⟩ := Bx.facts
  obtain ⟨xy, yy, zy, vy⟩ := By.facts
  obtain ⟨xs, ys, zs, vs⟩ := Bs.facts
  go_wp2
  refine at_world fun W5 hW => ?_
  replace Bx : Box W5 (w.heap.size) [.int .i64 h1, .int .u64 l1] 24 := by rw [hW]; exact Bx.old _
  replace By : Box W5 (w.heap.size + 1) [.int .i64 h2, .int .u64 l2] 24 := by rw [hW]; exact By.old _
  replace Bs : Box W5 (bs) [.int .i64 0, .int .u64 0] 24 := by rw [hW]; exact Bs.old _
  replace hw : Below w.heap.size w W5 := by have hl := hw.size; rw [hW]; go_grown
  clear hW
  have gx := Bx.cells
  have gy := By.cells
  have gs := Bs.cells
  refine wp_region_tail 18 (by kernel_rfl) (by kernel_rfl) (C := fun w' => ∃ p : Regrown, w' = grow (redrawn W5 p.d) p.os) (fun w' h => regrown_of_below h) ?_
  simp only [List.take_succ_cons, List.take_zero, List.drop_succ_cons, List.drop_zero]
  repeat (refine rWalk_step (fun K hK => ?_); go_simp; first | (refine hK _ ?_; clear hK K) | (apply Exists.intro; refine ⟨fun _ => ?_, hK _ ?_⟩; (first | exact d1 _ | exact d2 _ | exact awake_any _); clear hK K))
  refine rWalk_nil ?_
  intro w6 hb
  clear gx gy gs
  clear xx yx zx vx xy yy zy vy xs ys zs vs
  replace Bx := Bx.ext hb rfl
  replace By := By.ext hb rfl
  replace Bs := Bs.ext hb rfl
  replace hw := hw.trans (hb.mono hw.size)
  go_wp2
  go_ret
  exact ⟨rfl, hw⟩
theorem fits_yes (h1 l1 h2 l2 : Int) (k : Ok h1 l1) (q : Ok h2 l2) (hf : fits (V h1 l1 + V h2 l2) = true) (w : World) :
    Calls Try.prog 8 #[.agg #[.int .i64 h1, .int .u64 l1], .agg #[.int .i64 h2, .int .u64 l2]] w fun e w' => e = .returned (.bool true) ∧ Below w.heap.size w w' := by
  have c1 := add_any h1 l1 h2 l2 k q
  have c2 := add_any h2 l2 h1 l1 q k
  rw [show V h2 l2 + V h1 l1 = V h1 l1 + V h2 l2 by omega] at c2
  have d1 := sub_any (cH (V h1 l1 + V h2 l2)) (cL (V h1 l1 + V h2 l2)) h2 l2 (ok_c _) q
  have d2 := sub_any (cH (V h1 l1 + V h2 l2)) (cL (V h1 l1 + V h2 l2)) h1 l1 (ok_c _) k
  rw [V_c hf, show V h1 l1 + V h2 l2 - V h2 l2 = V h1 l1 by omega, cH_V k, cL_V k, fits_V k] at d1
  rw [V_c hf, show V h1 l1 + V h2 l2 - V h1 l1 = V h2 l2 by omega, cH_V q, cL_V q, fits_V q] at d2
  rw [hf] at c1 c2
  obtain ⟨H0, hH⟩ : ∃ x, cH (V h1 l1 + V h2 l2) = x := ⟨_, rfl⟩
  obtain ⟨L0, hL⟩ : ∃ x, cL (V h1 l1 + V h2 l2) = x := ⟨_, rfl⟩
  rw [hH, hL] at c1 c2 d1 d2
  clear hf hH hL
  go_enter Try.func8, Try.ntmps8
  go_wp2_with fail
  refine at_call fun W1 hW => ?_
  have Bx : Box W1 (w.heap.size) [.int .i64 h1, .int .u64 l1] 24 := by rw [hW]; exact (Box.new rfl).old _
  have By : Box W1 (w.heap.size + 1) [.int .i64 h2, .int .u64 l2] 24 := by rw [hW]; exact Box.new (by simp)
  have hw : Below w.heap.size w W1 := by rw [hW]; go_grown
  clear hW
  refine (c1 _).mono ?_
  rintro e w2 ⟨rfl, hb⟩
  replace Bx := Bx.ext hb rfl
  replace By := By.ext hb rfl
  replace hw := hw.trans (hb.mono hw.size)
  clear hb
  obtain ⟨xx, yx, zx, vx⟩ := Bx.facts
  obtain ⟨xy, yy, zy, vy⟩ := By.facts
  go_wp2_with fail
  refine at_call fun W3 hW => ?_
  obtain ⟨bs, hbs⟩ : ∃ b, w2.heap.size = b := ⟨_, rfl⟩
  rw [hbs]
  have Bs : Box W3 bs [.int .i64 H0, .int .u64 L0] 24 := by rw [hW]; exact Box.new hbs.symm
  replace Bx : Box W3 (w.heap.size) [.int .i64 h1, .int .u64 l1] 24 := by rw [hW]; exact Bx.old _
  replace By : Box W3 (w.heap.size + 1) [.int .i64 h2, .int .u64 l2] 24 := by rw [hW]; exact By.old _
  replace hw : Below w.heap.size w W3 := by have hl := hw.size; rw [hW]; go_grown
  clear hW hbs
  refine (c2 _).mono ?_
  rintro e w4 ⟨rfl, hb⟩
  clear xx yx zx vx xy yy zy vy
  replace Bx := Bx.ext hb rfl
  replace By := By.ext hb rfl
  replace Bs := Bs.ext hb rfl
  replace hw := hw.trans (hb.mono hw.size)
  clear hb
  obtain ⟨xx, yx, zx, vx⟩ := Bx.facts
  obtain ⟨xy, yy, zy, vy⟩ := By.facts
  obtain ⟨xs, ys, zs, vs⟩ := Bs.facts
  go_wp2_with fail
  refine at_call fun W5 hW => ?_
  replace Bx : Box W5 (w.heap.size) [.int .i64 h1, .int .u64 l1] 24 := by rw [hW]; exact Bx.old _
  replace By : Box W5 (w.heap.size + 1) [.int .i64 h2, .int .u64 l2] 24 := by rw [hW]; exact By.old _
  replace Bs : Box W5 (bs) [.int .i64 H0, .int .u64 L0] 24 := by rw [hW]; exact Bs.old _
  replace hw : Below w.heap.size w W5 := by have hl := hw.size; rw [hW]; go_grown
  clear hW
  refine (d1 _).mono ?_
  rintro e w6 ⟨rfl, hb⟩
  clear xx yx zx vx xy yy zy vy xs ys zs vs
  replace Bx := Bx.ext hb rfl
  replace By := By.ext hb rfl
  replace Bs := Bs.ext hb rfl
  replace hw := hw.trans (hb.mono hw.size)
  clear hb
  obtain ⟨xx, yx, zx, vx⟩ := Bx.facts
  obtain ⟨xy, yy, zy, vy⟩ := By.facts
  obtain ⟨xs, ys, zs, vs⟩ := Bs.facts
  go_wp2_with fail
  refine at_call fun W7 hW => ?_
  obtain ⟨bu, hbu⟩ : ∃ b, w6.heap.size = b := ⟨_, rfl⟩
  rw [hbu]
  have Bu : Box W7 bu [.int .i64 h1, .int .u64 l1] 24 := by rw [hW]; exact Box.new hbu.symm
  replace Bx : Box W7 (w.heap.size) [.int .i64 h1, .int .u64 l1] 24 := by rw [hW]; exact Bx.old _
  replace By : Box W7 (w.heap.size + 1) [.int .i64 h2, .int .u64 l2] 24 := by rw [hW]; exact By.old _
  replace Bs : Box W7 (bs) [.int .i64 H0, .int .u64 L0] 24 := by rw [hW]; exact Bs.old _
  replace hw : Below w.heap.size w W7 := by have hl := hw.size; rw [hW]; go_grown
  clear hW hbu
  refine (d2 _).mono ?_
  rintro e w8 ⟨rfl, hb⟩
  clear xx yx zx vx xy yy zy vy xs ys zs vs
  replace Bx := Bx.ext hb rfl
  replace By := By.ext hb rfl
  replace Bs := Bs.ext hb rfl
  replace Bu := Bu.ext hb rfl
  replace hw := hw.trans (hb.mono hw.size)
  clear hb
  obtain ⟨xx, yx, zx, vx⟩ := Bx.facts
  obtain ⟨xy, yy, zy, vy⟩ := By.facts
  obtain ⟨xs, ys, zs, vs⟩ := Bs.facts
  obtain ⟨xu, yu, zu, vu⟩ := Bu.facts
  go_wp2_with fail
  refine at_call fun W9 hW => ?_
  obtain ⟨bv, hbv⟩ : ∃ b, w8.heap.size = b := ⟨_, rfl⟩
  rw [hbv]
  have Bv : Box W9 bv [.int .i64 h2, .int .u64 l2] 24 := by rw [hW]; exact Box.new hbv.symm
  replace Bx : Box W9 (w.heap.size) [.int .i64 h1, .int .u64 l1] 24 := by rw [hW]; exact Bx.old _
  replace By : Box W9 (w.heap.size + 1) [.int .i64 h2, .int .u64 l2] 24 := by rw [hW]; exact By.old _
  replace Bs : Box W9 (bs) [.int .i64 H0, .int .u64 L0] 24 := by rw [hW]; exact Bs.old _
  replace Bu : Box W9 (bu) [.int .i64 h1, .int .u64 l1] 24 := by rw [hW]; exact Bu.old _
  replace hw : Below w.heap.size w W9 := by have hl := hw.size; rw [hW]; go_grown
  clear hW hbv
  refine (awake_any _).mono ?_
  rintro e w10 ⟨rfl, hb⟩
  clear xx yx zx vx xy yy zy vy xs ys zs vs xu yu zu vu
  replace Bx := Bx.ext hb rfl
  replace By := By.ext hb rfl
  replace Bs := Bs.ext hb rfl
  replace Bu := Bu.ext hb rfl
  replace Bv := Bv.ext hb rfl
  replace hw := hw.trans (hb.mono hw.size)
  clear hb
  go_wp2
  go_ret
  exact ⟨rfl, hw⟩
theorem fits_law (h1 l1 h2 l2 : Int) (k : Ok h1 l1) (q : Ok h2 l2) (w : World) :
    Calls Try.prog 8 #[.agg #[.int .i64 h1, .int .u64 l1], .agg #[.int .i64 h2, .int .u64 l2]] w fun e w' => e = .returned (.bool true) ∧ Below w.heap.size w w' := by
  cases hf : fits (V h1 l1 + V h2 l2) with
  | false => exact fits_no h1 l1 h2 l2 k q hf w
  | true => exact fits_yes h1 l1 h2 l2 k q hf w
set_option maxRecDepth 100000 in
theorem wideFits_lifted (os : Os) (started : os.Started) (H : Type) (enc : TypeId × Value → H) :
    ReturnsInHanded {} Try.checked os 8 .any (Rows.wideFitsSpec.pre6 enc Try.prog Try.f8 Rows.wideFitsRow.domain false) (Rows.wideFitsSpec.post enc Try.prog Try.f8 false true false false) := by
  refine returnsInHanded_of_change (C := Try.checked) Try.own started (by kernel_rfl) Try.func8
    (ChangeSpec.witness6 (enc := enc) (C := Try.checked) false ⟨#[], #[.agg #[.int .i64 0, .int .u64 0], .agg #[.int .i64 0, .int .u64 0]], []⟩ 8 (by kernel_rfl) (by kernel_rfl) (by kernel_rfl) (by kernel_rfl)) ?_
  intro W base args ds gs before hval0 hW hcnd _
  have hval : ∀ (j : Nat) t v, Try.f8.params[j]? = some t → args[j]? = some v → Value.okWide Try.prog W .any base t v := hval0
  have hW' := hW
  obtain ⟨p, q, hA0, hV, rfl, hfz, hnd⟩ := hW
  have hA : DataW.TrodAll enc Try.prog W 0 (fun _ => true) true Try.f8.params.toList args.toList ds p := hA0
  rw [Try.params8] at hA hval
  obtain ⟨v0, v1, d0, d1, q0, q1, rfl, rfl, rfl, p0, p1⟩ := trodAll_two hA
  obtain ⟨rfl, rfl⟩ := trodVars_none hV
  obtain ⟨c0, e0, y0, z0, m0, rfl, rfl, rfl, hy0, hz0⟩ := Joins.open_agg2 Try.underlying24 (by kernel_rfl) (by kernel_rfl) (hval 0 24 v0 rfl rfl) p0
  obtain ⟨h1, f0, rfl, wh1⟩ := DataW.trod_int Try.underlying2 hy0
  obtain ⟨l1, g0, rfl, wl1⟩ := DataW.trod_int Try.underlying22 hz0
  simp at f0 g0
  subst f0 g0
  have k0 : Ok h1 l1 := ok_wf wh1 wl1
  obtain ⟨c1, e1, y1, z1, m1, rfl, rfl, rfl, hy1, hz1⟩ := Joins.open_agg2 Try.underlying24 (by kernel_rfl) (by kernel_rfl) (hval 1 24 v1 rfl rfl) p1
  obtain ⟨h2, f1, rfl, wh2⟩ := DataW.trod_int Try.underlying2 hy1
  obtain ⟨l2, g1, rfl, wl2⟩ := DataW.trod_int Try.underlying22 hz1
  simp at f1 g1
  subst f1 g1
  have k1 : Ok h2 l2 := ok_wf wh2 wl2
  clear hA0 hval0
  simp only [List.append_nil] at hW'
  refine (fits_law h1 l1 h2 l2 k0 k1 W).mono fun e W' ⟨he, hb⟩ => ?_
  subst he
  exact ⟨_, rfl, post_of_below (pa := []) (pv := []) hW' (fun _ _ _ => trodAll_mk1 (shut_bool Try.underlying4 true)) (fun sp _ => trodAll_mk2 (Joins.shut_agg2 (y0 := (.lit (.int .i64 h1), [])) (y1 := (.lit (.int .u64 l1), [])) Try.underlying24 (by kernel_rfl) (by kernel_rfl) ⟨1, by simp [DataW.trod, Try.underlying2, wh1]⟩ ⟨1, by simp [DataW.trod, Try.underlying22, wl1]⟩) (Joins.shut_agg2 (y0 := (.lit (.int .i64 h2), [])) (y1 := (.lit (.int .u64 l2), [])) Try.underlying24 (by kernel_rfl) (by kernel_rfl) ⟨1, by simp [DataW.trod, Try.underlying2, wh2]⟩ ⟨1, by simp [DataW.trod, Try.underlying22, wl2]⟩)) (fun _ _ => rfl) rfl hb (ok_one (by kernel_rfl) rfl (okWide_bool_mk Try.underlying4 true))⟩
/-- The law WideFits holds of every input. -/
theorem wideFits_holds : Rows.WideFitsSaid :=
  OpenClaim.holds_of_wide 8 Try.f8 rfl rfl rfl rfl rfl rfl rfl ⟨rfl, rfl, rfl, rfl, rfl⟩ rfl rfl rfl rfl rfl (by kernel_rfl) Try.func8 (by kernel_rfl)
    (of_decide_eq_true (by kernel_rfl)) (by unfold Func.isWrapper; rw [if_neg (of_decide_eq_false (by kernel_rfl))]; exact ⟨rfl, rfl⟩)
    (fun os started H enc _ => wideFits_lifted os started H enc)
end Go.Proofs.Ytkohcdkolkncaaa
