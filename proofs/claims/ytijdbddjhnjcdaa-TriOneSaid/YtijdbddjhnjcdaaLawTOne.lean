/- Three points are one triangle, in whatever order they are named; its corners are they; each edge's other way is on its outside: the law TriOne of package hectarelaw3 answers true at every input; no conditions. -/
import Derived.Test.YtijdbddjhnjcdaaRows
import Derived.Test.YtijdbddjhnjcdaaTrU
import Derived.Test.YtijdbddjhnjcdaaTrX
import Derived.Test.YtijdbddjhnjcdaaPost
import Derived.WalkKit
import Derived.WalkSpells
import Derived.WalkLawsBesides
import Derived.Deep.QuietTactic
import Derived.BigQuiet
import Derived.Lib.Hide
import Derived.Handy
import Derived.ProofKit
import Derived.Lib.SmallJoins
namespace Go.Proofs.Ytijdbddjhnjcdaa
open Go.RowKit Go.Sort Go.ChangeShapes Go.WideShapes Go.ChangeAt
attribute [local go_sem] rOper rAt rUpon cell_set sg_i64 sg_u64 alloc_cell alloc_frozen
attribute [local go_sem 10000] pt_eql pt_neq tri_eql
attribute [local irreducible] rWalk

theorem tone_law (a b c : Pt) (w : World) :
    Calls Try.prog 3 #[.agg #[.int .i64 a.x, .int .i64 a.y], .agg #[.int .i64 b.x, .int .i64 b.y], .agg #[.int .i64 c.x, .int .i64 c.y]] w fun e w' => e = .returned (.bool true) ∧ Below w.heap.size w w' := by
  by_cases h0 : ori a b c = 0
  · exact tone_0 a b c h0 (mk_none h0) (by simp [h0]) w
  · exact tone_1 a b c h0 w
set_option maxRecDepth 100000 in
theorem triOne_lifted (os : Os) (started : os.Started) (H : Type) (enc : TypeId × Value → H) :
    ReturnsInHanded {} Try.checked os 3 .any (Rows.triOneSpec.pre6 enc Try.prog Try.f3 Rows.triOneRow.domain false) (Rows.triOneSpec.post enc Try.prog Try.f3 false true false false) := by
  refine returnsInHanded_of_change (C := Try.checked) Try.own started (by kernel_rfl) Try.func3
    (ChangeSpec.witness6 (enc := enc) (C := Try.checked) false ⟨#[], #[.agg #[.int .i64 0, .int .i64 0], .agg #[.int .i64 0, .int .i64 0], .agg #[.int .i64 0, .int .i64 0]], []⟩ 8 (by kernel_rfl) (by kernel_rfl) (by kernel_rfl) (by kernel_rfl)) ?_
  intro W base args ds gs before hval0 hW hcnd _
  have hval : ∀ (j : Nat) t v, Try.f3.params[j]? = some t → args[j]? = some v → Value.okWide Try.prog W .any base t v := hval0
  have hW' := hW
  obtain ⟨p, q, hA0, hV, rfl, hfz, hnd⟩ := hW
  have hA : DataW.TrodAll enc Try.prog W 0 (fun _ => true) true Try.f3.params.toList args.toList ds p := hA0
  rw [Try.params3] at hA hval
  obtain ⟨v0, v1, v2, d0, d1, d2, q0, q1, q2, rfl, rfl, rfl, p0, p1, p2⟩ := trodAll_three hA
  obtain ⟨rfl, rfl⟩ := trodVars_none hV
  obtain ⟨c0, e0, y0, z0, m0, rfl, rfl, rfl, hy0, hz0⟩ := Joins.open_agg2 Try.underlying23 (by kernel_rfl) (by kernel_rfl) (hval 0 23 v0 rfl rfl) p0
  obtain ⟨xa, f0, rfl, wxa⟩ := DataW.trod_int Try.underlying3 hy0
  obtain ⟨ya, g0, rfl, wya⟩ := DataW.trod_int Try.underlying3 hz0
  simp at f0 g0
  subst f0 g0
  obtain ⟨c1, e1, y1, z1, m1, rfl, rfl, rfl, hy1, hz1⟩ := Joins.open_agg2 Try.underlying23 (by kernel_rfl) (by kernel_rfl) (hval 1 23 v1 rfl rfl) p1
  obtain ⟨xb, f1, rfl, wxb⟩ := DataW.trod_int Try.underlying3 hy1
  obtain ⟨yb, g1, rfl, wyb⟩ := DataW.trod_int Try.underlying3 hz1
  simp at f1 g1
  subst f1 g1
  obtain ⟨c2, e2, y2, z2, m2, rfl, rfl, rfl, hy2, hz2⟩ := Joins.open_agg2 Try.underlying23 (by kernel_rfl) (by kernel_rfl) (hval 2 23 v2 rfl rfl) p2
  obtain ⟨xc, f2, rfl, wxc⟩ := DataW.trod_int Try.underlying3 hy2
  obtain ⟨yc, g2, rfl, wyc⟩ := DataW.trod_int Try.underlying3 hz2
  simp at f2 g2
  subst f2 g2
  clear hA0 hval0
  simp only [List.append_nil] at hW'
  refine (tone_law ⟨xa, ya⟩ ⟨xb, yb⟩ ⟨xc, yc⟩ W).mono fun e W' ⟨he, hb⟩ => ?_
  subst he
  exact ⟨_, rfl, post_of_below (pa := []) (pv := []) hW' (fun _ _ _ => trodAll_mk1 (shut_bool Try.underlying4 true)) (fun sp _ => trodAll_mk3 (Joins.shut_agg2 (y0 := (.lit (.int .i64 xa), [])) (y1 := (.lit (.int .i64 ya), [])) Try.underlying23 (by kernel_rfl) (by kernel_rfl) ⟨1, by simp [DataW.trod, Try.underlying3, wxa]⟩ ⟨1, by simp [DataW.trod, Try.underlying3, wya]⟩) (Joins.shut_agg2 (y0 := (.lit (.int .i64 xb), [])) (y1 := (.lit (.int .i64 yb), [])) Try.underlying23 (by kernel_rfl) (by kernel_rfl) ⟨1, by simp [DataW.trod, Try.underlying3, wxb]⟩ ⟨1, by simp [DataW.trod, Try.underlying3, wyb]⟩) (Joins.shut_agg2 (y0 := (.lit (.int .i64 xc), [])) (y1 := (.lit (.int .i64 yc), [])) Try.underlying23 (by kernel_rfl) (by kernel_rfl) ⟨1, by simp [DataW.trod, Try.underlying3, wxc]⟩ ⟨1, by simp [DataW.trod, Try.underlying3, wyc]⟩)) (fun _ _ => rfl) rfl hb (ok_one (by kernel_rfl) rfl (okWide_bool_mk Try.underlying4 true))⟩
/-- The law TriOne holds of every input. -/
theorem triOne_holds : Rows.TriOneSaid :=
  OpenClaim.holds_of_wide 3 Try.f3 rfl rfl rfl rfl rfl rfl rfl ⟨rfl, rfl, rfl, rfl, rfl⟩ rfl rfl rfl rfl rfl (by kernel_rfl) Try.func3 (by kernel_rfl)
    (of_decide_eq_true (by kernel_rfl)) (by unfold Func.isWrapper; rw [if_neg (of_decide_eq_false (by kernel_rfl))]; exact ⟨rfl, rfl⟩)
    (fun os started H enc _ => triOne_lifted os started H enc)
end Go.Proofs.Ytijdbddjhnjcdaa
