/- The law MeshTells, of every input. -/
import Derived.Test.YtaegobkkcgheeaaPut29
import Derived.ProofKit
import Derived.WideKeyArgs
namespace Go.Proofs.Ytaegobkkcgheeaa
open Go.RowKit Go.Sort Go.ChangeShapes Go.WideShapes Go.ChangeAt
set_option maxRecDepth 100000 in
theorem meshTells_lifted (os : Os) (started : os.Started) (H : Type) (enc : TypeId × Value → H) :
    ReturnsInHanded {} Try.checked os 4 .any (Rows.meshTellsSpec.pre6 enc Try.prog Try.f4 Rows.meshTellsRow.domain false) (Rows.meshTellsSpec.post enc Try.prog Try.f4 false true false false) := by
  refine returnsInHanded_of_change (C := Try.checked) Try.own started (by kernel_rfl) Try.func4
    (ChangeSpec.witness6 (enc := enc) (C := Try.checked) false ⟨#[], #[.slice none 0 0, .agg #[.int .i64 0, .int .i64 0, .int .i64 0, .int .i64 0, .int .i64 0, .int .i64 0], .agg #[.int .i64 0, .int .i64 0], .agg #[.int .i64 0, .int .i64 0]], []⟩ 8 (by kernel_rfl) (by kernel_rfl) (by kernel_rfl) (by kernel_rfl)) ?_
  intro W base args ds gs before hval0 hW hcnd _
  have hval : ∀ (j : Nat) t v, Try.f4.params[j]? = some t → args[j]? = some v → Value.okWide Try.prog W .any base t v := hval0
  have hW' := hW
  obtain ⟨p, q, hA0, hV, rfl, hfz, hnd⟩ := hW
  have hA : DataW.TrodAll enc Try.prog W 0 (fun _ => true) true Try.f4.params.toList args.toList ds p := hA0
  rw [Try.params4] at hA hval
  obtain ⟨v0, v1, v2, v3, d0, d1, d2, d3, q0, q1, q2, q3, rfl, rfl, rfl, p0, p1, p2, p3⟩ := trodAll_four hA
  obtain ⟨rfl, rfl⟩ := trodVars_none hV
  have p0k := p0
  obtain ⟨a0, n0, cap0, L, rfl, hL, hrow, hokL⟩ := open_row (hval 0 42 v0 rfl rfl) p0
  obtain ⟨T, rfl, rfl, rfl, kT⟩ := open_tri (hval 1 25 v1 rfl rfl) p1
  obtain ⟨c2, e2, y2, z2, m2, rfl, rfl, rfl, hy2, hz2⟩ := Joins.open_agg2 Try.underlying23 (by kernel_rfl) (by kernel_rfl) (hval 2 23 v2 rfl rfl) p2
  obtain ⟨xa, f2, rfl, wxa⟩ := DataW.trod_int Try.underlying3 hy2
  obtain ⟨ya, g2, rfl, wya⟩ := DataW.trod_int Try.underlying3 hz2
  simp at f2 g2
  subst f2 g2
  obtain ⟨c3, e3, y3, z3, m3, rfl, rfl, rfl, hy3, hz3⟩ := Joins.open_agg2 Try.underlying23 (by kernel_rfl) (by kernel_rfl) (hval 3 23 v3 rfl rfl) p3
  obtain ⟨xb, f3, rfl, wxb⟩ := DataW.trod_int Try.underlying3 hy3
  obtain ⟨yb, g3, rfl, wyb⟩ := DataW.trod_int Try.underlying3 hz3
  simp at f3 g3
  subst f3 g3
  have kT' : okT T := by
    obtain ⟨h0, h1, h2, h3, h4, h5⟩ := kT
    exact ⟨⟨h0, h1⟩, ⟨h2, h3⟩, ⟨h4, h5⟩⟩
  clear hA0 hval0
  simp only [List.append_nil] at hW'
  refine (mt_any a0 cap0 n0 L hL hokL T ⟨xa, ya⟩ ⟨xb, yb⟩ kT' ⟨⟨wxa, wya⟩, ⟨wxb, wyb⟩⟩ W hrow).mono fun e W' ⟨he, hb⟩ => ?_
  subst he
  exact ⟨_, rfl, post_of_below (pa := q0 ++ ([] ++ ([] ++ []))) (pv := []) hW' (fun _ _ _ => trodAll_mk1 (shut_bool Try.underlying4 true)) (fun sp hsp => by
    have h := trodAll_mk4 (P := Try.prog) (enc := enc) (w := W') (base := 0) (spare := sp) (held := true) (WideElems.Trod_stays (by kernel_rfl) (by kernel_rfl) (of_decide_eq_true (by kernel_rfl)) p0k (fun x hx => hb.same (by simpa using hW'.lt x (by simpa using hx))) (fun x hx => hsp x (by simpa using hx))) (shut_tri kT) (shut_pt wxa wya) (shut_pt wxb wyb)
    exact h) (fun _ _ => rfl) (by simp) hb (ok_one (by kernel_rfl) rfl (okWide_bool_mk Try.underlying4 true))⟩
/-- The law MeshTells holds of every input. -/
theorem meshTells_holds : Rows.MeshTellsSaid :=
  OpenClaim.holds_of_wide 4 Try.f4 rfl rfl rfl rfl rfl rfl rfl ⟨rfl, rfl, rfl, rfl, rfl⟩ rfl rfl rfl rfl rfl (by kernel_rfl) Try.func4 (by kernel_rfl)
    (of_decide_eq_true (by kernel_rfl)) (by unfold Func.isWrapper; rw [if_neg (of_decide_eq_false (by kernel_rfl))]; exact ⟨rfl, rfl⟩)
    (fun os started H enc _ => meshTells_lifted os started H enc)
end Go.Proofs.Ytaegobkkcgheeaa
