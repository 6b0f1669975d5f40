/- A way from corner to corner goes along triangles from the star of one to that of the other, the same back: the law WalkTrails of package hectarelaw6 answers true at every input; no conditions. -/
import Derived.Test.YtmobnmjjmafibaaGreatPut13
import Derived.Test.YtmobnmjjmafibaaGreatPut15
import Derived.ProofKit
import Derived.WideKeyArgs
namespace Go.Proofs.YtmobnmjjmafibaaGreat
open Go.RowKit Go.Sort Go.ChangeShapes Go.WideShapes Go.ChangeAt
theorem wt_any (s : Int) (a0 : Option Addr) (n c0 : Nat) (P : List Int) (hP : P.length = n) (a b : Int) (w : World) (h0 : RowAt cI 1 w a0 P) :
    Calls Tryz.prog 4 #[.int .i64 s, .slice a0 n c0, .int .i64 a, .int .i64 b] w fun e w' => e = .returned (.bool true) ∧ Below w.heap.size w w' := by
  cases hf : (decide (1 ≤ s) && (decide (s ≤ 40) && (decide (n ≤ 25) && decide (0 ≤ 12)))) with
  | false => exact wt_no s a0 n c0 a b hf w
  | true =>
    rcases Nat.eq_zero_or_pos n with rfl | hn0
    · exact wt_zero s a0 c0 a b hf w
    · simp at hf
      exact wt_yes s (by omega) hf.2.1 a0 n c0 hn0 hf.2.2 P (Lib.hid hP) a b w h0
set_option maxRecDepth 100000 in
theorem walkTrails_lifted (os : Os) (started : os.Started) (H : Type) (enc : TypeId × Value → H) :
    ReturnsInHanded {} Tryz.checked os 4 .any (Rows.walkTrailsSpec.pre6 enc Tryz.prog Tryz.f4 Rows.walkTrailsRow.domain false) (Rows.walkTrailsSpec.post enc Tryz.prog Tryz.f4 false true false false) := by
  refine returnsInHanded_of_change (C := Tryz.checked) Tryz.own started (by kernel_rfl) Tryz.func4
    (ChangeSpec.witness6 (enc := enc) (C := Tryz.checked) false ⟨#[], #[.int .i64 0, .slice none 0 0, .int .i64 0, .int .i64 0], []⟩ 8 (by kernel_rfl) (by kernel_rfl) (by kernel_rfl) (by kernel_rfl)) ?_
  intro W base args ds gs before hval0 hW hcnd _
  have hval : ∀ (j : Nat) t v, Tryz.f4.params[j]? = some t → args[j]? = some v → Value.okWide Tryz.prog W .any base t v := hval0
  have hW' := hW
  obtain ⟨p, q, hA0, hV, rfl, hfz, hnd⟩ := hW
  have hA : DataW.TrodAll enc Tryz.prog W 0 (fun _ => true) true Tryz.f4.params.toList args.toList ds p := hA0
  rw [Tryz.params4] at hA hval
  obtain ⟨v0, v1, v2, v3, d0, d1, d2, d3, q0, q1, q2, q3, rfl, rfl, rfl, p0, p1, p2, p3⟩ := trodAll_four hA
  obtain ⟨rfl, rfl⟩ := trodVars_none hV
  obtain ⟨s, rfl, rfl, rfl, ws⟩ := open_int Tryz.underlying3 (hval 0 3 v0 rfl rfl) p0
  have p1k := p1
  obtain ⟨a1, n1, cap1, P, rfl, hL1, hrow1⟩ := open_rowI (hval 1 22 v1 rfl rfl) p1
  obtain ⟨a, rfl, rfl, rfl, wa⟩ := open_int Tryz.underlying3 (hval 2 3 v2 rfl rfl) p2
  obtain ⟨b, rfl, rfl, rfl, wb⟩ := open_int Tryz.underlying3 (hval 3 3 v3 rfl rfl) p3
  clear hA0 hval0
  simp only [List.append_nil, List.nil_append] at hW'
  refine (wt_any s a1 n1 cap1 P hL1 a b W hrow1).mono fun e W' ⟨he, hb⟩ => ?_
  subst he
  exact ⟨_, rfl, post_of_below (pa := ([] ++ (q1 ++ ([] ++ [])))) (pv := []) hW' (fun _ _ _ => trodAll_mk1 (shut_bool Tryz.underlying4 true)) (fun sp hsp => by
    have h := trodAll_mk4 (P := Tryz.prog) (enc := enc) (w := W') (base := 0) (spare := sp) (held := true) (shut_int Tryz.underlying3 ws) (WideElems.Trod_stays (by kernel_rfl) (by kernel_rfl) (of_decide_eq_true (by kernel_rfl)) p1k (fun x hx => hb.same (by simpa using hW'.lt x (by simpa using hx))) (fun x hx => hsp x (by simpa using hx))) (shut_int Tryz.underlying3 wa) (shut_int Tryz.underlying3 wb)
    exact h) (fun _ _ => rfl) (by simp) hb (ok_one (by kernel_rfl) rfl (okWide_bool_mk Tryz.underlying4 true))⟩
/-- The law WalkTrails holds of every input. -/
theorem walkTrails_holds : Rows.WalkTrailsSaid :=
  OpenClaim.holds_of_wide 4 Tryz.f4 rfl rfl rfl rfl rfl rfl rfl ⟨rfl, rfl, rfl, rfl, rfl⟩ rfl rfl rfl rfl rfl (by kernel_rfl) Tryz.func4 (by kernel_rfl)
    (of_decide_eq_true (by kernel_rfl)) (by unfold Func.isWrapper; rw [if_neg (of_decide_eq_false (by kernel_rfl))]; exact ⟨rfl, rfl⟩)
    (fun os started H enc _ => walkTrails_lifted os started H enc)
end Go.Proofs.YtmobnmjjmafibaaGreat
