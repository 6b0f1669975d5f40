/- Each triangle is in the stars of its three corners and in no other, and a star is closed just where no rim is: the law WalkStars of package hectarelaw6 answers true at every input; no conditions. -/
import Derived.Test.YtmobnmjjmafibaaGreatPut13
import Derived.Test.YtmobnmjjmafibaaGreatPut15
import Derived.ProofKit
import Derived.WideKeyArgs
namespace Go.Proofs.YtmobnmjjmafibaaGreat
open Go.RowKit Go.Sort Go.ChangeShapes Go.WideShapes Go.ChangeAt
theorem ws_any (s : Int) (a0 : Option Addr) (n c0 : Nat) (P : List Int) (hP : P.length = n) (w : World) (h0 : RowAt cI 1 w a0 P) :
    Calls Tryz.prog 5 #[.int .i64 s, .slice a0 n c0] w fun e w' => e = .returned (.bool true) ∧ Below w.heap.size w w' := by
  cases hf : (decide (1 ≤ s) && (decide (s ≤ 40) && (decide (n ≤ 25) && decide (0 ≤ 12)))) with
  | false => exact ws_no s a0 n c0 hf w
  | true =>
    simp at hf
    exact ws_yes s (by omega) hf.2.1 a0 n c0 hf.2.2 P (Lib.hid hP) w h0
set_option maxRecDepth 100000 in
theorem walkStars_lifted (os : Os) (started : os.Started) (H : Type) (enc : TypeId × Value → H) :
    ReturnsInHanded {} Tryz.checked os 5 .any (Rows.walkStarsSpec.pre6 enc Tryz.prog Tryz.f5 Rows.walkStarsRow.domain false) (Rows.walkStarsSpec.post enc Tryz.prog Tryz.f5 false true false false) := by
  refine returnsInHanded_of_change (C := Tryz.checked) Tryz.own started (by kernel_rfl) Tryz.func5
    (ChangeSpec.witness6 (enc := enc) (C := Tryz.checked) false ⟨#[], #[.int .i64 0, .slice none 0 0], []⟩ 8 (by kernel_rfl) (by kernel_rfl) (by kernel_rfl) (by kernel_rfl)) ?_
  intro W base args ds gs before hval0 hW hcnd _
  have hval : ∀ (j : Nat) t v, Tryz.f5.params[j]? = some t → args[j]? = some v → Value.okWide Tryz.prog W .any base t v := hval0
  have hW' := hW
  obtain ⟨p, q, hA0, hV, rfl, hfz, hnd⟩ := hW
  have hA : DataW.TrodAll enc Tryz.prog W 0 (fun _ => true) true Tryz.f5.params.toList args.toList ds p := hA0
  rw [Tryz.params5] at hA hval
  obtain ⟨v0, v1, d0, d1, q0, q1, rfl, rfl, rfl, p0, p1⟩ := trodAll_two hA
  obtain ⟨rfl, rfl⟩ := trodVars_none hV
  obtain ⟨s, rfl, rfl, rfl, ws⟩ := open_int Tryz.underlying3 (hval 0 3 v0 rfl rfl) p0
  have p1k := p1
  obtain ⟨a1, n1, cap1, P, rfl, hL1, hrow1⟩ := open_rowI (hval 1 22 v1 rfl rfl) p1
  clear hA0 hval0
  simp only [List.append_nil, List.nil_append] at hW'
  refine (ws_any s a1 n1 cap1 P hL1 W hrow1).mono fun e W' ⟨he, hb⟩ => ?_
  subst he
  exact ⟨_, rfl, post_of_below (pa := ([] ++ q1)) (pv := []) hW' (fun _ _ _ => trodAll_mk1 (shut_bool Tryz.underlying4 true)) (fun sp hsp => by
    have h := trodAll_mk2 (P := Tryz.prog) (enc := enc) (w := W') (base := 0) (spare := sp) (held := true) (shut_int Tryz.underlying3 ws) (WideElems.Trod_stays (by kernel_rfl) (by kernel_rfl) (of_decide_eq_true (by kernel_rfl)) p1k (fun x hx => hb.same (by simpa using hW'.lt x (by simpa using hx))) (fun x hx => hsp x (by simpa using hx)))
    exact h) (fun _ _ => rfl) (by simp) hb (ok_one (by kernel_rfl) rfl (okWide_bool_mk Tryz.underlying4 true))⟩
/-- The law WalkStars holds of every input. -/
theorem walkStars_holds : Rows.WalkStarsSaid :=
  OpenClaim.holds_of_wide 5 Tryz.f5 rfl rfl rfl rfl rfl rfl rfl ⟨rfl, rfl, rfl, rfl, rfl⟩ rfl rfl rfl rfl rfl (by kernel_rfl) Tryz.func5 (by kernel_rfl)
    (of_decide_eq_true (by kernel_rfl)) (by unfold Func.isWrapper; rw [if_neg (of_decide_eq_false (by kernel_rfl))]; exact ⟨rfl, rfl⟩)
    (fun os started H enc _ => walkStars_lifted os started H enc)
end Go.Proofs.YtmobnmjjmafibaaGreat
