/- Each point of a square is in one triangle's inside, on the edge of two or one at the rim, or a corner of its star; nothing without the square is: the law WalkCovers of package hectarelaw6 answers true at every input; no conditions. -/
import Derived.Test.YtmobnmjjmafibaaGreatPut13
import Derived.Test.YtmobnmjjmafibaaGreatPut14
import Derived.ProofKit
import Derived.WideKeyArgs
namespace Go.Proofs.YtmobnmjjmafibaaGreat
open Go.RowKit Go.Sort Go.ChangeShapes Go.WideShapes Go.ChangeAt
theorem wc_any (s : Int) (a0 : Option Addr) (n c0 : Nat) (P : List Int) (hP : P.length = n) (p x y : Int) (w : World) (h0 : RowAt cI 1 w a0 P) :
    Calls Tryz.prog 3 #[.int .i64 s, .slice a0 n c0, .int .i64 p, .int .i64 x, .int .i64 y] w fun e w' => e = .returned (.bool true) ∧ Below w.heap.size w w' := by
  cases hf : (decide (1 ≤ s) && (decide (s ≤ 40) && (decide (n ≤ 25) && decide (0 ≤ 12)))) with
  | false => exact wc_no s a0 n c0 p x y hf w
  | true =>
    simp at hf
    exact wc_yes s (by omega) hf.2.1 a0 n c0 hf.2.2 P (Lib.hid hP) p x y w h0
set_option maxRecDepth 100000 in
theorem walkCovers_lifted (os : Os) (started : os.Started) (H : Type) (enc : TypeId × Value → H) :
    ReturnsInHanded {} Tryz.checked os 3 .any (Rows.walkCoversSpec.pre6 enc Tryz.prog Tryz.f3 Rows.walkCoversRow.domain false) (Rows.walkCoversSpec.post enc Tryz.prog Tryz.f3 false true false false) := by
  refine returnsInHanded_of_change (C := Tryz.checked) Tryz.own started (by kernel_rfl) Tryz.func3
    (ChangeSpec.witness6 (enc := enc) (C := Tryz.checked) false ⟨#[], #[.int .i64 0, .slice none 0 0, .int .i64 0, .int .i64 0, .int .i64 0], []⟩ 8 (by kernel_rfl) (by kernel_rfl) (by kernel_rfl) (by kernel_rfl)) ?_
  intro W base args ds gs before hval0 hW hcnd _
  have hval : ∀ (j : Nat) t v, Tryz.f3.params[j]? = some t → args[j]? = some v → Value.okWide Tryz.prog W .any base t v := hval0
  have hW' := hW
  obtain ⟨p, q, hA0, hV, rfl, hfz, hnd⟩ := hW
  have hA : DataW.TrodAll enc Tryz.prog W 0 (fun _ => true) true Tryz.f3.params.toList args.toList ds p := hA0
  rw [Tryz.params3] at hA hval
  obtain ⟨v0, v1, v2, v3, v4, d0, d1, d2, d3, d4, q0, q1, q2, q3, q4, rfl, rfl, rfl, p0, p1, p2, p3, p4⟩ := trodAll_five hA
  obtain ⟨rfl, rfl⟩ := trodVars_none hV
  obtain ⟨s, rfl, rfl, rfl, ws⟩ := open_int Tryz.underlying3 (hval 0 3 v0 rfl rfl) p0
  have p1k := p1
  obtain ⟨a1, n1, cap1, P, rfl, hL1, hrow1⟩ := open_rowI (hval 1 22 v1 rfl rfl) p1
  obtain ⟨pp, rfl, rfl, rfl, wpp⟩ := open_int Tryz.underlying3 (hval 2 3 v2 rfl rfl) p2
  obtain ⟨x, rfl, rfl, rfl, wx⟩ := open_int Tryz.underlying3 (hval 3 3 v3 rfl rfl) p3
  obtain ⟨y, rfl, rfl, rfl, wy⟩ := open_int Tryz.underlying3 (hval 4 3 v4 rfl rfl) p4
  clear hA0 hval0
  simp only [List.append_nil, List.nil_append] at hW'
  refine (wc_any s a1 n1 cap1 P hL1 pp x y W hrow1).mono fun e W' ⟨he, hb⟩ => ?_
  subst he
  exact ⟨_, rfl, post_of_below (pa := ([] ++ (q1 ++ ([] ++ ([] ++ []))))) (pv := []) hW' (fun _ _ _ => trodAll_mk1 (shut_bool Tryz.underlying4 true)) (fun sp hsp => by
    have h := trodAll_mk5 (P := Tryz.prog) (enc := enc) (w := W') (base := 0) (spare := sp) (held := true) (shut_int Tryz.underlying3 ws) (WideElems.Trod_stays (by kernel_rfl) (by kernel_rfl) (of_decide_eq_true (by kernel_rfl)) p1k (fun x hx => hb.same (by simpa using hW'.lt x (by simpa using hx))) (fun x hx => hsp x (by simpa using hx))) (shut_int Tryz.underlying3 wpp) (shut_int Tryz.underlying3 wx) (shut_int Tryz.underlying3 wy)
    exact h) (fun _ _ => rfl) (by simp) hb (ok_one (by kernel_rfl) rfl (okWide_bool_mk Tryz.underlying4 true))⟩
/-- The law WalkCovers holds of every input. -/
theorem walkCovers_holds : Rows.WalkCoversSaid :=
  OpenClaim.holds_of_wide 3 Tryz.f3 rfl rfl rfl rfl rfl rfl rfl ⟨rfl, rfl, rfl, rfl, rfl⟩ rfl rfl rfl rfl rfl (by kernel_rfl) Tryz.func3 (by kernel_rfl)
    (of_decide_eq_true (by kernel_rfl)) (by unfold Func.isWrapper; rw [if_neg (of_decide_eq_false (by kernel_rfl))]; exact ⟨rfl, rfl⟩)
    (fun os started H enc _ => walkCovers_lifted os started H enc)
end Go.Proofs.YtmobnmjjmafibaaGreat
