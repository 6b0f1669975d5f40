/- In any mesh of a square, of any points those that have one, stand around it, and go along a way, are as the document says: the law WalkTells of package hectarelaw6 answers true at every input; no conditions. -/
import Derived.Test.YtmobnmjjmafibaaGreatPuw10
import Derived.Test.YtmobnmjjmafibaaGreatPuw13
import Derived.ProofKit
import Derived.WideKeyArgs
import Derived.Lib.SmallJoins
namespace Go.Proofs.YtmobnmjjmafibaaGreat
open Go.RowKit Go.Sort Go.ChangeShapes Go.WideShapes Go.ChangeAt
theorem wk_any (s : Int) (a0 : Option Addr) (n c0 : Nat) (P : List Int) (hP : P.length = n) (a1 : Option Addr) (m0 c1 : Nat) (Q : List Pt) (hQ : Q.length = m0) (p q : Pt) (w : World) (h0 : RowAt cI 1 w a0 P) (h1 : RowAt cP 2 w a1 Q) :
    Calls Tryz.prog 6 #[.int .i64 s, .slice a0 n c0, .slice a1 m0 c1, .agg #[.int .i64 p.x, .int .i64 p.y], .agg #[.int .i64 q.x, .int .i64 q.y]] w fun e w' => e = .returned (.bool true) ∧ Below w.heap.size w w' := by
  cases hf : (decide (1 ≤ s) && (decide (s ≤ 40) && (decide (n ≤ 25) && decide (m0 ≤ 12)))) with
  | false => exact wk_no s a0 a1 n m0 c0 c1 p q hf w
  | true =>
    simp only [Bool.and_eq_true, decide_eq_true_eq] at hf
    exact wk_yes s (by omega) hf.2.1 a0 a1 n m0 c0 c1 hf.2.2.1 hf.2.2.2 P (Lib.hid hP) Q (Lib.hid hQ) p q w h0 h1
set_option maxRecDepth 100000 in
theorem walkTells_lifted (os : Os) (started : os.Started) (H : Type) (enc : TypeId × Value → H) :
    ReturnsInHanded {} Tryz.checked os 6 .any (Rows.walkTellsSpec.pre6 enc Tryz.prog Tryz.f6 Rows.walkTellsRow.domain false) (Rows.walkTellsSpec.post enc Tryz.prog Tryz.f6 false true false false) := by
  refine returnsInHanded_of_change (C := Tryz.checked) Tryz.own started (by kernel_rfl) Tryz.func6
    (ChangeSpec.witness6 (enc := enc) (C := Tryz.checked) false ⟨#[], #[.int .i64 0, .slice none 0 0, .slice none 0 0, .agg #[.int .i64 0, .int .i64 0], .agg #[.int .i64 0, .int .i64 0]], []⟩ 8 (by kernel_rfl) (by kernel_rfl) (by kernel_rfl) (by kernel_rfl)) ?_
  intro W base args ds gs before hval0 hW hcnd _
  have hval : ∀ (j : Nat) t v, Tryz.f6.params[j]? = some t → args[j]? = some v → Value.okWide Tryz.prog W .any base t v := hval0
  have hW' := hW
  obtain ⟨p, q, hA0, hV, rfl, hfz, hnd⟩ := hW
  have hA : DataW.TrodAll enc Tryz.prog W 0 (fun _ => true) true Tryz.f6.params.toList args.toList ds p := hA0
  rw [Tryz.params6] at hA hval
  obtain ⟨v0, v1, v2, v3, v4, d0, d1, d2, d3, d4, q0, q1, q2, q3, q4, rfl, rfl, rfl, p0, p1, p2, p3, p4⟩ := trodAll_five hA
  obtain ⟨rfl, rfl⟩ := trodVars_none hV
  obtain ⟨s, rfl, rfl, rfl, ws⟩ := open_int Tryz.underlying3 (hval 0 3 v0 rfl rfl) p0
  have p1k := p1
  obtain ⟨a1, n1, cap1, P, rfl, hL1, hrow1⟩ := open_rowI (hval 1 22 v1 rfl rfl) p1
  have p2k := p2
  obtain ⟨a2, n2, cap2, Q, rfl, hL2, hrow2⟩ := open_rowP2 (hval 2 55 v2 rfl rfl) p2
  obtain ⟨c3, e3, y3, z3, m3, rfl, rfl, rfl, hy3, hz3⟩ := Joins.open_agg2 Tryz.underlying30 (by kernel_rfl) (by kernel_rfl) (hval 3 30 v3 rfl rfl) p3
  obtain ⟨xp, f3, rfl, wxp⟩ := DataW.trod_int Tryz.underlying3 hy3
  obtain ⟨yp, g3, rfl, wyp⟩ := DataW.trod_int Tryz.underlying3 hz3
  simp at f3 g3
  subst f3 g3
  obtain ⟨c4, e4, y4, z4, m4, rfl, rfl, rfl, hy4, hz4⟩ := Joins.open_agg2 Tryz.underlying30 (by kernel_rfl) (by kernel_rfl) (hval 4 30 v4 rfl rfl) p4
  obtain ⟨xq, f4, rfl, wxq⟩ := DataW.trod_int Tryz.underlying3 hy4
  obtain ⟨yq, g4, rfl, wyq⟩ := DataW.trod_int Tryz.underlying3 hz4
  simp at f4 g4
  subst f4 g4
  clear hA0 hval0
  simp only [List.append_nil, List.nil_append] at hW'
  refine (wk_any s a1 n1 cap1 P hL1 a2 n2 cap2 Q hL2 ⟨xp, yp⟩ ⟨xq, yq⟩ W hrow1 hrow2).mono fun e W' ⟨he, hb⟩ => ?_
  subst he
  exact ⟨_, rfl, post_of_below (pa := ([] ++ (q1 ++ (q2 ++ ([] ++ []))))) (pv := []) hW' (fun _ _ _ => trodAll_mk1 (shut_bool Tryz.underlying4 true)) (fun sp hsp => by
    have h := trodAll_mk5 (P := Tryz.prog) (enc := enc) (w := W') (base := 0) (spare := sp) (held := true) (shut_int Tryz.underlying3 ws) (WideElems.Trod_stays (by kernel_rfl) (by kernel_rfl) (of_decide_eq_true (by kernel_rfl)) p1k (fun x hx => hb.same (by simpa using hW'.lt x (by simp [hx]))) (fun x hx => hsp x (by simp [hx]))) (WideElems.Trod_stays (by kernel_rfl) (by kernel_rfl) (of_decide_eq_true (by kernel_rfl)) p2k (fun x hx => hb.same (by simpa using hW'.lt x (by simp [hx]))) (fun x hx => hsp x (by simp [hx]))) (shut_pt wxp wyp) (shut_pt wxq wyq)
    exact h) (fun _ _ => rfl) (by simp) hb (ok_one (by kernel_rfl) rfl (okWide_bool_mk Tryz.underlying4 true))⟩
/-- The law WalkTells holds of every input. -/
theorem walkTells_holds : Rows.WalkTellsSaid :=
  OpenClaim.holds_of_wide 6 Tryz.f6 rfl rfl rfl rfl rfl rfl rfl ⟨rfl, rfl, rfl, rfl, rfl⟩ rfl rfl rfl rfl rfl (by kernel_rfl) Tryz.func6 (by kernel_rfl)
    (of_decide_eq_true (by kernel_rfl)) (by unfold Func.isWrapper; rw [if_neg (of_decide_eq_false (by kernel_rfl))]; exact ⟨rfl, rfl⟩)
    (fun os started H enc _ => walkTells_lifted os started H enc)
end Go.Proofs.YtmobnmjjmafibaaGreat
