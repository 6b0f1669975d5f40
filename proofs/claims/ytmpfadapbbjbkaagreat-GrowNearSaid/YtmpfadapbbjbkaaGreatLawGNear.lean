/- A point that comes changes only triangles in whose circles it lies, all others stay; what is new has it as a corner: the law GrowNear of package hectarelaw9 answers true at every input; no conditions. -/
import Derived.Test.YtmpfadapbbjbkaaGreatPgn3
import Derived.Test.YtmpfadapbbjbkaaGreatPgn6
import Derived.ProofKit
import Derived.WideKeyArgs
import Derived.Lib.SmallJoins
namespace Go.Proofs.YtmpfadapbbjbkaaGreat
open Go.RowKit Go.Sort Go.ChangeShapes Go.WideShapes Go.ChangeAt
theorem gn_any (s : Int) (a0 : Option Addr) (n c0 : Nat) (P : List Int) (hP : P.length = n) (a2 : Option Addr) (q c2 : Nat) (Q : List Pt) (hQ : Q.length = q) (N : Int) (w : World) (h0 : RowAt cI 1 w a0 P) (hq0 : RowAt cP 2 w a2 Q) :
    Calls Tryz.prog 6 #[.int .i64 s, .slice a0 n c0, .slice a2 q c2, .int .i64 N] w fun e w' => e = .returned (.bool true) ∧ Below w.heap.size w w' := by
  cases hf : (decide (1 ≤ s) && (decide (s ≤ 40) && (decide (n ≤ 25) && decide (q ≤ 12)))) with
  | false => exact gn_no s a0 a2 n q c0 c2 N hf w
  | true =>
    simp at hf
    exact gn_yes s (by omega) hf.2.1 a0 n c0 hf.2.2.1 P (hdd hP) a2 q c2 hf.2.2.2 Q (hdd hQ) N w h0 hq0
set_option maxRecDepth 100000 in
theorem growNear_lifted (os : Os) (started : os.Started) (H : Type) (enc : TypeId × Value → H) :
    ReturnsInHanded {} Tryz.checked os 6 .any (Rows.growNearSpec.pre6 enc Tryz.prog Tryz.f6 Rows.growNearRow.domain false) (Rows.growNearSpec.post enc Tryz.prog Tryz.f6 false true false false) := by
  refine returnsInHanded_of_change (C := Tryz.checked) Tryz.own started (by kernel_rfl) Tryz.func6
    (ChangeSpec.witness6 (enc := enc) (C := Tryz.checked) false ⟨#[], #[.int .i64 0, .slice none 0 0, .slice none 0 0, .int .i64 0], []⟩ 8 (by kernel_rfl) (by kernel_rfl) (by kernel_rfl) (by kernel_rfl)) ?_
  intro W base args ds gs before hval0 hW hcnd _
  have hval : ∀ (j : Nat) t v, Tryz.f6.params[j]? = some t → args[j]? = some v → Value.okWide Tryz.prog W .any base t v := hval0
  have hW' := hW
  obtain ⟨p, q, hA0, hV, rfl, hfz, hnd⟩ := hW
  have hA : DataW.TrodAll enc Tryz.prog W 0 (fun _ => true) true Tryz.f6.params.toList args.toList ds p := hA0
  rw [Tryz.params6] at hA hval
  obtain ⟨v0, v1, v2, v3, d0, d1, d2, d3, q0, q1, q2, q3, rfl, rfl, rfl, p0, p1, p2, p3⟩ := trodAll_four hA
  obtain ⟨rfl, rfl⟩ := trodVars_none hV
  obtain ⟨s, rfl, rfl, rfl, ws⟩ := open_int Tryz.underlying3 (hval 0 3 v0 rfl rfl) p0
  have p1k := p1
  obtain ⟨a1, n1, cap1, P, rfl, hL1, hrow1⟩ := open_rowI (hval 1 22 v1 rfl rfl) p1
  have p2k := p2
  obtain ⟨a2, n2, cap2, Q, rfl, hL2, hrow2⟩ := open_rowP2 (hval 2 23 v2 rfl rfl) p2
  obtain ⟨N, rfl, rfl, rfl, wN⟩ := open_int Tryz.underlying3 (hval 3 3 v3 rfl rfl) p3
  clear hA0 hval0
  simp only [List.append_nil, List.nil_append] at hW'
  refine (gn_any s a1 n1 cap1 P hL1 a2 n2 cap2 Q hL2 N W hrow1 hrow2).mono fun e W' ⟨he, hb⟩ => ?_
  subst he
  exact ⟨_, rfl, post_of_below (pa := ([] ++ (q1 ++ (q2 ++ [])))) (pv := []) hW' (fun _ _ _ => trodAll_mk1 (shut_bool Tryz.underlying4 true)) (fun sp hsp => by
    have h := trodAll_mk4 (P := Tryz.prog) (enc := enc) (w := W') (base := 0) (spare := sp) (held := true) (shut_int Tryz.underlying3 ws) (WideElems.Trod_stays (by kernel_rfl) (by kernel_rfl) (of_decide_eq_true (by kernel_rfl)) p1k (fun x hx => hb.same (by simpa using hW'.lt x (by simp [hx]))) (fun x hx => hsp x (by simp [hx]))) (WideElems.Trod_stays (by kernel_rfl) (by kernel_rfl) (of_decide_eq_true (by kernel_rfl)) p2k (fun x hx => hb.same (by simpa using hW'.lt x (by simp [hx]))) (fun x hx => hsp x (by simp [hx]))) (shut_int Tryz.underlying3 wN)
    exact h) (fun _ _ => rfl) (by simp) hb (ok_one (by kernel_rfl) rfl (okWide_bool_mk Tryz.underlying4 true))⟩
/-- The law GrowNear holds of every input. -/
theorem growNear_holds : Rows.GrowNearSaid :=
  OpenClaim.holds_of_wide 6 Tryz.f6 rfl rfl rfl rfl rfl rfl rfl ⟨rfl, rfl, rfl, rfl, rfl⟩ rfl rfl rfl rfl rfl (by kernel_rfl) Tryz.func6 (by kernel_rfl)
    (of_decide_eq_true (by kernel_rfl)) (by unfold Func.isWrapper; rw [if_neg (of_decide_eq_false (by kernel_rfl))]; exact ⟨rfl, rfl⟩)
    (fun os started H enc _ => growNear_lifted os started H enc)
end Go.Proofs.YtmpfadapbbjbkaaGreat
