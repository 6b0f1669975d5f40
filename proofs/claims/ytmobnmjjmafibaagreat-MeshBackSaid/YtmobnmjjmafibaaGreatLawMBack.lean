/- An edge that was flipped, and flipped again, is where it was; the corners and the area stay: the law MeshBack of package hectarelaw5 answers true at every input; no conditions. -/
import Derived.Test.YtmobnmjjmafibaaGreatPub9
import Derived.ProofKit
import Derived.WideKeyArgs
namespace Go.Proofs.YtmobnmjjmafibaaGreat
open Go.RowKit Go.Sort Go.ChangeShapes Go.WideShapes Go.ChangeAt
theorem mb_any (s : Int) (a0 : Option Addr) (n c0 : Nat) (P : List Int) (hP : P.length = n) (at1 kn : Int) (w : World) (h0 : RowAt cI 1 w a0 P) :
    Calls Tryz.prog 8 #[.int .i64 s, .slice a0 n c0, .int .i64 at1, .int .i64 kn] w fun e w' => e = .returned (.bool true) ∧ Below w.heap.size w w' := by
  by_cases hf : s < 1 ∨ 30 < s ∨ 15 < n
  · exact mb_no s a0 n c0 at1 kn hf w
  · exact mb_yes s (by omega) (by omega) a0 n c0 (by omega) P (Lib.hid hP) at1 kn w h0
set_option maxRecDepth 100000 in
theorem meshBack_lifted (os : Os) (started : os.Started) (H : Type) (enc : TypeId × Value → H) :
    ReturnsInHanded {} Tryz.checked os 8 .any (Rows.meshBackSpec.pre6 enc Tryz.prog Tryz.f8 Rows.meshBackRow.domain false) (Rows.meshBackSpec.post enc Tryz.prog Tryz.f8 false true false false) := by
  refine returnsInHanded_of_change (C := Tryz.checked) Tryz.own started (by kernel_rfl) Tryz.func8
    (ChangeSpec.witness6 (enc := enc) (C := Tryz.checked) false ⟨#[], #[.int .i64 0, .slice none 0 0, .int .i64 0, .int .i64 0], []⟩ 8 (by kernel_rfl) (by kernel_rfl) (by kernel_rfl) (by kernel_rfl)) ?_
  intro W base args ds gs before hval0 hW hcnd _
  have hval : ∀ (j : Nat) t v, Tryz.f8.params[j]? = some t → args[j]? = some v → Value.okWide Tryz.prog W .any base t v := hval0
  have hW' := hW
  obtain ⟨p, q, hA0, hV, rfl, hfz, hnd⟩ := hW
  have hA : DataW.TrodAll enc Tryz.prog W 0 (fun _ => true) true Tryz.f8.params.toList args.toList ds p := hA0
  rw [Tryz.params8] at hA hval
  obtain ⟨v0, v1, v2, v3, d0, d1, d2, d3, q0, q1, q2, q3, rfl, rfl, rfl, p0, p1, p2, p3⟩ := trodAll_four hA
  obtain ⟨rfl, rfl⟩ := trodVars_none hV
  obtain ⟨s, rfl, rfl, rfl, ws⟩ := open_int Tryz.underlying3 (hval 0 3 v0 rfl rfl) p0
  have p1k := p1
  obtain ⟨a1, n1, cap1, P, rfl, hL1, hrow1⟩ := open_rowI (hval 1 22 v1 rfl rfl) p1
  obtain ⟨at1, rfl, rfl, rfl, wat1⟩ := open_int Tryz.underlying3 (hval 2 3 v2 rfl rfl) p2
  obtain ⟨kn, rfl, rfl, rfl, wkn⟩ := open_int Tryz.underlying3 (hval 3 3 v3 rfl rfl) p3
  clear hA0 hval0
  simp only [List.append_nil, List.nil_append] at hW'
  refine (mb_any s a1 n1 cap1 P hL1 at1 kn W hrow1).mono fun e W' ⟨he, hb⟩ => ?_
  subst he
  exact ⟨_, rfl, post_of_below (pa := ([] ++ (q1 ++ ([] ++ [])))) (pv := []) hW' (fun _ _ _ => trodAll_mk1 (shut_bool Tryz.underlying4 true)) (fun sp hsp => by
    have h := trodAll_mk4 (P := Tryz.prog) (enc := enc) (w := W') (base := 0) (spare := sp) (held := true) (shut_int Tryz.underlying3 ws) (WideElems.Trod_stays (by kernel_rfl) (by kernel_rfl) (of_decide_eq_true (by kernel_rfl)) p1k (fun x hx => hb.same (by simpa using hW'.lt x (by simpa using hx))) (fun x hx => hsp x (by simpa using hx))) (shut_int Tryz.underlying3 wat1) (shut_int Tryz.underlying3 wkn)
    exact h) (fun _ _ => rfl) (by simp) hb (ok_one (by kernel_rfl) rfl (okWide_bool_mk Tryz.underlying4 true))⟩
/-- The law MeshBack holds of every input. -/
theorem meshBack_holds : Rows.MeshBackSaid :=
  OpenClaim.holds_of_wide 8 Tryz.f8 rfl rfl rfl rfl rfl rfl rfl ⟨rfl, rfl, rfl, rfl, rfl⟩ rfl rfl rfl rfl rfl (by kernel_rfl) Tryz.func8 (by kernel_rfl)
    (of_decide_eq_true (by kernel_rfl)) (by unfold Func.isWrapper; rw [if_neg (of_decide_eq_false (by kernel_rfl))]; exact ⟨rfl, rfl⟩)
    (fun os started H enc _ => meshBack_lifted os started H enc)
end Go.Proofs.YtmobnmjjmafibaaGreat
