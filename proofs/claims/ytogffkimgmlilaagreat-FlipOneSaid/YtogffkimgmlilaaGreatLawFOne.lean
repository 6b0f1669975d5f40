/- Two meshes of the same points and walls, however they were flipped, are one behind the repair, without a bad edge, with all walls, and of the same points: the law FlipOne of package hectarelaw8 answers true at every input; no conditions. -/
import Derived.Test.YtogffkimgmlilaaGreatPfc2
import Derived.ProofKit
import Derived.WideKeyArgs
import Derived.Lib.SmallJoins
namespace Go.Proofs.YtogffkimgmlilaaGreat
open Go.RowKit Go.Sort Go.ChangeShapes Go.WideShapes Go.ChangeAt
theorem fo_any (s : Int) (a0 : Option Addr) (n c0 : Nat) (P : List Int) (hP : P.length = n) (a2 : Option Addr) (q c2 : Nat) (Q : List Pt) (hQ : Q.length = q) (a1 : Option Addr) (m c1 : Nat) (X : List Int) (hX : X.length = m) (a5 : Option Addr) (m5 c5 : Nat) (Y : List Int) (hY : Y.length = m5) (w : World) (h0 : RowAt cI 1 w a0 P) (hq0 : RowAt cP 2 w a2 Q) (h1 : RowAt cI 1 w a1 X) (h5 : RowAt cI 1 w a5 Y) :
    Calls Tryz.prog 4 #[.int .i64 s, .slice a0 n c0, .slice a2 q c2, .slice a1 m c1, .slice a5 m5 c5] w fun e w' => e = .returned (.bool true) ∧ Below w.heap.size w w' := by
  by_cases hf : s < 1 ∨ 40 < s ∨ 25 < n ∨ 12 < q ∨ 40 < m ∨ 40 < m5
  · exact fo_no s a0 a2 a1 a5 n q m m5 c0 c2 c1 c5 hf w
  · exact fo_yes s (by omega) (by omega) a0 n c0 (by omega) P (Lib.hid hP) a2 q c2 (by omega) Q (Lib.hid hQ) a1 m c1 (by omega) X (Lib.hid hX) a5 m5 c5 (by omega) Y (Lib.hid hY) w h0 hq0 h1 h5
set_option maxRecDepth 100000 in
theorem flipOne_lifted (os : Os) (started : os.Started) (H : Type) (enc : TypeId × Value → H) :
    ReturnsInHanded {} Tryz.checked os 4 .any (Rows.flipOneSpec.pre6 enc Tryz.prog Tryz.f4 Rows.flipOneRow.domain false) (Rows.flipOneSpec.post enc Tryz.prog Tryz.f4 false true false false) := by
  refine returnsInHanded_of_change (C := Tryz.checked) Tryz.own started (by kernel_rfl) Tryz.func4
    (ChangeSpec.witness6 (enc := enc) (C := Tryz.checked) false ⟨#[], #[.int .i64 0, .slice none 0 0, .slice none 0 0, .slice none 0 0, .slice none 0 0], []⟩ 8 (by kernel_rfl) (by kernel_rfl) (by kernel_rfl) (by kernel_rfl)) ?_
  intro W base args ds gs before hval0 hW hcnd _
  have hval : ∀ (j : Nat) t v, Tryz.f4.params[j]? = some t → args[j]? = some v → Value.okWide Tryz.prog W .any base t v := hval0
  have hW' := hW
  obtain ⟨p, q, hA0, hV, rfl, hfz, hnd⟩ := hW
  have hA : DataW.TrodAll enc Tryz.prog W 0 (fun _ => true) true Tryz.f4.params.toList args.toList ds p := hA0
  rw [Tryz.params4] at hA hval
  obtain ⟨v0, v1, v2, v3, v4, d0, d1, d2, d3, d4, q0, q1, q2, q3, q4, rfl, rfl, rfl, p0, p1, p2, p3, p4⟩ := trodAll_five hA
  obtain ⟨rfl, rfl⟩ := trodVars_none hV
  obtain ⟨s, rfl, rfl, rfl, ws⟩ := open_int Tryz.underlying3 (hval 0 3 v0 rfl rfl) p0
  have p1k := p1
  obtain ⟨a1, n1, cap1, P, rfl, hL1, hrow1⟩ := open_rowI (hval 1 22 v1 rfl rfl) p1
  have p2k := p2
  obtain ⟨a2, n2, cap2, Q, rfl, hL2, hrow2⟩ := open_rowP2 (hval 2 23 v2 rfl rfl) p2
  have p3k := p3
  obtain ⟨a3, n3, cap3, X, rfl, hL3, hrow3⟩ := open_rowI (hval 3 22 v3 rfl rfl) p3
  have p4k := p4
  obtain ⟨a4, n4, cap4, Y, rfl, hL4, hrow4⟩ := open_rowI (hval 4 22 v4 rfl rfl) p4
  clear hA0 hval0
  simp only [List.append_nil, List.nil_append] at hW'
  refine (fo_any s a1 n1 cap1 P hL1 a2 n2 cap2 Q hL2 a3 n3 cap3 X hL3 a4 n4 cap4 Y hL4 W hrow1 hrow2 hrow3 hrow4).mono fun e W' ⟨he, hb⟩ => ?_
  subst he
  exact ⟨_, rfl, post_of_below (pa := ([] ++ (q1 ++ (q2 ++ (q3 ++ q4))))) (pv := []) hW' (fun _ _ _ => trodAll_mk1 (shut_bool Tryz.underlying4 true)) (fun sp hsp => by
    have h := trodAll_mk5 (P := Tryz.prog) (enc := enc) (w := W') (base := 0) (spare := sp) (held := true) (shut_int Tryz.underlying3 ws) (WideElems.Trod_stays (by kernel_rfl) (by kernel_rfl) (of_decide_eq_true (by kernel_rfl)) p1k (fun x hx => hb.same (by simpa using hW'.lt x (by simp [hx]))) (fun x hx => hsp x (by simp [hx]))) (WideElems.Trod_stays (by kernel_rfl) (by kernel_rfl) (of_decide_eq_true (by kernel_rfl)) p2k (fun x hx => hb.same (by simpa using hW'.lt x (by simp [hx]))) (fun x hx => hsp x (by simp [hx]))) (WideElems.Trod_stays (by kernel_rfl) (by kernel_rfl) (of_decide_eq_true (by kernel_rfl)) p3k (fun x hx => hb.same (by simpa using hW'.lt x (by simp [hx]))) (fun x hx => hsp x (by simp [hx]))) (WideElems.Trod_stays (by kernel_rfl) (by kernel_rfl) (of_decide_eq_true (by kernel_rfl)) p4k (fun x hx => hb.same (by simpa using hW'.lt x (by simp [hx]))) (fun x hx => hsp x (by simp [hx])))
    exact h) (fun _ _ => rfl) (by simp) hb (ok_one (by kernel_rfl) rfl (okWide_bool_mk Tryz.underlying4 true))⟩
/-- The law FlipOne holds of every input. -/
theorem flipOne_holds : Rows.FlipOneSaid :=
  OpenClaim.holds_of_wide 4 Tryz.f4 rfl rfl rfl rfl rfl rfl rfl ⟨rfl, rfl, rfl, rfl, rfl⟩ rfl rfl rfl rfl rfl (by kernel_rfl) Tryz.func4 (by kernel_rfl)
    (of_decide_eq_true (by kernel_rfl)) (by unfold Func.isWrapper; rw [if_neg (of_decide_eq_false (by kernel_rfl))]; exact ⟨rfl, rfl⟩)
    (fun os started H enc _ => flipOne_lifted os started H enc)
end Go.Proofs.YtogffkimgmlilaaGreat
