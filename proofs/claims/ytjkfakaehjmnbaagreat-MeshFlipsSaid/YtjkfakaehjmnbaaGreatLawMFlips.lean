/- Whatever is flipped and replaced, each act tells, and the mesh is, as the document says: the law MeshFlips of package hectarelaw5 answers true at every input; no conditions. -/
import Derived.Test.YtjkfakaehjmnbaaGreatPmf17
import Derived.Test.YtjkfakaehjmnbaaGreatPmf19
import Derived.ProofKit
import Derived.WideKeyArgs
import Derived.Lib.SmallJoins
namespace Go.Proofs.YtjkfakaehjmnbaaGreat
open Go.RowKit Go.Sort Go.ChangeShapes Go.WideShapes Go.ChangeAt
theorem row_cap {H : Type} {enc : TypeId × Value → H} {w : World} {b0 : Nat} {base : Nat → Bool} {spare : Bool} {a : Option Addr} {n cap : Nat} {d : DataW H} {p : List MemPlace} (h : DataW.Trod enc Tryz.prog w b0 base spare 24 (.slice a n cap) d p) : n ≤ cap := by
  obtain ⟨fuel, hf⟩ := h
  simp only [Value.cells] at hf
  rcases Deep.open_slice Tryz.underlying24 hf with ⟨hcs, _⟩ | ⟨a, len, cap', m, n', D, Pl, hcs, hb, hl, hm, hmm, hx, hi⟩
  · simp only [List.cons.injEq, Value.slice.injEq, and_true] at hcs
    obtain ⟨_, rfl, rfl⟩ := hcs
    exact Nat.le_refl _
  · simp only [List.cons.injEq, Value.slice.injEq, and_true] at hcs
    obtain ⟨_, rfl, rfl⟩ := hcs
    exact hl
theorem mf_any (s : Int) (a0 : Option Addr) (n c0 : Nat) (P : List Int) (hP : P.length = n) (aa : Option Addr) (na ca : Nat) (X : List Pt) (hX : X.length = na) (am : Option Addr) (nm cm : Nat) (Y : List Tri3) (hY : Y.length = nm) (hok : ∀ T ∈ Y, okT T) (hcm : nm ≤ cm) (w : World) (h0 : RowAt cI 1 w a0 P) (h1 : RowAt cP 2 w aa X) (h2 : RowAt cT 6 w am Y) :
    Calls Tryz.prog 3 #[.int .i64 s, .slice a0 n c0, .slice aa na ca, .slice am nm cm] w fun e w' => e = .returned (.bool true) ∧ Below w.heap.size w w' := by
  by_cases hf : s < 1 ∨ 30 < s ∨ 15 < n ∨ 40 < na ∨ 10 < nm
  · exact mf_no s a0 aa am n na nm c0 ca cm hf w
  · exact mf_yes s (by omega) (by omega) a0 n c0 (by omega) P (Lib.hid hP) aa na ca (Lib.hid (by omega)) X (Lib.hid hX) am nm cm (Lib.hid (by omega)) hcm Y (Lib.hid hY) (Lib.hid hok) w h0 h1 h2
set_option maxRecDepth 100000 in
theorem meshFlips_lifted (os : Os) (started : os.Started) (H : Type) (enc : TypeId × Value → H) :
    ReturnsInHanded {} Tryz.checked os 3 .any (Rows.meshFlipsSpec.pre6 enc Tryz.prog Tryz.f3 Rows.meshFlipsRow.domain false) (Rows.meshFlipsSpec.post enc Tryz.prog Tryz.f3 false true false false) := by
  refine returnsInHanded_of_change (C := Tryz.checked) Tryz.own started (by kernel_rfl) Tryz.func3
    (ChangeSpec.witness6 (enc := enc) (C := Tryz.checked) false ⟨#[], #[.int .i64 0, .slice none 0 0, .slice none 0 0, .slice none 0 0], []⟩ 8 (by kernel_rfl) (by kernel_rfl) (by kernel_rfl) (by kernel_rfl)) ?_
  intro W base args ds gs before hval0 hW hcnd _
  have hval : ∀ (j : Nat) t v, Tryz.f3.params[j]? = some t → args[j]? = some v → Value.okWide Tryz.prog W .any base t v := hval0
  have hW' := hW
  obtain ⟨p, q, hA0, hV, rfl, hfz, hnd⟩ := hW
  have hA : DataW.TrodAll enc Tryz.prog W 0 (fun _ => true) true Tryz.f3.params.toList args.toList ds p := hA0
  rw [Tryz.params3] at hA hval
  obtain ⟨v0, v1, v2, v3, d0, d1, d2, d3, q0, q1, q2, q3, rfl, rfl, rfl, p0, p1, p2, p3⟩ := trodAll_four hA
  obtain ⟨rfl, rfl⟩ := trodVars_none hV
  obtain ⟨s, rfl, rfl, rfl, ws⟩ := open_int Tryz.underlying3 (hval 0 3 v0 rfl rfl) p0
  have p1k := p1
  obtain ⟨a1, n1, cap1, P, rfl, hL1, hrow1⟩ := open_rowI (hval 1 22 v1 rfl rfl) p1
  have p2k := p2
  obtain ⟨a2, n2, cap2, X, rfl, hL2, hrow2⟩ := open_rowP2 (hval 2 23 v2 rfl rfl) p2
  have p3k := p3
  obtain ⟨a3, n3, cap3, Y, rfl, hL3, hrow3, hok3⟩ := open_row (hval 3 24 v3 rfl rfl) p3
  clear hA0 hval0
  simp only [List.append_nil, List.nil_append] at hW'
  refine (mf_any s a1 n1 cap1 P hL1 a2 n2 cap2 X hL2 a3 n3 cap3 Y hL3 hok3 (row_cap p3k) W hrow1 hrow2 hrow3).mono fun e W' ⟨he, hb⟩ => ?_
  subst he
  exact ⟨_, rfl, post_of_below (pa := ([] ++ (q1 ++ (q2 ++ q3)))) (pv := []) hW' (fun _ _ _ => trodAll_mk1 (shut_bool Tryz.underlying4 true)) (fun sp hsp => by
    have h := trodAll_mk4 (P := Tryz.prog) (enc := enc) (w := W') (base := 0) (spare := sp) (held := true) (shut_int Tryz.underlying3 ws) (WideElems.Trod_stays (by kernel_rfl) (by kernel_rfl) (of_decide_eq_true (by kernel_rfl)) p1k (fun x hx => hb.same (by simpa using hW'.lt x (by simp [hx]))) (fun x hx => hsp x (by simp [hx]))) (WideElems.Trod_stays (by kernel_rfl) (by kernel_rfl) (of_decide_eq_true (by kernel_rfl)) p2k (fun x hx => hb.same (by simpa using hW'.lt x (by simp [hx]))) (fun x hx => hsp x (by simp [hx]))) (WideElems.Trod_stays (by kernel_rfl) (by kernel_rfl) (of_decide_eq_true (by kernel_rfl)) p3k (fun x hx => hb.same (by simpa using hW'.lt x (by simp [hx]))) (fun x hx => hsp x (by simp [hx])))
    exact h) (fun _ _ => rfl) (by simp) hb (ok_one (by kernel_rfl) rfl (okWide_bool_mk Tryz.underlying4 true))⟩
/-- The law MeshFlips holds of every input. -/
theorem meshFlips_holds : Rows.MeshFlipsSaid :=
  OpenClaim.holds_of_wide 3 Tryz.f3 rfl rfl rfl rfl rfl rfl rfl ⟨rfl, rfl, rfl, rfl, rfl⟩ rfl rfl rfl rfl rfl (by kernel_rfl) Tryz.func3 (by kernel_rfl)
    (of_decide_eq_true (by kernel_rfl)) (by unfold Func.isWrapper; rw [if_neg (of_decide_eq_false (by kernel_rfl))]; exact ⟨rfl, rfl⟩)
    (fun os started H enc _ => meshFlips_lifted os started H enc)
end Go.Proofs.YtjkfakaehjmnbaaGreat
