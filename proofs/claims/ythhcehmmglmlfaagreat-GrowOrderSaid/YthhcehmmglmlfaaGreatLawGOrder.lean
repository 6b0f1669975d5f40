/- Points that come in another order make the same mesh, and the same walls: the law GrowOrder of package hectarelaw9 answers true at every input; no conditions. -/
import Derived.Test.YthhcehmmglmlfaaGreatPgo8
import Derived.Test.YthhcehmmglmlfaaGreatPgo12
import Derived.ProofKit
import Derived.WideKeyArgs
import Derived.Lib.SmallJoins
namespace Go.Proofs.YthhcehmmglmlfaaGreat
open Go.RowKit Go.Sort Go.ChangeShapes Go.WideShapes Go.ChangeAt
theorem go_any (s : Int) (a0 : Option Addr) (n c0 : Nat) (P : List Int) (hP : P.length = n) (a2 : Option Addr) (q c2 : Nat) (Q : List Pt) (hQ : Q.length = q) (a1 : Option Addr) (m c1 : Nat) (X : List Int) (hX : X.length = m) (turn : Int) (w : World) (h0 : RowAt cI 1 w a0 P) (hq0 : RowAt cP 2 w a2 Q) (h1 : RowAt cI 1 w a1 X) :
  Calls Tryz.prog 3 #[.int .i64 s, .slice a0 n c0, .slice a2 q c2, .slice a1 m c1, .int .i64 turn] w λe w' => e = .returned (.bool true) /\ Below w.heap.size w w' := by
 cases hf : (decide (1 <= s) && (decide (s <= 40) && (decide (n <= 25) && decide (q <= 12)))) with
 | false => exact go_no s a0 a2 a1 n q m c0 c2 c1 turn hf w
 | true =>
  cases hm : decide ((15 : Int) < (m : Int)) with
  | true => exact go_many s a0 a2 a1 n q m c0 c2 c1 turn hf hm w
  | false =>
   simp at hf hm
   exact go_yes s (by omega) hf.2.1 a0 n c0 hf.2.2.1 P (hdd hP) a2 q c2 hf.2.2.2 Q (hdd hQ) a1 m c1 (by omega) X (hdd hX) turn _ rfl w h0 hq0 h1
set_option maxRecDepth 100000 in
theorem growOrder_lifted (os : Os) (started : os.Started) (H : Type) (enc : TypeId × Value -> H) :
  ReturnsInHanded {} Tryz.checked os 3 .any (Rows.growOrderSpec.pre6 enc Tryz.prog Tryz.f3 Rows.growOrderRow.domain false) (Rows.growOrderSpec.post enc Tryz.prog Tryz.f3 false true false false) := by
 refine returnsInHanded_of_change (C := Tryz.checked) Tryz.own started (by kernel_rfl) Tryz.func3
  (ChangeSpec.witness6 (enc := enc) (C := Tryz.checked) false ⟨#[], #[.int .i64 0, .slice none 0 0, .slice none 0 0, .slice none 0 0, .int .i64 0], []⟩ 8 (by kernel_rfl) (by kernel_rfl) (by kernel_rfl) (by kernel_rfl)) ?_
 intro W base args ds gs before hval0 hW hcnd _
 have hval : ∀ (j : Nat) t v, Tryz.f3.params[j]? = some t -> args[j]? = some v -> Value.okWide Tryz.prog W .any base t v := hval0
 have hW' := hW
 obtain ⟨p, q, hA0, hV, rfl, hfz, hnd⟩ := hW
 have hA : DataW.TrodAll enc Tryz.prog W 0 (λ_ => true) true Tryz.f3.params.toList args.toList ds p := hA0
 rw [Tryz.params3] at hA hval
 obtain ⟨v0, v1, v2, v3, v4, d0, d1, d2, d3, d4, q0, q1, q2, q3, q4, rfl, rfl, rfl, p0, p1, p2, p3, p4⟩ := trodAll_five hA
 obtain ⟨rfl, rfl⟩ := trodVars_none hV
 obtain ⟨s, rfl, rfl, rfl, ws⟩ := open_int Tryz.underlying3 (hval 0 3 v0 rfl rfl) p0
 have p1k := p1
 obtain ⟨a1, n1, cap1, P, rfl, hL1, hrow1⟩ := open_rowI (hval 1 22 v1 rfl rfl) p1
 have p2k := p2
 obtain ⟨a2, n2, cap2, Q, rfl, hL2, hrow2⟩ := open_rowP2 (hval 2 23 v2 rfl rfl) p2
 have p3k := p3
 obtain ⟨a3, n3, cap3, X, rfl, hL3, hrow3⟩ := open_rowI (hval 3 22 v3 rfl rfl) p3
 obtain ⟨turn, rfl, rfl, rfl, wturn⟩ := open_int Tryz.underlying3 (hval 4 3 v4 rfl rfl) p4
 clear hA0 hval0
 simp only [List.append_nil, List.nil_append] at hW'
 refine (go_any s a1 n1 cap1 P hL1 a2 n2 cap2 Q hL2 a3 n3 cap3 X hL3 turn W hrow1 hrow2 hrow3).mono λe W' ⟨he, hb⟩ => ?_
 subst he
 exact ⟨_, rfl, post_of_below (pa := ([] ++ (q1 ++ (q2 ++ (q3 ++ []))))) (pv := []) hW' (λ_ _ _ => trodAll_mk1 (shut_bool Tryz.underlying4 true)) (λsp hsp => by
  have h := trodAll_mk5 (P := Tryz.prog) (enc := enc) (w := W') (base := 0) (spare := sp) (held := true) (shut_int Tryz.underlying3 ws) (WideElems.Trod_stays (by kernel_rfl) (by kernel_rfl) (of_decide_eq_true (by kernel_rfl)) p1k (λx hx => hb.same (by simpa using hW'.lt x (by simp [hx]))) (λx hx => hsp x (by simp [hx]))) (WideElems.Trod_stays (by kernel_rfl) (by kernel_rfl) (of_decide_eq_true (by kernel_rfl)) p2k (λx hx => hb.same (by simpa using hW'.lt x (by simp [hx]))) (λx hx => hsp x (by simp [hx]))) (WideElems.Trod_stays (by kernel_rfl) (by kernel_rfl) (of_decide_eq_true (by kernel_rfl)) p3k (λx hx => hb.same (by simpa using hW'.lt x (by simp [hx]))) (λx hx => hsp x (by simp [hx]))) (shut_int Tryz.underlying3 wturn)
  exact h) (λ_ _ => rfl) (by simp) hb (ok_one (by kernel_rfl) rfl (okWide_bool_mk Tryz.underlying4 true))⟩
theorem growOrder_holds : Rows.GrowOrderSaid :=
 OpenClaim.holds_of_wide 3 Tryz.f3 rfl rfl rfl rfl rfl rfl rfl ⟨rfl, rfl, rfl, rfl, rfl⟩ rfl rfl rfl rfl rfl (by kernel_rfl) Tryz.func3 (by kernel_rfl)
  (of_decide_eq_true (by kernel_rfl)) (by unfold Func.isWrapper; rw [if_neg (of_decide_eq_false (by kernel_rfl))]; exact ⟨rfl, rfl⟩)
  (λos started H enc _ => growOrder_lifted os started H enc)
end Go.Proofs.YthhcehmmglmlfaaGreat
