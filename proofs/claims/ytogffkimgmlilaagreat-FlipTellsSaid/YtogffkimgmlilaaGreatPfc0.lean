/- Put together: FixS. -/
import Derived.Test.YtogffkimgmlilaaGreatPfb46
set_option linter.all false
namespace Go.Proofs.YtogffkimgmlilaaGreat
open Go.RowKit
/-- All walls are edges. -/
def allE (D : List Wl) (L : List Tri3) : Prop := ∀ x ∈ D, edgeL L x.A x.B
theorem wll_in {D : List Wl} {L : List Tri3} (h : allE D L) {a b : Pt} (k : wll D a b) : (a, b) ∈ L.flatMap ways ∨ (b, a) ∈ L.flatMap ways := by
 unfold wll kindD at k
 cases hf : D.find? (isE a b) with
 | none => rw [hf] at k; exact absurd rfl k
 | some x =>
  have he := List.find?_some hf
  have h2 := h x (List.mem_of_find?_eq_some hf)
  unfold isE at he
  simp only [Bool.or_eq_true, Bool.and_eq_true, decide_eq_true_eq] at he
  rcases he with ⟨rfl, rfl⟩ | ⟨rfl, rfl⟩
  ·exact h2
  ·exact h2.elim .inr .inl
/-- Two meshes without a bad edge, of the same points and walls, have the same triangles. -/
theorem fix_sub {s : Int} (h0 : 0 < s) (h1 : s < 16777216) {D : List Wl} {L1 L2 : List Tri3} {E1 E2 : Es} (g1 : Good E1 L1) (g2 : Good E2 L2) (f1 : Fixed s s (wll D) L1) (f2 : Fixed s s (wll D) L2) (e1 : allE D L1) (e2 : allE D L2) (c : ∀ p, someC L1 p ↔ someC L2 p) : ∀ T ∈ L2, T ∈ L1 := fun T hT => by
 obtain ⟨T1, hT1, hc⟩ := one_mesh h0 h0 h1 h1 f1 f2 (fun _ _ _ _ _ _ _ _ _ _ k => wll_in e2 k) (fun _ _ _ _ _ _ _ _ _ _ k => wll_in e1 k) (fun S hS p hp => (c p).1 ⟨S, hS, hp⟩) (fun S hS p hp => (c p).2 ⟨S, hS, hp⟩) hT
 rw [← val_cyc (g1.val T1 hT1) (g2.val T hT) hc]
 exact hT1
theorem fix_same {s : Int} (h0 : 0 < s) (h1 : s < 16777216) {D : List Wl} {L1 L2 : List Tri3} {E1 E2 : Es} (g1 : Good E1 L1) (g2 : Good E2 L2) (f1 : Fixed s s (wll D) L1) (f2 : Fixed s s (wll D) L2) (e1 : allE D L1) (e2 : allE D L2) (c : ∀ p, someC L1 p ↔ someC L2 p) : srt cmpT (heads (fun _ => true) E1) = srt cmpT (heads (fun _ => true) E2) := by
 have hp : L1.Perm L2 := (List.perm_ext_iff_of_nodup (zJ1 g1.once) (zJ1 g2.once)).2 fun T => ⟨fix_sub h0 h1 g2 g1 f2 f1 e2 e1 (fun p => (c p).symm) T, fix_sub h0 h1 g1 g2 f1 f2 e1 e2 c T⟩
 exact wholeT.srt_of_perm ((g1.heads.trans hp).trans g2.heads.symm)
/-- What is told of each bad edge. -/
theorem fb_facts {W H : Int} (hW : W < 16777216) (hH : H < 16777216) {E : Es} {L : List Tri3} {D : List Wl} (g : Good E L) (t : Tiles W H L) (hg : ∀ x ∈ D, GoodW x) : ∀ x ∈ FB E D, (∃ X, lftE E x.A x.B = (X, true)) ∧ (∃ Y, lftE E x.B x.A = (Y, true)) ∧ kindW D (lo2 x.A x.B) (hi2 x.A x.B) = 0 ∧ okW (x.A, x.B) ∧ okW (x.B, x.A) ∧ x.K = 1 := by
 intro x hx
 obtain ⟨hk, _, hb⟩ := (FB_mem hW hH g t hg).1 hx
 have ho := FB_okW hW hH g t hg (x.A, x.B) (List.mem_map.2 ⟨x, hx, rfl⟩)
 unfold badP at hb
 simp only [Bool.and_eq_true, decide_eq_true_eq] at hb
 obtain ⟨h1, h2, h3, _⟩ := hb
 exact ⟨⟨_, Prod.ext rfl h1⟩, ⟨_, Prod.ext rfl h2⟩, h3, ho, ⟨ho.2, ho.1⟩, hk⟩
end Go.Proofs.YtogffkimgmlilaaGreat
