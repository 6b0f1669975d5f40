/- A region that draws its order, walked by a script that stands here once. -/
import Derived.Test.YtijdbddjhnjcdaaPost
import Derived.Test.YtijdbddjhnjcdaaSto
import Derived.KernelRfl
import Derived.WalkKit
import Derived.RegionTactic
namespace Go.Proofs.Ytijdbddjhnjcdaa
open Go.RowKit Go.Sort
theorem rgn {P : Program} {id : Nat} {Q : Exit → Act → World → Prop} {a A : Act} {w : World} {l r : List Oper} (n : Nat)
    (k : ∀ w', Below w.heap.size w w' → wpList P l.toArray Q r A w')
    (hm : P.follows .mixedOrders = true := by kernel_rfl) (hB : plainB .any l.toArray n = true := by kernel_rfl)
    (hr : l.drop n = r := by (simp only [List.drop_succ_cons, List.drop_zero]; try rfl))
    (h : rWalk P l.toArray (fun w' => ∃ p : Regrown, w' = grow (redrawn w p.d) p.os) (fun a' => a' = A) (l.take n) a := by
      simp only [List.take_succ_cons, List.take_zero]
      repeat (first | (refine rWalk_skip (Eq.refl false) ?_; simp only [Act.put, List.setIfInBounds_toArray, List.set_cons_succ, List.set_cons_zero]) | (refine rWalk_step (fun K hK => ?_); go_simp; first | (refine hK _ ?_; clear hK K) | (apply Exists.intro; refine ⟨fun _ => ?_, hK _ ?_⟩; (with_reducible exact toExt (by assumption) _); clear hK K)))
      exact rWalk_nil rfl) : (Code.region id l.toArray true).wp P Q a w := by
  refine wp_region_tail n hm hB (fun w' h => regrown_of_below h) ?_
  rw [hr]
  have aux : ∀ (L : List Oper) (b : Act) (C : World → Prop), rWalk P l.toArray C (fun a' => a' = A) L b → rWalk P l.toArray C (fun a' => ∀ w', Below w.heap.size w w' → wpList P l.toArray Q r a' w') L b := by
    intro L
    induction L with
    | nil => intro b C h; simp only [rWalk] at h ⊢; rw [h]; exact k
    | cons o rest ih =>
      intro b C h
      simp only [rWalk] at h ⊢
      split
      · rename_i hw
        rw [if_pos hw] at h
        obtain ⟨v, h1, h2⟩ := h
        exact ⟨v, h1, ih _ _ h2⟩
      · rename_i hw
        rw [if_neg hw] at h
        exact ih _ _ h
  exact aux _ _ _ h
end Go.Proofs.Ytijdbddjhnjcdaa
