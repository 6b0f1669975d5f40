/- The contracts of package rights' small functions and of the document's own. -/
import Derived.Test.YtipokakeaboelaaRows
import Derived.Test.YtipokakeaboelaaRtM
import Derived.Test.YtipokakeaboelaaRegion
import Derived.Test.YtipokakeaboelaaPost
import Derived.WalkKit
import Derived.WalkSpells
import Derived.WalkLawsBesides
import Derived.Deep.QuietTactic
import Derived.BigQuiet
import Derived.Lib.Hide
import Derived.Handy
namespace Go.Proofs.Ytipokakeaboelaa
open Go.RowKit Go.Sort
attribute [local go_sem] rOper rAt rUpon cell_set sg_i64 sg_u64 alloc_cell alloc_frozen
attribute [local irreducible] rWalk

def rng (n : Int) : Prop := -9223372036854775808 ≤ n ∧ n ≤ 9223372036854775807
theorem known_any {r : Int} (h : rng r) (w : World) :
    Calls Try.prog 17 #[.int .i64 r] w fun e w' => e = .returned (.bool (kn r)) ∧ Below w.heap.size w w' := by
  rw [← kn_eq h.1 h.2]
  unfold zR
  go_enter Try.func17, Try.ntmps17
  go_wp2
  go_ret
  exact ⟨rfl, by go_grown⟩
theorem vR_kn {r : Int} (h0 : r ≠ 0) : vR r = kn r := by
  unfold vR kn
  rw [show decide (1 ≤ r) = decide (0 ≤ r) by apply decide_eq_decide.2; omega]
theorem valid_any {r : Int} (h : rng r) (w : World) :
    Calls Try.prog 8 #[.int .i64 r] w fun e w' => e = .returned (.bool (vR r)) ∧ Below w.heap.size w w' := by
  have c := known_any h
  by_cases h0 : r = 0
  · subst h0
    go_enter Try.func8, Try.ntmps8
    go_wp2
    go_ret
    exact ⟨rfl, by go_grown⟩
  · rw [vR_kn h0]
    have h1 : (r != 0) = true := by simpa using h0
    go_enter Try.func8, Try.ntmps8
    go_wp2_with (go_at_call 17; refine (c _).mono ?_; rintro e w' ⟨rfl, hb⟩)
    go_ret
    exact ⟨rfl, by go_grown⟩
theorem within_any {a b : Int} (ha : rng a) (hb : rng b) (w : World) :
    Calls Try.prog 9 #[.int .i64 a, .int .i64 b] w fun e w' => e = .returned (.bool (wR a b)) ∧ Below w.heap.size w w' := by
  have ca := valid_any ha
  have cb := valid_any hb
  unfold wR zR
  cases h1 : vR a with
  | false =>
    rw [h1] at ca
    go_enter Try.func9, Try.ntmps9
    go_wp2_with (go_at_call 8; refine (ca _).mono ?_; rintro e w' ⟨rfl, hb⟩)
    go_ret
    exact ⟨rfl, by go_grown⟩
  | true =>
    rw [h1] at ca
    cases h2 : vR b with
    | false =>
      rw [h2] at cb
      go_enter Try.func9, Try.ntmps9
      go_wp2_with fail
      refine (ca _).mono ?_
      rintro e w1 ⟨rfl, g1⟩
      go_wp2_with fail
      refine (cb _).mono ?_
      rintro e w2 ⟨rfl, g2⟩
      go_wp2
      go_ret
      exact ⟨rfl, g1.trans (g2.mono g1.size)⟩
    | true =>
      rw [h2] at cb
      go_enter Try.func9, Try.ntmps9
      go_wp2_with fail
      refine (ca _).mono ?_
      rintro e w1 ⟨rfl, g1⟩
      go_wp2_with fail
      refine (cb _).mono ?_
      rintro e w2 ⟨rfl, g2⟩
      go_wp2
      go_ret
      exact ⟨rfl, g1.trans (g2.mono g1.size)⟩
theorem can_any {r m : Int} (hr : rng r) (w : World) :
    Calls Try.prog 10 #[.int .i64 r, .int .i64 m] w fun e w' => e = .returned (.bool (caR r m)) ∧ Below w.heap.size w w' := by
  have c := known_any hr
  unfold caR zR
  cases h1 : kn r with
  | false =>
    rw [h1] at c
    go_enter Try.func10, Try.ntmps10
    go_wp2_with (go_at_call 17; refine (c _).mono ?_; rintro e w' ⟨rfl, hb⟩)
    go_ret
    exact ⟨rfl, by go_grown⟩
  | true =>
    rw [h1] at c
    go_enter Try.func10, Try.ntmps10
    go_wp2_with (go_at_call 17; refine (c _).mono ?_; rintro e w' ⟨rfl, hb⟩)
    go_ret
    exact ⟨rfl, by go_grown⟩
theorem rwithin_any (n low high : Int) (w : World) :
    Calls Try.prog 16 #[.int .i64 n, .int .i64 low, .int .i64 high] w fun e w' => e = .returned (.bool (decide (low ≤ n) && decide (n ≤ high))) ∧ Below w.heap.size w w' := by
  cases h1 : decide (low ≤ n) with
  | false =>
    have h2 : decide (n ≥ low) = false := h1
    go_enter Try.func16, Try.ntmps16
    go_wp2
    go_ret
    exact ⟨rfl, by go_grown⟩
  | true =>
    have h2 : decide (n ≥ low) = true := h1
    go_enter Try.func16, Try.ntmps16
    go_wp2
    go_ret
    exact ⟨rfl, by go_grown⟩
theorem rvalid_any (r : Int) (w : World) :
    Calls Try.prog 7 #[.int .i64 r] w fun e w' => e = .returned (.bool (vR r)) ∧ Below w.heap.size w w' := by
  have c := rwithin_any r 1 15
  unfold vR
  go_enter Try.func7, Try.ntmps7
  go_wp2_with (go_at_call 16; refine (c _).mono ?_; rintro e w' ⟨rfl, hb⟩)
  go_ret
  exact ⟨rfl, by go_grown⟩
end Go.Proofs.Ytipokakeaboelaa
