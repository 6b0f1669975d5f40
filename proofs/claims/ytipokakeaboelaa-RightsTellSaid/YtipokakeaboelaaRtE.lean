/- A capability among the arguments of a law: opened and shut again; Round in general. -/
import Derived.Test.YtipokakeaboelaaRows
import Derived.Test.YtipokakeaboelaaRtA
import Derived.Test.YtipokakeaboelaaTrod
import Derived.Test.YtipokakeaboelaaPost
import Derived.WalkKit
import Derived.WalkSpells
import Derived.WalkLawsBesides
import Derived.Deep.QuietTactic
import Derived.BigQuiet
import Derived.Lib.Hide
import Derived.Handy
import Derived.Carry
import Derived.ProofKit
import Derived.Lib.SmallJoins
import Derived.Deep.Strs
namespace Go.Proofs.Ytipokakeaboelaa
open Go.RowKit Go.Sort Go.ChangeShapes Go.WideShapes Go.ChangeAt
attribute [local go_sem] rOper rAt rUpon cell_set sg_i64 sg_u64 alloc_cell alloc_frozen
attribute [local irreducible] rWalk

theorem round_eq {i n : Int} (hn : 0 < n) (hn2 : n ≤ 4294967296) : (wrap64 (i.tmod n + n)).tmod n = i % n := by
  have h1 : 0 ≤ i % n := Int.emod_nonneg i (by omega)
  have h2 : i % n < n := Int.emod_lt_of_pos i hn
  have h3 : i.tmod n = i % n ∨ i.tmod n = i % n - n := by
    have h := @Int.tmod_eq_emod i n
    split at h
    · left; omega
    · right; rw [h]; omega
  have h4 : wrap64 (i.tmod n + n) = i.tmod n + n := by rw [w64]; omega
  rw [h4, Int.tmod_eq_emod_of_nonneg (by omega)]
  rcases h3 with h | h <;> rw [h]
  · rw [Int.add_emod_right]; exact Int.emod_eq_of_lt h1 h2
  · rw [show i % n - n + n = i % n by omega]; exact Int.emod_eq_of_lt h1 h2
theorem round_gen {i n : Int} (hn : 0 < n) (hn2 : n ≤ 4294967296) (w : World) :
    Calls Try.prog 15 #[.int .i64 i, .int .i64 n] w fun e w' => e = .returned (.int .i64 (i % n)) ∧ Below w.heap.size w w' := by
  rw [← round_eq hn hn2]
  have h0 : (n == 0) = false := by simp; omega
  have h1 : n ≠ 0 := by omega
  go_enter Try.func15, Try.ntmps15
  go_wp2
  all_goals go_ret
  all_goals exact ⟨rfl, by go_grown⟩
section
variable {H : Type} {enc : TypeId × Value → H} {w : World} {base : Nat → Bool} {spare : Bool}
def WFC (c : Cp) : Prop := (Lit.int .i64 c.p).wf = true ∧ (Lit.int .i64 c.i).wf = true ∧ (Lit.int .i64 c.n).wf = true ∧ (Lit.int .i64 c.h).wf = true ∧ (Lit.int .i64 c.l).wf = true ∧ (Lit.int .i64 c.r).wf = true ∧ (Lit.int .i64 c.u).wf = true ∧ (Lit.int .i64 c.fi).wf = true ∧ (Lit.int .i64 c.fn).wf = true
def dataC (c : Cp) : DataW H := .agg [.lit (.int .i64 c.p), .lit (.int .i64 c.i), .lit (.int .i64 c.n), .lit (.int .i64 c.h), .lit (.int .i64 c.l), .lit (.int .i64 c.r), .lit (.int .i64 c.u), .lit (.int .i64 c.fi), .lit (.int .i64 c.fn)]
def valueC (c : Cp) : Value := .agg #[.int .i64 c.p, .int .i64 c.i, .int .i64 c.n, .int .i64 c.h, .int .i64 c.l, .int .i64 c.r, .int .i64 c.u, .int .i64 c.fi, .int .i64 c.fn]
theorem list9 {α : Type} {l : List α} (h : l.length = 9) : ∃ a b c d e f g h i, l = [a, b, c, d, e, f, g, h, i] := by
  match l, h with
  | [a, b, c, d, e, f, g, h, i], _ => exact ⟨a, b, c, d, e, f, g, h, i, rfl⟩
theorem WFC.rng {c : Cp} (k : WFC c) : rng c.r := by obtain ⟨_, _, _, _, _, h, _⟩ := k; exact int_wf h
set_option maxRecDepth 100000 in
theorem open_cap {r : Reach} {b0 b1 : Nat} {v : Value} {d : DataW H} {p : List MemPlace} (hv : Value.okWide Try.prog w r b1 23 v) (h : DataW.Trod enc Try.prog w b0 base spare 23 v d p) :
    ∃ c : Cp, v = valueC c ∧ d = dataC c ∧ p = [] ∧ WFC c := by
  obtain ⟨cs, rfl, hsz⟩ := okWide_struct Try.underlying23 hv
  rw [show Try.prog.cellsOf 23 = 9 by kernel_rfl] at hsz
  obtain ⟨c0, c1, c2, c3, c4, c5, c6, c7, c8, hc⟩ := list9 (l := cs.toList) (by simpa using hsz)
  obtain ⟨fuel, hf⟩ := h
  simp only [Value.cells] at hf
  rw [hc] at hf
  obtain ⟨xs, n, _, hx, hl, hlen, hk⟩ := DataW.trod_struct Try.underlying23 hf
  obtain ⟨y0, y1, y2, y3, y4, y5, y6, y7, y8, rfl⟩ := list9 (l := xs) (by simpa using hlen)
  have hone : Try.prog.cellsOf 3 = 1 := by kernel_rfl
  have h0 := hk 0 _ rfl
  simp [hone] at h0
  have h1 := hk 1 _ rfl
  simp [hone] at h1
  have h2 := hk 2 _ rfl
  simp [hone] at h2
  have h3 := hk 3 _ rfl
  simp [hone] at h3
  have h4 := hk 4 _ rfl
  simp [hone] at h4
  have h5 := hk 5 _ rfl
  simp [hone] at h5
  have h6 := hk 6 _ rfl
  simp [hone] at h6
  have h7 := hk 7 _ rfl
  simp [hone] at h7
  have h8 := hk 8 _ rfl
  simp [hone] at h8
  obtain ⟨a0, e0, rfl, w0⟩ := DataW.trod_int Try.underlying3 h0
  simp at e0
  subst e0
  obtain ⟨a1, e1, rfl, w1⟩ := DataW.trod_int Try.underlying3 h1
  simp at e1
  subst e1
  obtain ⟨a2, e2, rfl, w2⟩ := DataW.trod_int Try.underlying3 h2
  simp at e2
  subst e2
  obtain ⟨a3, e3, rfl, w3⟩ := DataW.trod_int Try.underlying3 h3
  simp at e3
  subst e3
  obtain ⟨a4, e4, rfl, w4⟩ := DataW.trod_int Try.underlying3 h4
  simp at e4
  subst e4
  obtain ⟨a5, e5, rfl, w5⟩ := DataW.trod_int Try.underlying3 h5
  simp at e5
  subst e5
  obtain ⟨a6, e6, rfl, w6⟩ := DataW.trod_int Try.underlying3 h6
  simp at e6
  subst e6
  obtain ⟨a7, e7, rfl, w7⟩ := DataW.trod_int Try.underlying3 h7
  simp at e7
  subst e7
  obtain ⟨a8, e8, rfl, w8⟩ := DataW.trod_int Try.underlying3 h8
  simp at e8
  subst e8
  simp only [Prod.mk.injEq] at hx
  refine ⟨⟨a0, a1, a2, a3, a4, a5, a6, a7, a8⟩, ?_, by simpa [dataC] using hx.1, by simpa using hx.2, w0, w1, w2, w3, w4, w5, w6, w7, w8⟩
  unfold valueC
  congr 1
  cases cs; simp_all
set_option maxRecDepth 100000 in
theorem shut_cap {b0 : Nat} {c : Cp} (k : WFC c) : DataW.Trod enc Try.prog w b0 base spare 23 (valueC c) (dataC c) [] := by
  obtain ⟨w0, w1, w2, w3, w4, w5, w6, w7, w8⟩ := k
  have hone : Try.prog.cellsOf 3 = 1 := by kernel_rfl
  have ts := trod_struct_mk (enc := enc) (P := Try.prog) (w := w) (base := b0) (spare := base) (held := spare) (n := 1) (cs := [.int .i64 c.p, .int .i64 c.i, .int .i64 c.n, .int .i64 c.h, .int .i64 c.l, .int .i64 c.r, .int .i64 c.u, .int .i64 c.fi, .int .i64 c.fn]) (xs := [(.lit (.int .i64 c.p), []), (.lit (.int .i64 c.i), []), (.lit (.int .i64 c.n), []), (.lit (.int .i64 c.h), []), (.lit (.int .i64 c.l), []), (.lit (.int .i64 c.r), []), (.lit (.int .i64 c.u), []), (.lit (.int .i64 c.fi), []), (.lit (.int .i64 c.fn), [])]) Try.underlying23 (by kernel_rfl) (by
    simp [hone, DataW.trod, Try.underlying3, w0, w1, w2, w3, w4, w5, w6, w7, w8])
  exact ⟨_, by simpa [Value.cells, valueC, dataC] using ts⟩
end
end Go.Proofs.Ytipokakeaboelaa
