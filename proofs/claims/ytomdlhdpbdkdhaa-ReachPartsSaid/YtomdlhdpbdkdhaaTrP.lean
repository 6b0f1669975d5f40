/- A triangle among the arguments of a law: opened and shut again. -/
import Derived.Test.YtomdlhdpbdkdhaaRows
import Derived.Test.YtomdlhdpbdkdhaaExW
import Derived.Test.YtomdlhdpbdkdhaaPost
import Derived.ProofKit
import Derived.Lib.SmallJoins
import Derived.Deep.Strs
namespace Go.Proofs.Ytomdlhdpbdkdhaa
open Go.RowKit Go.Sort Go.ChangeShapes Go.WideShapes Go.ChangeAt
section
variable {H : Type} {enc : TypeId × Value → H} {w : World} {base : Nat → Bool} {spare : Bool}
theorem list2 {α : Type} {l : List α} (h : l.length = 2) : ∃ a b, l = [a, b] := by
  match l, h with
  | [a, b], _ => exact ⟨a, b, rfl⟩
theorem list6 {α : Type} {l : List α} (h : l.length = 6) : ∃ a b c d e f, l = [a, b, c, d, e, f] := by
  match l, h with
  | [a, b, c, d, e, f], _ => exact ⟨a, b, c, d, e, f, rfl⟩
def WFT (T : Tri3) : Prop := (Lit.int .i64 T.A.x).wf = true ∧ (Lit.int .i64 T.A.y).wf = true ∧ (Lit.int .i64 T.B.x).wf = true ∧ (Lit.int .i64 T.B.y).wf = true ∧ (Lit.int .i64 T.C.x).wf = true ∧ (Lit.int .i64 T.C.y).wf = true
theorem trod_pt {b0 : Nat} {fuel : Nat} {u v : Value} {y : DataW H × List MemPlace} (h : DataW.trod enc Try.prog w b0 base spare fuel 23 [u, v] = some y) :
    ∃ a b, u = .int .i64 a ∧ v = .int .i64 b ∧ y = (.agg [.lit (.int .i64 a), .lit (.int .i64 b)], []) ∧ (Lit.int .i64 a).wf = true ∧ (Lit.int .i64 b).wf = true := by
  obtain ⟨y0, y1, n, rfl, hl, h0, h1⟩ := trod_struct2 Try.underlying23 h
  rw [show Try.prog.cellsOf 3 = 1 by kernel_rfl] at h0 h1
  simp only [List.drop_zero, List.take_succ_cons, List.take_zero, List.drop_succ_cons] at h0 h1
  obtain ⟨a, ha, rfl, wa⟩ := DataW.trod_int Try.underlying3 h0
  obtain ⟨b, hb, rfl, wb⟩ := DataW.trod_int Try.underlying3 h1
  simp at ha hb
  exact ⟨a, b, ha, hb, rfl, wa, wb⟩
theorem pt_trod {b0 : Nat} {a b : Int} (wa : (Lit.int .i64 a).wf = true) (wb : (Lit.int .i64 b).wf = true) :
    ∃ n, DataW.trod enc Try.prog w b0 base spare (n + 1) 23 [.int .i64 a, .int .i64 b] = some (.agg [.lit (.int .i64 a), .lit (.int .i64 b)], []) := by
  refine ⟨_, trod_struct2_mk (n := 1) (y0 := (.lit (.int .i64 a), [])) (y1 := (.lit (.int .i64 b), [])) Try.underlying23 (by kernel_rfl) ?_ ?_⟩
  · rw [show Try.prog.cellsOf 3 = 1 by kernel_rfl]; simp [DataW.trod, Try.underlying3, wa]
  · rw [show Try.prog.cellsOf 3 = 1 by kernel_rfl]; simp [DataW.trod, Try.underlying3, wb]
def dataT (T : Tri3) : DataW H := .agg [.agg [.lit (.int .i64 T.A.x), .lit (.int .i64 T.A.y)], .agg [.lit (.int .i64 T.B.x), .lit (.int .i64 T.B.y)], .agg [.lit (.int .i64 T.C.x), .lit (.int .i64 T.C.y)]]
def valueT (T : Tri3) : Value := .agg #[.int .i64 T.A.x, .int .i64 T.A.y, .int .i64 T.B.x, .int .i64 T.B.y, .int .i64 T.C.x, .int .i64 T.C.y]
theorem open_tri {r : Reach} {b0 b1 : Nat} {v : Value} {d : DataW H} {p : List MemPlace} (hv : Value.okWide Try.prog w r b1 25 v) (h : DataW.Trod enc Try.prog w b0 base spare 25 v d p) :
    ∃ T : Tri3, v = valueT T ∧ d = dataT T ∧ p = [] ∧ WFT T := by
  obtain ⟨cs, rfl, hsz⟩ := okWide_struct Try.underlying25 hv
  rw [show Try.prog.cellsOf 25 = 6 by kernel_rfl] at hsz
  obtain ⟨c0, c1, c2, c3, c4, c5, hc⟩ := list6 (l := cs.toList) (by simpa using hsz)
  obtain ⟨fuel, hf⟩ := h
  simp only [Value.cells] at hf
  rw [hc] at hf
  obtain ⟨y0, y1, y2, n, hx, _, h0, h1, h2⟩ := Deep.trod_struct3 Try.underlying25 hf
  rw [show Try.prog.cellsOf 23 = 2 by kernel_rfl] at h0 h1 h2
  simp only [List.drop_zero, List.take_succ_cons, List.take_zero, List.drop_succ_cons] at h0 h1 h2
  obtain ⟨a0, a1, rfl, rfl, rfl, w0, w1⟩ := trod_pt h0
  obtain ⟨a2, a3, rfl, rfl, rfl, w2, w3⟩ := trod_pt h1
  obtain ⟨a4, a5, rfl, rfl, rfl, w4, w5⟩ := trod_pt h2
  simp only [Prod.mk.injEq] at hx
  refine ⟨⟨⟨a0, a1⟩, ⟨a2, a3⟩, ⟨a4, a5⟩⟩, ?_, hx.1, by simpa using hx.2, w0, w1, w2, w3, w4, w5⟩
  unfold valueT
  congr 1
  cases cs; simp_all
theorem shut_tri {b0 : Nat} {T : Tri3} (k : WFT T) : DataW.Trod enc Try.prog w b0 base spare 25 (valueT T) (dataT T) [] := by
  obtain ⟨w0, w1, w2, w3, w4, w5⟩ := k
  obtain ⟨n0, t0⟩ := pt_trod (enc := enc) (w := w) (b0 := b0) (base := base) (spare := spare) w0 w1
  obtain ⟨n1, t1⟩ := pt_trod (enc := enc) (w := w) (b0 := b0) (base := base) (spare := spare) w2 w3
  obtain ⟨n2, t2⟩ := pt_trod (enc := enc) (w := w) (b0 := b0) (base := base) (spare := spare) w4 w5
  have ts : DataW.trod enc Try.prog w b0 base spare (max (n0 + 1) (max (n1 + 1) (n2 + 1)) + 1) 25 [.int .i64 T.A.x, .int .i64 T.A.y, .int .i64 T.B.x, .int .i64 T.B.y, .int .i64 T.C.x, .int .i64 T.C.y] = some (dataT T, []) :=
    Deep.trod_struct3_mk (y0 := (.agg [.lit (.int .i64 T.A.x), .lit (.int .i64 T.A.y)], [])) (y1 := (.agg [.lit (.int .i64 T.B.x), .lit (.int .i64 T.B.y)], [])) (y2 := (.agg [.lit (.int .i64 T.C.x), .lit (.int .i64 T.C.y)], [])) Try.underlying25 (by kernel_rfl)
      (DataW.trod_le (by omega) t0) (DataW.trod_le (by omega) t1) (DataW.trod_le (by omega) t2)
  exact ⟨_, ts⟩
end
end Go.Proofs.Ytomdlhdpbdkdhaa
