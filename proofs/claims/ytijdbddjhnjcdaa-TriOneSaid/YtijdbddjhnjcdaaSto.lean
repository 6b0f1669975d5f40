/- Boxes behind a run of stores, in few words: what a text says of each is found by a script that stands here once. -/
import Derived.Test.YtijdbddjhnjcdaaRegion
import Derived.WalkKit
import Derived.BigQuiet
import Derived.Handy
namespace Go.Proofs.Ytijdbddjhnjcdaa
open Go.RowKit Go.Sort
/-- A row of cells behind a store into block k. -/
def upd (b k : Nat) (cs : List Value) (i : Nat) (v : Value) : List Value := if k = b then cs.set i v else cs
theorem upd_s {b : Nat} {cs : List Value} {i : Nat} {v : Value} : upd b b cs i v = cs.set i v := if_pos rfl
theorem upd_n {b k : Nat} {cs : List Value} {i : Nat} {v : Value} (h : k ≠ b) : upd b k cs i v = cs := if_neg h
theorem Box.q {w : World} {b k i : Nat} {cs : List Value} {T : TypeId} {v : Value} (h : Box w b cs T) : Box (w.setCell ⟨k, i, none⟩ v) b (upd b k cs i v) T := by
  by_cases e : k = b
  · subst e; rw [upd_s]; exact h.set i v
  · rw [upd_n e]; exact h.set_ne ⟨k, i, none⟩ v e
theorem Box.qd {w : World} {b : Nat} {cs : List Value} {T : TypeId} (h : Box w b cs T) : Box w.drew b cs T := h
theorem Box.to {w : World} {b : Nat} {cs cs' : List Value} {T : TypeId} (h : Box w b cs T) (e : cs = cs') : Box w b cs' T := e ▸ h
/-- A box behind stores. -/
theorem sto {w W V : World} {b : Nat} {cs cs' : List Value} {T : TypeId} (_ : Box w b cs T) (hW : W = V)
    (h : Box V b cs' T := by
      apply Box.to
      · repeat (first | with_reducible assumption | with_reducible apply Box.q | with_reducible apply Box.qd)
      · simp (disch := first | assumption | omega) only [upd_s, upd_n, List.set_cons_zero, List.set_cons_succ]
        try rfl) : Box W b cs' T := hW ▸ h
theorem stw {w w' W V : World} (hw : Below w.heap.size w w') (hW : W = V) (h : w.heap.size ≤ w'.heap.size → Below w.heap.size w V := by intro hl; go_grown) : Below w.heap.size w W := hW ▸ h hw.size
end Go.Proofs.Ytijdbddjhnjcdaa
