/- Each right is one bit: all that are written tell just these; whoever can all can each: the law RightsBits of package hectarelaw15 answers true at every input; no conditions. -/
import Derived.Test.YtipokakeaboelaaRows
import Derived.Test.YtipokakeaboelaaRtB
import Derived.Test.YtipokakeaboelaaRtD
import Derived.Test.YtipokakeaboelaaRtE
import Derived.Test.YtipokakeaboelaaPost
import Derived.WalkKit
import Derived.WalkSpells
import Derived.WalkLawsBesides
import Derived.Laws.Externs
import Derived.Deep.QuietTactic
import Derived.BigQuiet
import Derived.Lib.Hide
import Derived.Handy
import Derived.Carry
import Derived.ProofKit
import Derived.Lib.SmallJoins
import Derived.Lib.Strings
namespace Go.Proofs.Ytipokakeaboelaa
open Go.RowKit Go.Sort Go.ChangeShapes Go.WideShapes Go.ChangeAt
attribute [local go_sem] rOper rAt rUpon cell_set sg_i64 sg_u64 alloc_cell alloc_frozen
attribute [local irreducible] rWalk

def cn (x : Int) : Nat → Int
  | 0 => 0
  | k + 1 => if caR x (2 ^ k) then cn x k + 1 else cn x k
def orr (x y : Int) : Int := bits .or .i64 x y
/-- What the law asks of two numbers of 0 to 15, at once. -/
def askB (x y : Int) : Bool :=
  (((txt x).data.toList == (txt y).data.toList) == (x == y)) && caR (orr x y) x && (caR x (orr x y) == zR y x) && (x == 0 || (((txt x).size : Int) == cn x 4)) && (wR x y == (decide (x > 0) && decide (y > 0) && zR x y)) &&
    decide (0 ≤ orr x y) && decide (orr x y ≤ 15) && decide (0 ≤ cn x 4) && decide (cn x 4 ≤ 4)
theorem ask_any : (List.range 16).all (fun x => (List.range 16).all fun y => askB (x : Int) (y : Int)) = true := by decide +kernel
theorem ask_of {x y : Int} (h0 : 0 ≤ x) (h1 : x < 16) (h2 : 0 ≤ y) (h3 : y < 16) : askB x y = true := by
  have h := ask_any
  rw [List.all_eq_true] at h
  have h4 := h x.toNat (List.mem_range.2 (by omega))
  rw [List.all_eq_true] at h4
  have h5 := h4 y.toNat (List.mem_range.2 (by omega))
  rwa [show (x.toNat : Int) = x by omega, show (y.toNat : Int) = y by omega] at h5
theorem cn_range (x : Int) : ∀ k : Nat, 0 ≤ cn x k ∧ cn x k ≤ k
  | 0 => by simp [cn]
  | k + 1 => by
    have ih := cn_range x k
    simp only [cn]
    split <;> omega
theorem cn_no {x : Int} {k : Nat} (h : caR x (2 ^ k) = false) : cn x (k + 1) = cn x k := by
  simp only [cn]
  rw [if_neg (by rw [h]; simp)]
theorem cn_yes {x : Int} {k : Nat} (h : caR x (2 ^ k) = true) : cn x (k + 1) = cn x k + 1 := by
  simp only [cn]
  rw [if_pos h]
theorem cn_no0 {x : Int} (h : caR x 1 = false) : cn x 1 = cn x 0 := cn_no (k := 0) (by rw [show ((2 : Int) ^ 0) = 1 by decide]; exact h)
theorem cn_yes0 {x : Int} (h : caR x 1 = true) : cn x 1 = cn x 0 + 1 := cn_yes (k := 0) (by rw [show ((2 : Int) ^ 0) = 1 by decide]; exact h)
theorem cn_no1 {x : Int} (h : caR x 2 = false) : cn x 2 = cn x 1 := cn_no (k := 1) (by rw [show ((2 : Int) ^ 1) = 2 by decide]; exact h)
theorem cn_yes1 {x : Int} (h : caR x 2 = true) : cn x 2 = cn x 1 + 1 := cn_yes (k := 1) (by rw [show ((2 : Int) ^ 1) = 2 by decide]; exact h)
theorem cn_no2 {x : Int} (h : caR x 4 = false) : cn x 3 = cn x 2 := cn_no (k := 2) (by rw [show ((2 : Int) ^ 2) = 4 by decide]; exact h)
theorem cn_yes2 {x : Int} (h : caR x 4 = true) : cn x 3 = cn x 2 + 1 := cn_yes (k := 2) (by rw [show ((2 : Int) ^ 2) = 4 by decide]; exact h)
theorem cn_no3 {x : Int} (h : caR x 8 = false) : cn x 4 = cn x 3 := cn_no (k := 3) (by rw [show ((2 : Int) ^ 3) = 8 by decide]; exact h)
theorem cn_yes3 {x : Int} (h : caR x 8 = true) : cn x 4 = cn x 3 + 1 := cn_yes (k := 3) (by rw [show ((2 : Int) ^ 3) = 8 by decide]; exact h)
end Go.Proofs.Ytipokakeaboelaa
