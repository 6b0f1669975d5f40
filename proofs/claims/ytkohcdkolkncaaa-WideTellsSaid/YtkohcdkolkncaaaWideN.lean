/- Decimal texts: the plain mathematics. -/
import Derived.WalkKit
namespace Go.Proofs.Ytkohcdkolkncaaa
open Go.RowKit

/-- Digits onto a number; none where one is no digit, or the number is too great already. -/
def sz : Int → List UInt8 → Option Int
  | acc, [] => some acc
  | acc, c :: l => if (c.toNat : Int) < 48 ∨ 57 < (c.toNat : Int) ∨ 922337203685477580 < acc / 18446744073709551616 then none else sz (acc * 10 + ((c.toNat : Int) - 48)) l
def sizeV (l : List UInt8) : Option Int := if l = [] ∨ (l.head? = some 48 ∧ 1 < l.length) then none else sz 0 l
def oH : Option Int → Int
  | some n => n / 18446744073709551616
  | _ => 0
def oL : Option Int → Int
  | some n => n % 18446744073709551616
  | _ => 0

theorem sz_stop {acc : Int} {l : List UInt8} {k : Nat} (h : k < l.length) (c : (l[k].toNat : Int) < 48 ∨ 57 < (l[k].toNat : Int) ∨ 922337203685477580 < acc / 18446744073709551616) : sz acc (l.drop k) = none := by
  rw [List.drop_eq_getElem_cons h, sz, if_pos c]
theorem sz_go {acc : Int} {l : List UInt8} {k : Nat} (h : k < l.length) (c : ¬ ((l[k].toNat : Int) < 48 ∨ 57 < (l[k].toNat : Int) ∨ 922337203685477580 < acc / 18446744073709551616)) :
    sz acc (l.drop k) = sz (acc * 10 + ((l[k].toNat : Int) - 48)) (l.drop (k + 1)) := by
  rw [List.drop_eq_getElem_cons h, sz, if_neg c]
theorem sz_end {acc : Int} {l : List UInt8} {k : Nat} (h : l.length ≤ k) : sz acc (l.drop k) = some acc := by
  rw [List.drop_of_length_le h]; rfl
/-- Without the sign ahead. -/
def cutV (l : List UInt8) : List UInt8 := if l.head? = some 45 then l.tail else l
def negV (l : List UInt8) : Bool := decide (l.head? = some 45)
/-- The number that a text is read as. -/
def parseV (l : List UInt8) : Option Int :=
  match sizeV (cutV l) with
  | none => none
  | some n => if negV l = true then (if 1 ≤ n ∧ n ≤ 170141183460469231731687303715884105728 then some (-n) else none) else (if n ≤ 170141183460469231731687303715884105727 then some n else none)
def pI : Option Int → Int
  | some n => n
  | _ => 0
theorem sz_range : ∀ (l : List UInt8) (acc n : Int), 0 ≤ acc → acc ≤ 340282366920938463463374607431768211455 → sz acc l = some n → 0 ≤ n ∧ n ≤ 340282366920938463463374607431768211455
  | [], acc, n, h0, h1, h => by cases h; exact ⟨h0, h1⟩
  | c :: l, acc, n, h0, h1, h => by
    unfold sz at h
    split at h
    · cases h
    · exact sz_range l _ n (by omega) (by omega) h
theorem sizeV_range {l : List UInt8} {n : Int} (h : sizeV l = some n) : 0 ≤ n ∧ n ≤ 340282366920938463463374607431768211455 := by
  unfold sizeV at h
  split at h
  · cases h
  · exact sz_range l 0 n (by omega) (by omega) h
/-- The digits of a number, none of nought; by fuel. -/
def decF : Nat → Nat → List UInt8
  | 0, _ => []
  | f + 1, n => if n = 0 then [] else decF f (n / 10) ++ [UInt8.ofNat (48 + n % 10)]
def decs (n : Nat) : List UInt8 := decF 40 n
theorem decF_zero (f : Nat) : decF f 0 = [] := by cases f <;> rfl
theorem decF_fuel : ∀ (f n : Nat), n < 10 ^ f → decF (f + 1) n = decF f n
  | 0, n, h => by have : n = 0 := by simpa using h
                  subst this; rfl
  | f + 1, n, h => by
    have h2 : n / 10 < 10 ^ f := by rw [Nat.pow_succ] at h; omega
    rw [decF, decF_fuel f (n / 10) h2, decF]
theorem decF_step (f n : Nat) (h : n ≠ 0) : decF (f + 1) n = decF f (n / 10) ++ [UInt8.ofNat (48 + n % 10)] := by
  rw [decF, if_neg h]
/-- What a number's text is. -/
def textV (n : Int) : List UInt8 := if n = 0 then [48] else if n < 0 then 45 :: decs (-n).toNat else decs n.toNat
theorem set_digit {α : Type} (z v : α) (m : Nat) (suf : List α) : (List.replicate (m + 1) z ++ suf).set m v = List.replicate m z ++ v :: suf := by
  rw [List.replicate_succ', List.append_assoc, List.set_append_right _ _ (by simp)]
  simp
end Go.Proofs.Ytkohcdkolkncaaa
