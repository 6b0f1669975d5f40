/- How rights are written: package rights' Text. -/
import Derived.Test.YtipokakeaboelaaRows
import Derived.Test.YtipokakeaboelaaRtA
import Derived.WalkKit
import Derived.WalkSpells
import Derived.WalkLawsBesides
import Derived.Laws.Externs
import Derived.Deep.QuietTactic
import Derived.BigQuiet
import Derived.Lib.Hide
import Derived.Handy
import Derived.Lib.Strings
import Derived.Lib.IndexBytes
namespace Go.Proofs.Ytipokakeaboelaa
open Go.RowKit Go.Sort
attribute [local go_sem] rOper rAt rUpon cell_set sg_i64 sg_u64 alloc_cell alloc_frozen
attribute [local irreducible] rWalk

def lets : ByteArray := ⟨#[114, 119, 97, 103]⟩
def bt (r : Int) (k : Nat) : Bool := bits .and .i64 r (2 ^ k) != 0
def tx (r : Int) : Nat → ByteArray
  | 0 => ⟨#[]⟩
  | k + 1 => if bt r k then tx r k ++ lets.extract k (k + 1) else tx r k
def txt (r : Int) : ByteArray := if kn r then (if r = 0 then ⟨#[45]⟩ else tx r 4) else ⟨#[]⟩
theorem tx_yes {r : Int} {k : Nat} (h : bt r k = true) : tx r (k + 1) = tx r k ++ lets.extract k (k + 1) := by simp only [tx]; rw [if_pos h]
theorem tx_no {r : Int} {k : Nat} (h : bt r k = false) : tx r (k + 1) = tx r k := by simp only [tx]; rw [if_neg (by rw [h]; simp)]
theorem tx_size (r : Int) : ∀ k : Nat, (tx r k).size ≤ k
  | 0 => by simp only [tx]; decide
  | k + 1 => by
    have ih := tx_size r k
    cases h : bt r k with
    | false => rw [tx_no h]; omega
    | true =>
      rw [tx_yes h]
      simp only [ByteArray.size_append, ByteArray.size_extract]
      omega
theorem text_0 {r : Int} (h : rng r) (h0 : kn r = false) (w : World) :
    Calls Try.prog 11 #[.int .i64 r] w fun e w' => e = .returned (.string (txt r)) ∧ Below w.heap.size w w' := by
  have c := known_any h
  unfold txt
  rw [h0] at c ⊢
  go_enter Try.func11, Try.ntmps11
  go_wp2_with (go_at_call 17; refine (c _).mono ?_; rintro e w' ⟨rfl, hb⟩)
  go_ret
  exact ⟨rfl, hb⟩
theorem text_1 {r : Int} (h0 : r = 0) (w : World) :
    Calls Try.prog 11 #[.int .i64 r] w fun e w' => e = .returned (.string (txt r)) ∧ Below w.heap.size w w' := by
  subst h0
  have c := known_any (r := 0) (by unfold rng; omega)
  rw [show kn 0 = true by decide] at c
  go_enter Try.func11, Try.ntmps11
  go_wp2_with (go_at_call 17; refine (c _).mono ?_; rintro e w' ⟨rfl, hb⟩)
  go_ret
  exact ⟨rfl, hb⟩
theorem text_2 {r : Int} (h : rng r) (h0 : kn r = true) (h1 : (r == 0) = false) (w : World) :
    Calls Try.prog 11 #[.int .i64 r] w fun e w' => e = .returned (.string (txt r)) ∧ Below w.heap.size w w' := by
  have c := known_any h
  have e : txt r = tx r 4 := by unfold txt; rw [h0, if_pos rfl, if_neg (by simpa using h1)]
  have E := Lib.hid e
  rw [h0] at c
  clear e h0
  go_enter Try.func11, Try.ntmps11
  go_wp2_with (go_at_call 17; refine (c _).mono ?_; rintro e w' ⟨rfl, hb⟩)
  go_loop [3, 10] (fun t i => ∃ k : Nat, k ≤ 4 ∧ i = .int .i64 k ∧ t = .string (tx r k)) (fun _ i => 4 - (intOf i).toNat)
  case atStart => exact ⟨0, by omega, rfl, rfl⟩
  case round =>
    obtain ⟨k, hk, rfl, rfl⟩ := hrel
    have hs : ((tx r k).size : Int) ≤ 4 := by have := tx_size r k; omega
    rcases (by omega : k = 0 ∨ k = 1 ∨ k = 2 ∨ k = 3 ∨ k = 4) with rfl | rfl | rfl | rfl | rfl
    · go_wp2
      all_goals go_round
      case rel => first | exact ⟨1, by omega, rfl, by rw [tx_yes (k := 0) (by assumption)]; rfl⟩ | exact ⟨1, by omega, rfl, by rw [tx_no (k := 0) (by assumption)]⟩
      case measure => simp [intOf]
      all_goals first | exact ⟨1, by omega, rfl, by rw [tx_yes (k := 0) (by assumption)]; rfl⟩ | exact ⟨1, by omega, rfl, by rw [tx_no (k := 0) (by assumption)]⟩ | simp [intOf]
    · go_wp2
      all_goals go_round
      case rel => first | exact ⟨2, by omega, rfl, by rw [tx_yes (k := 1) (by assumption)]; rfl⟩ | exact ⟨2, by omega, rfl, by rw [tx_no (k := 1) (by assumption)]⟩
      case measure => simp [intOf]
      all_goals first | exact ⟨2, by omega, rfl, by rw [tx_yes (k := 1) (by assumption)]; rfl⟩ | exact ⟨2, by omega, rfl, by rw [tx_no (k := 1) (by assumption)]⟩ | simp [intOf]
    · go_wp2
      all_goals go_round
      case rel => first | exact ⟨3, by omega, rfl, by rw [tx_yes (k := 2) (by assumption)]; rfl⟩ | exact ⟨3, by omega, rfl, by rw [tx_no (k := 2) (by assumption)]⟩
      case measure => simp [intOf]
      all_goals first | exact ⟨3, by omega, rfl, by rw [tx_yes (k := 2) (by assumption)]; rfl⟩ | exact ⟨3, by omega, rfl, by rw [tx_no (k := 2) (by assumption)]⟩ | simp [intOf]
    · go_wp2
      all_goals go_round
      case rel => first | exact ⟨4, by omega, rfl, by rw [tx_yes (k := 3) (by assumption)]; rfl⟩ | exact ⟨4, by omega, rfl, by rw [tx_no (k := 3) (by assumption)]⟩
      case measure => simp [intOf]
      all_goals first | exact ⟨4, by omega, rfl, by rw [tx_yes (k := 3) (by assumption)]; rfl⟩ | exact ⟨4, by omega, rfl, by rw [tx_no (k := 3) (by assumption)]⟩ | simp [intOf]
    · go_wp2
      go_ret
      exact ⟨by rw [E.out]; rfl, hb⟩
theorem text_any {r : Int} (h : rng r) (w : World) :
    Calls Try.prog 11 #[.int .i64 r] w fun e w' => e = .returned (.string (txt r)) ∧ Below w.heap.size w w' := by
  cases h0 : kn r with
  | false => exact text_0 h h0 w
  | true =>
    by_cases h1 : r = 0
    · exact text_1 h1 w
    · exact text_2 h h0 (by simpa using h1) w
end Go.Proofs.Ytipokakeaboelaa
