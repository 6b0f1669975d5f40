/- The contracts of package wide's and of the document's own sums, differences, opposites, signs and order, over the program. -/
import Derived.Test.YtkohcdkolkncaaaRows
import Derived.Test.YtkohcdkolkncaaaWideP
import Derived.Test.YtkohcdkolkncaaaWideN
import Derived.Test.YtkohcdkolkncaaaRegion
import Derived.WalkKit
import Derived.WalkSpells
import Derived.WalkLawsBesides
import Derived.Laws.Externs
import Derived.Deep.QuietTactic
import Derived.BigQuiet
import Derived.Lib.Hide
import Derived.Handy
import Derived.Lib.Strings
import Derived.Lib.IndexBytes
import Derived.Laws.MathBits
namespace Go.Proofs.Ytkohcdkolkncaaa
open Go.RowKit
attribute [local go_sem] rOper rAt rUpon cell_set sg_i64 sg_u64 alloc_cell alloc_frozen

theorem take_one (l : List UInt8) : l.take 1 = [45] ↔ l.head? = some 45 := by
  cases l with
  | nil => simp
  | cons c l => simp
theorem cut_yes (s : ByteArray) (_hs : s.size ≤ maxLen) (h : s.data.toList.head? = some 45) (w : World) :
    Calls Try.prog 39 #[.string s, .string ⟨#[45]⟩] w fun e w' => e = .returned (.tuple #[.string (s.extract 1 s.size), .bool true]) ∧ w = w' := by
  unfold maxLen at _hs
  have hlen : s.data.toList.length = s.size := by simp
  have h1 : 1 ≤ (s.size : Int) := by
    rw [← hlen]
    cases hl : s.data.toList with
    | nil => rw [hl] at h; cases h
    | cons c l => simp; omega
  have e : ((s.extract 0 1).toList == [45]) = true := by
    rw [ByteArray.toList_eq, Lib.extract_data]; simpa [take_one] using h
  clear h hlen
  go_enter Try.func39, Try.ntmps39
  go_wp2
  go_ret2
  exact ⟨rfl, rfl⟩
theorem cut_no (s : ByteArray) (_hs : s.size ≤ maxLen) (h : ¬ s.data.toList.head? = some 45) (w : World) :
    Calls Try.prog 39 #[.string s, .string ⟨#[45]⟩] w fun e w' => e = .returned (.tuple #[.string s, .bool false]) ∧ w = w' := by
  unfold maxLen at _hs
  have e : ((s.extract 0 1).toList == [45]) = false := by
    rw [ByteArray.toList_eq, Lib.extract_data]; simpa [take_one] using h
  clear h
  by_cases h1 : 1 ≤ (s.size : Int)
  · go_enter Try.func39, Try.ntmps39
    go_wp2
    go_ret2
    exact ⟨rfl, rfl⟩
  · go_enter Try.func39, Try.ntmps39
    go_wp2
    go_ret2
    exact ⟨rfl, rfl⟩
set_option maxHeartbeats 1000000 in
theorem parse_any (s : ByteArray) (hs : s.size ≤ maxLen) (w : World) :
    Calls Try.prog 28 #[.string s] w fun e w' =>
      e = .returned (.tuple #[.agg #[.int .i64 (cH (pI (parseV s.data.toList))), .int .u64 (cL (pI (parseV s.data.toList)))], .int .i64 (if (parseV s.data.toList).isSome = true then 0 else 2)]) ∧ Below w.heap.size w w' := by
  by_cases hc : s.data.toList.head? = some 45
  · have c := cut_yes s hs hc
    have d := size_any (s.extract 1 s.size) (by simp; unfold maxLen at *; omega)
    have ed : (s.extract 1 s.size).data.toList = cutV s.data.toList := by
      rw [Lib.extract_to_end]; unfold cutV; rw [if_pos hc]; simp
    rw [ed] at d
    have en : negV s.data.toList = true := by unfold negV; exact decide_eq_true hc
    unfold parseV
    cases hz : sizeV (cutV s.data.toList) with
    | none =>
      rw [hz] at d
      simp only [oH, oL, Option.isSome_none] at d
      go_enter Try.func28, Try.ntmps28
      go_wp2_with (first | (go_at_call 39; refine (c _).mono ?_; rintro e w' ⟨rfl, rfl⟩) | (go_at_call 40; refine (d _).mono ?_; rintro e w' ⟨rfl, rfl⟩) | (go_at_call 36; refine (o _).mono ?_; rintro e w' ⟨rfl, rfl⟩))
      go_returns
      exact ⟨rfl, by go_grown⟩
    | some n =>
      obtain ⟨n0, n1⟩ := sizeV_range hz
      rw [hz] at d
      simp only [oH, oL, Option.isSome_some] at d
      rw [en]
      clear hz en ed
      have o := opposite_any (n / 18446744073709551616) (n % 18446744073709551616) (by omega) (by omega) (by omega) (by omega)
      rw [show V (n / 18446744073709551616) (n % 18446744073709551616) = n by unfold V; omega] at o
      obtain ⟨p, hp⟩ : ∃ p, -n / 18446744073709551616 % 18446744073709551616 = p := ⟨_, rfl⟩
      obtain ⟨q, hq⟩ : ∃ q, -n % 18446744073709551616 = q := ⟨_, rfl⟩
      rw [hp, hq] at o
      have p0 : 0 ≤ p := by omega
      have p1 : p ≤ 18446744073709551615 := by omega
      by_cases hn : 1 ≤ n ∧ n ≤ 170141183460469231731687303715884105728
      · have ef : fits (-n) = true := by rw [fits_iff]; omega
        have e1 : cH (-n) = wrap64 p := by unfold cH wrap64; rw [if_pos ef]; omega
        have e2 : cL (-n) = q := by unfold cL; rw [if_pos ef, hq]
        have t : decide (wrap64 p < 0) = true := by simp; unfold wrap64; omega
        have E1 := Lib.hid e1; have E2 := Lib.hid e2
        clear e1 e2 hp hq ef
        go_enter Try.func28, Try.ntmps28
        go_wp2_with (first | (go_at_call 39; refine (c _).mono ?_; rintro e w' ⟨rfl, rfl⟩) | (go_at_call 40; refine (d _).mono ?_; rintro e w' ⟨rfl, rfl⟩) | (go_at_call 36; refine (o _).mono ?_; rintro e w' ⟨rfl, rfl⟩))
        go_returns
        refine ⟨?_, by go_grown⟩
        simp only [pI]
        rw [E1.out, E2.out]
      · have t : decide (wrap64 p < 0) = false := by simp; unfold wrap64; omega
        clear hp hq
        go_enter Try.func28, Try.ntmps28
        go_wp2_with (first | (go_at_call 39; refine (c _).mono ?_; rintro e w' ⟨rfl, rfl⟩) | (go_at_call 40; refine (d _).mono ?_; rintro e w' ⟨rfl, rfl⟩) | (go_at_call 36; refine (o _).mono ?_; rintro e w' ⟨rfl, rfl⟩))
        go_returns
        refine ⟨?_, by go_grown⟩
        rfl
  · have c := cut_no s hs hc
    have d := size_any s hs
    have ed : cutV s.data.toList = s.data.toList := by unfold cutV; rw [if_neg hc]
    rw [← ed] at d
    have en : negV s.data.toList = false := by unfold negV; exact decide_eq_false hc
    unfold parseV
    cases hz : sizeV (cutV s.data.toList) with
    | none =>
      rw [hz] at d
      simp only [oH, oL, Option.isSome_none] at d
      go_enter Try.func28, Try.ntmps28
      go_wp2_with (first | (go_at_call 39; refine (c _).mono ?_; rintro e w' ⟨rfl, rfl⟩) | (go_at_call 40; refine (d _).mono ?_; rintro e w' ⟨rfl, rfl⟩) | (go_at_call 36; refine (o _).mono ?_; rintro e w' ⟨rfl, rfl⟩))
      go_returns
      exact ⟨rfl, by go_grown⟩
    | some n =>
      obtain ⟨n0, n1⟩ := sizeV_range hz
      rw [hz] at d
      simp only [oH, oL, Option.isSome_some] at d
      rw [en]
      clear hz en ed
      by_cases hn : n ≤ 170141183460469231731687303715884105727
      · have ef : fits n = true := by rw [fits_iff]; omega
        have e1 : cH n = wrap64 (n / 18446744073709551616) := by unfold cH wrap64; rw [if_pos ef]; omega
        have e2 : cL n = n % 18446744073709551616 := by unfold cL; rw [if_pos ef]
        have t : decide (wrap64 (n / 18446744073709551616) < 0) = false := by simp; unfold wrap64; omega
        obtain ⟨p, hp⟩ : ∃ p, n / 18446744073709551616 = p := ⟨_, rfl⟩
        obtain ⟨q, hq⟩ : ∃ q, n % 18446744073709551616 = q := ⟨_, rfl⟩
        have p0 : 0 ≤ p := by omega
        have p1 : p ≤ 9223372036854775807 := by omega
        have w0 : wrap64 p = p := by unfold wrap64; omega
        rw [hp] at d e1 t
        rw [hq] at d e2
        rw [w0] at e1 t
        have E1 := Lib.hid e1; have E2 := Lib.hid e2
        clear e1 e2 hp hq ef w0
        go_enter Try.func28, Try.ntmps28
        go_wp2_with (first | (go_at_call 39; refine (c _).mono ?_; rintro e w' ⟨rfl, rfl⟩) | (go_at_call 40; refine (d _).mono ?_; rintro e w' ⟨rfl, rfl⟩) | (go_at_call 36; refine (o _).mono ?_; rintro e w' ⟨rfl, rfl⟩))
        go_returns
        refine ⟨?_, by go_grown⟩
        simp only [pI]
        rw [E1.out, E2.out]
      · obtain ⟨p, hp⟩ : ∃ p, n / 18446744073709551616 = p := ⟨_, rfl⟩
        have t : decide (wrap64 p < 0) = true := by simp; unfold wrap64; omega
        obtain ⟨q, hq⟩ : ∃ q, n % 18446744073709551616 = q := ⟨_, rfl⟩
        have p0 : 9223372036854775808 ≤ p := by omega
        have p1 : p ≤ 18446744073709551615 := by omega
        rw [hp, hq] at d
        clear hp hq
        go_enter Try.func28, Try.ntmps28
        go_wp2_with (first | (go_at_call 39; refine (c _).mono ?_; rintro e w' ⟨rfl, rfl⟩) | (go_at_call 40; refine (d _).mono ?_; rintro e w' ⟨rfl, rfl⟩) | (go_at_call 36; refine (o _).mono ?_; rintro e w' ⟨rfl, rfl⟩))
        go_returns
        refine ⟨?_, by go_grown⟩
        rfl
end Go.Proofs.Ytkohcdkolkncaaa
