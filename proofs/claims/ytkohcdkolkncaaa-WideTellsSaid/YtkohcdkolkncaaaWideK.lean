/- The contracts of package wide's and of the document's own sums, differences, opposites, signs and order, over the program. -/
import Derived.Test.YtkohcdkolkncaaaRows
import Derived.Test.YtkohcdkolkncaaaWideS
import Derived.Test.YtkohcdkolkncaaaWideC
import Derived.Test.YtkohcdkolkncaaaWideD
import Derived.Test.YtkohcdkolkncaaaWideE
import Derived.Test.YtkohcdkolkncaaaWideF
import Derived.Test.YtkohcdkolkncaaaWideH
import Derived.Test.YtkohcdkolkncaaaWideN
import Derived.Test.YtkohcdkolkncaaaRegion
import Derived.WalkKit
import Derived.WalkSpells
import Derived.WalkLawsBesides
import Derived.Laws.Externs
import Derived.Deep.QuietTactic
import Derived.BigQuiet
import Derived.Lib.Hide
import Derived.Handy
import Derived.Laws.BytesArg
import Derived.Lib.Strings
import Derived.Lib.IndexBytes
import Derived.Laws.MathBits
namespace Go.Proofs.Ytkohcdkolkncaaa
open Go.RowKit
attribute [local go_sem] rOper rAt rUpon cell_set sg_i64 sg_u64 alloc_cell alloc_frozen

theorem ok_nn (h l : Int) (a : -9223372036854775808 ≤ h ∧ h ≤ 9223372036854775807 ∧ 0 ≤ l ∧ l ≤ 18446744073709551615) : Ok h l := ⟨a.1, a.2.1, a.2.2.1, a.2.2.2⟩
theorem aw_mul (w : World) : Calls Try.prog 26 #[.int .i64 4611686018427387904, .int .i64 4] w fun e w' => e = .returned (.agg #[.int .i64 1, .int .u64 0]) ∧ Below w.heap.size w w' := by
  have c := mul_any 4611686018427387904 4 (by omega) (by omega) (by omega) (by omega) w
  rw [show cH (4611686018427387904 * 4) = 1 by decide +kernel, show cL (4611686018427387904 * 4) = 0 by decide +kernel] at c
  exact c
theorem aw_from1 (w : World) : Calls Try.prog 23 #[.int .i64 1] w fun e w' => e = .returned (.agg #[.int .i64 0, .int .u64 1]) ∧ Below w.heap.size w w' := by
  have c := from_any 1 (by omega) (by omega) w
  rw [show cH 1 = 0 by decide +kernel, show cL 1 = 1 by decide +kernel] at c
  exact c
theorem aw_fromm (w : World) : Calls Try.prog 23 #[.int .i64 (-1)] w fun e w' => e = .returned (.agg #[.int .i64 (-1), .int .u64 18446744073709551615]) ∧ Below w.heap.size w w' := by
  have c := from_any (-1) (by omega) (by omega) w
  rw [show cH (-1) = -1 by decide +kernel, show cL (-1) = 18446744073709551615 by decide +kernel] at c
  exact c
theorem aw_add (w : World) : Calls Try.prog 9 #[.agg #[.int .i64 (-1), .int .u64 18446744073709551615], .agg #[.int .i64 0, .int .u64 1]] w fun e w' =>
    e = .returned (.tuple #[.agg #[.int .i64 0, .int .u64 0], .bool true]) ∧ Below w.heap.size w w' := by
  have c := add_any (-1) 18446744073709551615 0 1 (ok_nn _ _ (by omega)) (ok_nn _ _ (by omega)) w
  rw [show V (-1) 18446744073709551615 + V 0 1 = 0 by decide +kernel, show cH 0 = 0 by decide +kernel, show cL 0 = 0 by decide +kernel, show fits 0 = true by decide +kernel] at c
  exact c
theorem aw_over (w : World) : Calls Try.prog 9 #[.agg #[.int .i64 9223372036854775807, .int .u64 18446744073709551615], .agg #[.int .i64 0, .int .u64 1]] w fun e w' =>
    e = .returned (.tuple #[.agg #[.int .i64 0, .int .u64 0], .bool false]) ∧ Below w.heap.size w w' := by
  have c := add_any 9223372036854775807 18446744073709551615 0 1 (ok_nn _ _ (by omega)) (ok_nn _ _ (by omega)) w
  rw [show fits (V 9223372036854775807 18446744073709551615 + V 0 1) = false by decide +kernel, show cH (V 9223372036854775807 18446744073709551615 + V 0 1) = 0 by decide +kernel, show cL (V 9223372036854775807 18446744073709551615 + V 0 1) = 0 by decide +kernel] at c
  exact c
def tLow : ByteArray := ⟨#[45, 49, 55, 48, 49, 52, 49, 49, 56, 51, 52, 54, 48, 52, 54, 57, 50, 51, 49, 55, 51, 49, 54, 56, 55, 51, 48, 51, 55, 49, 53, 56, 56, 52, 49, 48, 53, 55, 50, 56]⟩
def tOver : ByteArray := ⟨#[49, 55, 48, 49, 52, 49, 49, 56, 51, 52, 54, 48, 52, 54, 57, 50, 51, 49, 55, 51, 49, 54, 56, 55, 51, 48, 51, 55, 49, 53, 56, 56, 52, 49, 48, 53, 55, 50, 56]⟩
def tMinus : ByteArray := ⟨#[45, 48]⟩
theorem aw_low (w : World) : Calls Try.prog 28 #[.string tLow] w fun e w' => e = .returned (.tuple #[.agg #[.int .i64 (-9223372036854775808), .int .u64 0], .int .i64 0]) ∧ Below w.heap.size w w' := by
  have c := parse_any tLow (by decide +kernel) w
  rw [show cH (pI (parseV tLow.data.toList)) = -9223372036854775808 by decide +kernel, show cL (pI (parseV tLow.data.toList)) = 0 by decide +kernel, show (parseV tLow.data.toList).isSome = true by decide +kernel] at c
  exact c
theorem aw_high (w : World) : Calls Try.prog 28 #[.string tOver] w fun e w' => e = .returned (.tuple #[.agg #[.int .i64 0, .int .u64 0], .int .i64 2]) ∧ Below w.heap.size w w' := by
  have c := parse_any tOver (by decide +kernel) w
  rw [show cH (pI (parseV tOver.data.toList)) = 0 by decide +kernel, show cL (pI (parseV tOver.data.toList)) = 0 by decide +kernel, show (parseV tOver.data.toList).isSome = false by decide +kernel] at c
  exact c
theorem aw_minus (w : World) : Calls Try.prog 28 #[.string tMinus] w fun e w' => e = .returned (.tuple #[.agg #[.int .i64 0, .int .u64 0], .int .i64 2]) ∧ Below w.heap.size w w' := by
  have c := parse_any tMinus (by decide +kernel) w
  rw [show cH (pI (parseV tMinus.data.toList)) = 0 by decide +kernel, show cL (pI (parseV tMinus.data.toList)) = 0 by decide +kernel, show (parseV tMinus.data.toList).isSome = false by decide +kernel] at c
  exact c
def tText : ByteArray := ⟨#[49, 56, 52, 52, 54, 55, 52, 52, 48, 55, 51, 55, 48, 57, 53, 53, 49, 54, 49, 54]⟩
theorem aw_text (w : World) : Calls Try.prog 21 #[.agg #[.int .i64 1, .int .u64 0]] w fun e w' => e = .returned (.string tText) ∧ Below w.heap.size w w' := by
  have c := text_any 1 0 (ok_nn _ _ (by omega)) w
  rw [show (⟨(textV (V 1 0)).toArray⟩ : ByteArray) = tText by unfold tText; rw [show textV (V 1 0) = [49, 56, 52, 52, 54, 55, 52, 52, 48, 55, 51, 55, 48, 57, 53, 53, 49, 54, 49, 54] by decide +kernel]] at c
  exact c
theorem aw_sign (w : World) : Calls Try.prog 17 #[.agg #[.int .i64 1, .int .u64 0]] w fun e w' => e = .returned (.int .i64 1) ∧ Below w.heap.size w w' := by
  have c := sign_any 1 0 (ok_nn _ _ (by omega)) w
  rw [show sgn (V 1 0) = 1 by decide +kernel] at c
  exact c
theorem aw_cmp (w : World) : Calls Try.prog 19 #[.agg #[.int .i64 1, .int .u64 0], .agg #[.int .i64 (-9223372036854775808), .int .u64 0]] w fun e w' => e = .returned (.int .i64 1) ∧ Below w.heap.size w w' := by
  have c := cmp_any 1 0 (-9223372036854775808) 0 (ok_nn _ _ (by omega)) (ok_nn _ _ (by omega)) w
  rw [show sgn (V 1 0 - V (-9223372036854775808) 0) = 1 by decide +kernel] at c
  exact c
theorem awake_any (w : World) : Calls Try.prog 25 #[] w fun e w' => e = .returned (.bool true) ∧ Below w.heap.size w w' := by
  have et : tText.toList = [49, 56, 52, 52, 54, 55, 52, 52, 48, 55, 51, 55, 48, 57, 53, 53, 49, 54, 49, 54] := by rw [ByteArray.toList_eq]; rfl
  go_enter Try.func25, Try.ntmps25
  go_wp2_with fail
  refine (aw_mul _).mono ?_
  rintro e w1 ⟨rfl, hb⟩
  have hw := hb
  clear hb
  go_wp2_with fail
  refine at_call fun W2 hW => ?_
  obtain ⟨ba, hba⟩ : ∃ b, w1.heap.size = b := ⟨_, rfl⟩
  rw [hba]
  have Ba : Box W2 ba [.int .i64 1, .int .u64 0] 24 := by rw [hW]; exact Box.new hba.symm
  replace hw : Below w.heap.size w W2 := by have hl := hw.size; rw [hW]; go_grown
  clear hW hba
  refine (aw_fromm _).mono ?_
  rintro e w3 ⟨rfl, hb⟩
  replace Ba := Ba.ext hb rfl
  replace hw := hw.trans (hb.mono hw.size)
  clear hb
  go_wp2_with fail
  refine (aw_from1 _).mono ?_
  rintro e w4 ⟨rfl, hb⟩
  replace Ba := Ba.ext hb rfl
  replace hw := hw.trans (hb.mono hw.size)
  clear hb
  go_wp2_with fail
  refine (aw_add _).mono ?_
  rintro e w5 ⟨rfl, hb⟩
  replace Ba := Ba.ext hb rfl
  replace hw := hw.trans (hb.mono hw.size)
  clear hb
  go_wp2_with fail
  refine at_call fun W6 hW => ?_
  obtain ⟨bb, hbb⟩ : ∃ b, w5.heap.size = b := ⟨_, rfl⟩
  rw [hbb]
  have Bb : Box W6 bb [.int .i64 0, .int .u64 0] 24 := by rw [hW]; exact Box.new hbb.symm
  replace Ba : Box W6 (ba) [.int .i64 1, .int .u64 0] 24 := by rw [hW]; exact Ba.old _
  replace hw : Below w.heap.size w W6 := by have hl := hw.size; rw [hW]; go_grown
  clear hW hbb
  refine (aw_from1 _).mono ?_
  rintro e w7 ⟨rfl, hb⟩
  replace Ba := Ba.ext hb rfl
  replace Bb := Bb.ext hb rfl
  replace hw := hw.trans (hb.mono hw.size)
  clear hb
  go_wp2_with fail
  refine (aw_over _).mono ?_
  rintro e w8 ⟨rfl, hb⟩
  replace Ba := Ba.ext hb rfl
  replace Bb := Bb.ext hb rfl
  replace hw := hw.trans (hb.mono hw.size)
  clear hb
  go_wp2_with fail
  refine at_call fun W9 hW => ?_
  replace Ba : Box W9 (ba) [.int .i64 1, .int .u64 0] 24 := by rw [hW]; exact Ba.old _
  replace Bb : Box W9 (bb) [.int .i64 0, .int .u64 0] 24 := by rw [hW]; exact Bb.old _
  replace hw : Below w.heap.size w W9 := by have hl := hw.size; rw [hW]; go_grown
  clear hW
  refine (aw_low _).mono ?_
  rintro e w10 ⟨rfl, hb⟩
  replace Ba := Ba.ext hb rfl
  replace Bb := Bb.ext hb rfl
  replace hw := hw.trans (hb.mono hw.size)
  clear hb
  go_wp2_with fail
  refine at_call fun W11 hW => ?_
  obtain ⟨bc, hbc⟩ : ∃ b, w10.heap.size = b := ⟨_, rfl⟩
  rw [hbc]
  have Bc : Box W11 bc [.int .i64 (-9223372036854775808), .int .u64 0] 24 := by rw [hW]; exact Box.new hbc.symm
  replace Ba : Box W11 (ba) [.int .i64 1, .int .u64 0] 24 := by rw [hW]; exact Ba.old _
  replace Bb : Box W11 (bb) [.int .i64 0, .int .u64 0] 24 := by rw [hW]; exact Bb.old _
  replace hw : Below w.heap.size w W11 := by have hl := hw.size; rw [hW]; go_grown
  clear hW hbc
  refine (aw_high _).mono ?_
  rintro e w12 ⟨rfl, hb⟩
  replace Ba := Ba.ext hb rfl
  replace Bb := Bb.ext hb rfl
  replace Bc := Bc.ext hb rfl
  replace hw := hw.trans (hb.mono hw.size)
  clear hb
  go_wp2_with fail
  refine at_call fun W13 hW => ?_
  replace Ba : Box W13 (ba) [.int .i64 1, .int .u64 0] 24 := by rw [hW]; exact Ba.old _
  replace Bb : Box W13 (bb) [.int .i64 0, .int .u64 0] 24 := by rw [hW]; exact Bb.old _
  replace Bc : Box W13 (bc) [.int .i64 (-9223372036854775808), .int .u64 0] 24 := by rw [hW]; exact Bc.old _
  replace hw : Below w.heap.size w W13 := by have hl := hw.size; rw [hW]; go_grown
  clear hW
  refine (aw_minus _).mono ?_
  rintro e w14 ⟨rfl, hb⟩
  replace Ba := Ba.ext hb rfl
  replace Bb := Bb.ext hb rfl
  replace Bc := Bc.ext hb rfl
  replace hw := hw.trans (hb.mono hw.size)
  clear hb
  obtain ⟨xa, ya, za, va⟩ := Ba.facts
  obtain ⟨xb, yb, zb, vb⟩ := Bb.facts
  obtain ⟨xc, yc, zc, vc⟩ := Bc.facts
  go_wp2_with fail
  refine at_call fun W15 hW => ?_
  replace Ba : Box W15 (ba) [.int .i64 1, .int .u64 0] 24 := by rw [hW]; exact Ba.old _
  replace Bb : Box W15 (bb) [.int .i64 0, .int .u64 0] 24 := by rw [hW]; exact Bb.old _
  replace Bc : Box W15 (bc) [.int .i64 (-9223372036854775808), .int .u64 0] 24 := by rw [hW]; exact Bc.old _
  replace hw : Below w.heap.size w W15 := by have hl := hw.size; rw [hW]; go_grown
  clear hW
  refine (aw_text _).mono ?_
  rintro e w16 ⟨rfl, hb⟩
  clear xa ya za va xb yb zb vb xc yc zc vc
  replace Ba := Ba.ext hb rfl
  replace Bb := Bb.ext hb rfl
  replace Bc := Bc.ext hb rfl
  replace hw := hw.trans (hb.mono hw.size)
  clear hb
  obtain ⟨xa, ya, za, va⟩ := Ba.facts
  obtain ⟨xb, yb, zb, vb⟩ := Bb.facts
  obtain ⟨xc, yc, zc, vc⟩ := Bc.facts
  go_wp2_with fail
  refine (aw_sign _).mono ?_
  rintro e w17 ⟨rfl, hb⟩
  clear xa ya za va xb yb zb vb xc yc zc vc
  replace Ba := Ba.ext hb rfl
  replace Bb := Bb.ext hb rfl
  replace Bc := Bc.ext hb rfl
  replace hw := hw.trans (hb.mono hw.size)
  clear hb
  obtain ⟨xa, ya, za, va⟩ := Ba.facts
  obtain ⟨xb, yb, zb, vb⟩ := Bb.facts
  obtain ⟨xc, yc, zc, vc⟩ := Bc.facts
  go_wp2_with fail
  refine (aw_cmp _).mono ?_
  rintro e w18 ⟨rfl, hb⟩
  clear xa ya za va xb yb zb vb xc yc zc vc
  replace Ba := Ba.ext hb rfl
  replace Bb := Bb.ext hb rfl
  replace Bc := Bc.ext hb rfl
  replace hw := hw.trans (hb.mono hw.size)
  clear hb
  go_wp2
  go_ret
  exact ⟨rfl, hw⟩
end Go.Proofs.Ytkohcdkolkncaaa
