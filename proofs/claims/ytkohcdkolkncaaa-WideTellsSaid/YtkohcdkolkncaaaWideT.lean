/- The contracts of package wide's and of the document's own sums, differences, opposites, signs and order, over the program. -/
import Derived.Test.YtkohcdkolkncaaaRows
import Derived.Test.YtkohcdkolkncaaaWideG
import Derived.Test.YtkohcdkolkncaaaRegion
import Derived.WalkKit
import Derived.WalkSpells
import Derived.WalkLawsBesides
import Derived.Laws.Externs
import Derived.Deep.QuietTactic
import Derived.BigQuiet
import Derived.Lib.Hide
import Derived.Handy
import Derived.Laws.MathBits
namespace Go.Proofs.Ytkohcdkolkncaaa
open Go.RowKit
attribute [local go_sem] rOper rAt rUpon cell_set sg_i64 sg_u64 alloc_cell alloc_frozen

set_option maxRecDepth 100000 in
theorem len10 (w : World) : Calls Try.prog 48 #[.int .u64 10] w fun e w' => e = .returned (.int .i64 4) ∧ w = w' := by
  go_enter Try.func48, Try.ntmps48
  go_wp2
  go_ret
  exact ⟨ret_int (by kernel_rfl), rfl⟩
theorem lead10 (w : World) : Calls Try.prog 46 #[.int .u64 10] w fun e w' => e = .returned (.int .i64 60) ∧ w = w' := by
  go_enter Try.func46, Try.ntmps46
  go_wp2_with (first | (go_at_call 48; refine (len10 _).mono ?_; rintro e w' ⟨rfl, rfl⟩))
  go_ret
  exact ⟨rfl, rfl⟩
theorem or_60 (h l : Int) (h0 : 0 ≤ h) (h1 : h ≤ 9) (l0 : 0 ≤ l) (l1 : l ≤ 18446744073709551615) : bits .or .u64 (h * 1152921504606846976) (l / 16) = h * 1152921504606846976 + l / 16 := by
  obtain ⟨H, rfl⟩ := Int.eq_ofNat_of_zero_le h0
  obtain ⟨L, rfl⟩ := Int.eq_ofNat_of_zero_le l0
  have e1 : (H : Int) * 1152921504606846976 = ((H * 1152921504606846976 : Nat) : Int) := by omega
  have e2 : (L : Int) / 16 = ((L / 16 : Nat) : Int) := by omega
  have hb : H * 1152921504606846976 < 18446744073709551616 := by omega
  rw [e1, e2, bits_or_u64_nat _ _ hb (by omega)]
  have := Nat.shiftLeft_add_eq_or_of_lt (b := L / 16) (i := 60) (by omega) H
  rw [Nat.shiftLeft_eq] at this
  have h2 : H * 1152921504606846976 ||| L / 16 = H * 1152921504606846976 + L / 16 := this.symm
  rw [h2]
  omega
theorem and_mul60 (k : Int) (k0 : 0 ≤ k) (k1 : k ≤ 15) : bits .and .u64 (k * 1152921504606846976) 4294967295 = 0 := by
  rw [and_low32 _ (by omega) (by omega)]; omega
theorem div10_mid {X Y : Int} (y0 : 0 ≤ Y) (y1 : Y ≤ 17293822569102704640) :
    IntKind.u64.wrap (IntKind.u64.wrap (IntKind.u64.wrap (X * 4294967296) + Y / 4294967296) - IntKind.u64.wrap (X / 2684354560 * 11529215046068469760)) = X % 2684354560 * 4294967296 + Y / 4294967296 := by
  simp only [IntKind.wrap_u64]; omega
theorem div10_end {h l X Y Z : Int} (hX : X = h * 1152921504606846976 + l / 16) (hY : Y = l % 16 * 1152921504606846976) (hZ : Z = X % 2684354560 * 4294967296 + Y / 4294967296) :
    X / 2684354560 * 4294967296 + Z / 2684354560 = (h * 18446744073709551616 + l) / 10 ∧ (Z * 4294967296 % 18446744073709551616 - Z / 2684354560 * 11529215046068469760 % 18446744073709551616) % 18446744073709551616 / 1152921504606846976 = (h * 18446744073709551616 + l) % 10 := by
  omega
set_option maxRecDepth 100000 in
set_option maxHeartbeats 1000000 in
theorem div10_any (h l : Int) (h0 : 1 ≤ h) (h1 : h ≤ 9) (l0 : 0 ≤ l) (l1 : l ≤ 18446744073709551615) (w : World) :
    Calls Try.prog 43 #[.int .u64 h, .int .u64 l, .int .u64 10] w fun e w' =>
      e = .returned (.tuple #[.int .u64 ((h * 18446744073709551616 + l) / 10), .int .u64 ((h * 18446744073709551616 + l) % 10)]) ∧ w = w' := by
  obtain ⟨X, eX⟩ : ∃ X, bits .or .u64 (h * 1152921504606846976) (l / 16) = X := ⟨_, rfl⟩
  have hX : X = h * 1152921504606846976 + l / 16 := by rw [← eX]; exact or_60 h l (by omega) h1 l0 l1
  obtain ⟨Y, eY⟩ : ∃ Y, IntKind.u64.wrap (l * 1152921504606846976) = Y := ⟨_, rfl⟩
  have hY : Y = l % 16 * 1152921504606846976 := by rw [← eY, IntKind.wrap_u64]; omega
  have x0 : 0 ≤ X := by omega
  have x1 : X ≤ 11529215046068469759 := by omega
  have y0 : 0 ≤ Y := by omega
  have y1 : Y ≤ 17293822569102704640 := by omega
  have a1 : bits .and .u64 11529215046068469760 4294967295 = 0 := and_mul60 10 (by omega) (by omega)
  have a2 : bits .and .u64 Y 4294967295 = 0 := by rw [hY]; exact and_mul60 _ (by omega) (by omega)
  obtain ⟨Z, eZ⟩ : ∃ Z, IntKind.u64.wrap (IntKind.u64.wrap (IntKind.u64.wrap (X * 4294967296) + Y / 4294967296) - IntKind.u64.wrap (X / 2684354560 * 11529215046068469760)) = Z := ⟨_, rfl⟩
  have hZ : Z = X % 2684354560 * 4294967296 + Y / 4294967296 := by rw [← eZ]; exact div10_mid y0 y1
  have z0 : 0 ≤ Z := by omega
  have z1 : Z ≤ 11529215046068469759 := by omega
  have HE := Lib.hid (div10_end hX hY hZ)
  clear hX hY hZ
  have e0 : (h == 0) = false := by simp; omega
  have q0 : decide (4294967296 ≤ X / 2684354560) = false := by simp; omega
  have q1 : decide (4294967296 ≤ Z / 2684354560) = false := by simp; omega
  clear l1
  go_enter Try.func43, Try.ntmps43
  go_wp2_with (first | (go_at_call 46; refine (lead10 _).mono ?_; rintro e w' ⟨rfl, rfl⟩))
  go_rounds 1
  go_rounds 1
  go_ret2
  refine ⟨ret_two HE.out.1 ?_, rfl⟩
  simp only [IntKind.wrap_u64]
  have := HE.out.2
  omega
theorem div10_low (l : Int) (l0 : 0 ≤ l) (l1 : l ≤ 18446744073709551615) (w : World) :
    Calls Try.prog 43 #[.int .u64 0, .int .u64 l, .int .u64 10] w fun e w' =>
      e = .returned (.tuple #[.int .u64 (l / 10), .int .u64 (l % 10)]) ∧ ∃ n, w' = w.drewN n := by
  go_enter Try.func43, Try.ntmps43
  go_wp2
  go_quiet (fail)
  go_wp2
  go_ret2
  exact ⟨rfl, _, rfl⟩
theorem below_drewN (w : World) (n : Nat) : Below w.heap.size w (w.drewN n) := ⟨rfl, rfl, rfl, Nat.le_refl _, fun _ _ => rfl⟩
theorem div_any (h l : Int) (h0 : 0 ≤ h) (h1 : h ≤ 9) (l0 : 0 ≤ l) (l1 : l ≤ 18446744073709551615) (w : World) :
    Calls Try.prog 43 #[.int .u64 h, .int .u64 l, .int .u64 10] w fun e w' =>
      e = .returned (.tuple #[.int .u64 ((h * 18446744073709551616 + l) / 10), .int .u64 ((h * 18446744073709551616 + l) % 10)]) ∧ Below w.heap.size w w' := by
  rcases Int.lt_or_le 0 h with hp | hn
  · exact (div10_any h l (by omega) h1 l0 l1 w).mono fun e w' ⟨he, hw⟩ => ⟨he, hw ▸ Below.refl _ _⟩
  · have : h = 0 := by omega
    subst this
    rw [show 0 * 18446744073709551616 + l = l by omega]
    exact (div10_low l l0 l1 w).mono fun e w' ⟨he, n, hw⟩ => ⟨he, hw ▸ below_drewN w n⟩
/-- The last digit, and what is ahead of it. -/
theorem shorten_any (h l : Int) (h0 : 0 ≤ h) (h1 : h ≤ 18446744073709551615) (l0 : 0 ≤ l) (l1 : l ≤ 18446744073709551615) (w : World) :
    Calls Try.prog 37 #[.int .u64 h, .int .u64 l] w fun e w' =>
      e = .returned (.tuple #[.int .u64 (V h l / 10 / 18446744073709551616), .int .u64 (V h l / 10 % 18446744073709551616), .int .u8 (V h l % 10)]) ∧ Below w.heap.size w w' := by
  have e1 : V h l / 10 / 18446744073709551616 = h / 10 := by unfold V; omega
  have e2 : V h l / 10 % 18446744073709551616 = (h % 10 * 18446744073709551616 + l) / 10 := by unfold V; omega
  have e3 : V h l % 10 = (h % 10 * 18446744073709551616 + l) % 10 := by unfold V; omega
  rw [e1, e2, e3]
  clear e1 e2 e3
  have c := div_any (h % 10) l (by omega) (by omega) l0 l1
  obtain ⟨q, hq⟩ : ∃ q, (h % 10 * 18446744073709551616 + l) / 10 = q := ⟨_, rfl⟩
  obtain ⟨r, hr⟩ : ∃ r, (h % 10 * 18446744073709551616 + l) % 10 = r := ⟨_, rfl⟩
  rw [hq, hr] at c ⊢
  have r0 : 0 ≤ r := by omega
  have r1 : r ≤ 9 := by omega
  clear hq hr
  go_enter Try.func37, Try.ntmps37
  go_wp2_with fail
  refine (c _).mono ?_
  rintro e w' ⟨rfl, hw⟩
  go_wp2
  go_ret3
  exact ⟨rfl, hw⟩
/-- The opposite, as words. -/
theorem opposite_any (h l : Int) (h0 : 0 ≤ h) (h1 : h ≤ 18446744073709551615) (l0 : 0 ≤ l) (l1 : l ≤ 18446744073709551615) (w : World) :
    Calls Try.prog 36 #[.int .u64 h, .int .u64 l] w fun e w' =>
      e = .returned (.tuple #[.int .u64 (-V h l / 18446744073709551616 % 18446744073709551616), .int .u64 (-V h l % 18446744073709551616)]) ∧ w = w' := by
  have x1 := fun W => ext_sub0 0 l (by omega) (by omega) l0 l1 W
  obtain ⟨b0, b1⟩ := sbo_01 0 l
  have x2 := fun W => ext_sub 0 h (sbo 0 l) (by omega) (by omega) h0 h1 b0 b1 W
  have e1 : -V h l % 18446744073709551616 = slo 0 l := by unfold V slo; omega
  have e2 : -V h l / 18446744073709551616 % 18446744073709551616 = (0 - h - sbo 0 l) % 18446744073709551616 := by unfold V sbo; split <;> omega
  rw [e1, e2]
  clear e1 e2
  obtain ⟨t, ht⟩ : ∃ t, (0 - h - sbo 0 l) % 18446744073709551616 = t := ⟨_, rfl⟩
  obtain ⟨u, hu⟩ : ∃ u, (if (0 : Int) < h + sbo 0 l then (1 : Int) else 0) = u := ⟨_, rfl⟩
  rw [ht] at x2 ⊢
  rw [hu] at x2
  clear ht hu
  go_enter Try.func36, Try.ntmps36
  go_wp2
  go_ret2
  exact ⟨rfl, rfl⟩
/-- A digit more. -/
theorem lengthen_any (h l d : Int) (h0 : 0 ≤ h) (h1 : h ≤ 922337203685477580) (l0 : 0 ≤ l) (l1 : l ≤ 18446744073709551615) (d0 : 0 ≤ d) (d1 : d ≤ 9) (w : World) :
    Calls Try.prog 45 #[.int .u64 h, .int .u64 l, .int .u8 d] w fun e w' =>
      e = .returned (.tuple #[.int .u64 ((V h l * 10 + d) / 18446744073709551616), .int .u64 ((V h l * 10 + d) % 18446744073709551616)]) ∧ w = w' := by
  have c := mul64_any l 10 l0 l1 (by omega) (by omega)
  have x := fun W => ext_add (l * 10 % 18446744073709551616) d (by omega) d0 W
  have e1 : (V h l * 10 + d) % 18446744073709551616 = lo (l * 10 % 18446744073709551616) d := by unfold V lo; omega
  have e2 : (V h l * 10 + d) / 18446744073709551616 = h * 10 + l * 10 / 18446744073709551616 + cy (l * 10 % 18446744073709551616) d := by unfold V cy; omega
  have c0 : 0 ≤ cy (l * 10 % 18446744073709551616) d ∧ cy (l * 10 % 18446744073709551616) d ≤ 1 := by unfold cy; omega
  rw [e1, e2]
  clear e1 e2
  obtain ⟨p, hp⟩ : ∃ p, l * 10 % 18446744073709551616 = p := ⟨_, rfl⟩
  obtain ⟨q, hq⟩ : ∃ q, l * 10 / 18446744073709551616 = q := ⟨_, rfl⟩
  have q0 : 0 ≤ q := by omega
  have q1 : q ≤ 10 := by omega
  rw [hp, hq] at c
  rw [hp] at x c0 ⊢
  rw [hq]
  clear hp hq
  obtain ⟨c1, c2⟩ := c0
  go_enter Try.func45, Try.ntmps45
  go_wp2_with (first | (go_at_call 38; refine (c _).mono ?_; rintro e w' ⟨rfl, rfl⟩))
  go_ret2
  exact ⟨rfl, rfl⟩
end Go.Proofs.Ytkohcdkolkncaaa
