/- Numbers of 128 bits as whole numbers: the plain arithmetic that the walks of package wide and of the document's own answer need. -/
import Derived.WalkKit
namespace Go.Proofs.Ytipokakeaboelaa
open Go.RowKit

def M : Int := 18446744073709551616
def V (h l : Int) : Int := h * 18446744073709551616 + l
def fits (n : Int) : Bool := decide (-170141183460469231731687303715884105728 ≤ n) && decide (n ≤ 170141183460469231731687303715884105727)
def cH (n : Int) : Int := if fits n = true then n / 18446744073709551616 else 0
def cL (n : Int) : Int := if fits n = true then n % 18446744073709551616 else 0
def sgn (n : Int) : Int := if n < 0 then -1 else if 0 < n then 1 else 0
def lo (x y : Int) : Int := (x + y) % 18446744073709551616
def cy (x y : Int) : Int := (x + y) / 18446744073709551616
def slo (x y : Int) : Int := (x - y) % 18446744073709551616
def sbo (x y : Int) : Int := if x < y then 1 else 0

/-- The words of a number that is one. -/
structure Ok (h l : Int) : Prop where
  h0 : -9223372036854775808 ≤ h
  h1 : h ≤ 9223372036854775807
  l0 : 0 ≤ l
  l1 : l ≤ 18446744073709551615

theorem fits_iff {n : Int} : fits n = true ↔ -170141183460469231731687303715884105728 ≤ n ∧ n ≤ 170141183460469231731687303715884105727 := by
  simp [fits]
theorem fits_not {n : Int} : fits n = false ↔ ¬ (-170141183460469231731687303715884105728 ≤ n ∧ n ≤ 170141183460469231731687303715884105727) := by
  simp [fits]
theorem fits_V {h l : Int} (k : Ok h l) : fits (V h l) = true := by
  obtain ⟨a, b, c, d⟩ := k; rw [fits_iff]; unfold V; omega
theorem ok_c (n : Int) : Ok (cH n) (cL n) := by
  unfold cH cL
  split
  · rename_i h; rw [fits_iff] at h; exact ⟨by omega, by omega, by omega, by omega⟩
  · exact ⟨by omega, by omega, by omega, by omega⟩
theorem V_c {n : Int} (h : fits n = true) : V (cH n) (cL n) = n := by
  unfold cH cL V; rw [if_pos h, if_pos h]; omega
theorem cH_V {h l : Int} (k : Ok h l) : cH (V h l) = h := by
  have := fits_V k; unfold cH; rw [if_pos this]; obtain ⟨a, b, c, d⟩ := k; unfold V; omega
theorem cL_V {h l : Int} (k : Ok h l) : cL (V h l) = l := by
  have := fits_V k; unfold cL; rw [if_pos this]; obtain ⟨a, b, c, d⟩ := k; unfold V; omega
theorem c_not {n : Int} (h : fits n = false) : cH n = 0 ∧ cL n = 0 := by
  unfold cH cL; rw [h]; exact ⟨rfl, rfl⟩
theorem cy_01 {x y : Int} (h0 : 0 ≤ x) (h1 : x ≤ 18446744073709551615) (k0 : 0 ≤ y) (k1 : y ≤ 18446744073709551615) : 0 ≤ cy x y ∧ cy x y ≤ 1 := by
  unfold cy; omega
theorem sbo_01 (x y : Int) : 0 ≤ sbo x y ∧ sbo x y ≤ 1 := by unfold sbo; split <;> omega
theorem w64 (n : Int) : wrap64 n = (n + 9223372036854775808) % 18446744073709551616 - 9223372036854775808 := by
  simp only [wrap64]

/-- The high word of a sum, as the code has it. -/
def ahi (h1 l1 h2 l2 : Int) : Int := wrap64 (wrap64 (h1 + h2) + cy l1 l2)

theorem add_over {h1 l1 h2 l2 : Int} (k : Ok h1 l1) (q : Ok h2 l2) (c : h1 < 0 ↔ h2 < 0) (d : ¬ (wrap64 (wrap64 (h1 + h2) + cy l1 l2) < 0 ↔ h2 < 0)) : fits (V h1 l1 + V h2 l2) = false := by
  obtain ⟨a1, a2, a3, a4⟩ := k; obtain ⟨b1, b2, b3, b4⟩ := q
  rw [fits_not]; simp only [w64, cy] at d; unfold V; omega
theorem add_in {h1 l1 h2 l2 : Int} (k : Ok h1 l1) (q : Ok h2 l2) (c : (h1 < 0 ↔ h2 < 0) → (wrap64 (wrap64 (h1 + h2) + cy l1 l2) < 0 ↔ h2 < 0)) :
    fits (V h1 l1 + V h2 l2) = true ∧ cH (V h1 l1 + V h2 l2) = wrap64 (wrap64 (h1 + h2) + cy l1 l2) ∧ cL (V h1 l1 + V h2 l2) = lo l1 l2 := by
  obtain ⟨a1, a2, a3, a4⟩ := k; obtain ⟨b1, b2, b3, b4⟩ := q
  have e : fits (V h1 l1 + V h2 l2) = true := by
    rw [fits_iff]; simp only [w64, cy] at c; unfold V; omega
  refine ⟨e, ?_, ?_⟩
  · unfold cH; rw [if_pos e]; rw [fits_iff] at e; simp only [w64, cy] at c ⊢; unfold V at e ⊢; omega
  · unfold cL; rw [if_pos e]; unfold V lo; omega
theorem sub_over {h1 l1 h2 l2 : Int} (k : Ok h1 l1) (q : Ok h2 l2) (c : ¬ (h1 < 0 ↔ h2 < 0)) (d : ¬ (wrap64 (wrap64 (h1 - h2) - sbo l1 l2) < 0 ↔ h1 < 0)) : fits (V h1 l1 - V h2 l2) = false := by
  obtain ⟨a1, a2, a3, a4⟩ := k; obtain ⟨b1, b2, b3, b4⟩ := q
  rw [fits_not]; unfold sbo at d; split at d <;> (simp only [w64] at d; unfold V; omega)
theorem sub_in {h1 l1 h2 l2 : Int} (k : Ok h1 l1) (q : Ok h2 l2) (c : ¬ (h1 < 0 ↔ h2 < 0) → (wrap64 (wrap64 (h1 - h2) - sbo l1 l2) < 0 ↔ h1 < 0)) :
    fits (V h1 l1 - V h2 l2) = true ∧ cH (V h1 l1 - V h2 l2) = wrap64 (wrap64 (h1 - h2) - sbo l1 l2) ∧ cL (V h1 l1 - V h2 l2) = slo l1 l2 := by
  obtain ⟨a1, a2, a3, a4⟩ := k; obtain ⟨b1, b2, b3, b4⟩ := q
  have e : fits (V h1 l1 - V h2 l2) = true := by
    rw [fits_iff]; unfold sbo at c; split at c <;> (simp only [w64] at c; unfold V; omega)
  refine ⟨e, ?_, ?_⟩
  · unfold cH; rw [if_pos e]; rw [fits_iff] at e; unfold sbo at c ⊢; split at c <;> rename_i hs <;> simp only [hs, if_true, if_false] <;> (simp only [w64] at c ⊢; unfold V at e ⊢; omega)
  · unfold cL; rw [if_pos e]; unfold V slo; omega
theorem V_inj {h1 l1 h2 l2 : Int} (k : Ok h1 l1) (q : Ok h2 l2) (e : V h1 l1 = V h2 l2) : h1 = h2 ∧ l1 = l2 := by
  obtain ⟨a1, a2, a3, a4⟩ := k; obtain ⟨b1, b2, b3, b4⟩ := q
  unfold V at e; omega
theorem sg_i64 : IntKind.i64.signed = true := rfl
theorem sg_u64 : IntKind.u64.signed = false := rfl
theorem bv_not (n : Int) : BitVec.ofInt 64 (-1) ^^^ BitVec.ofInt 64 n = BitVec.ofInt 64 (-1 - n) := by
  have h1 : BitVec.ofInt 64 (-1) = BitVec.allOnes 64 := by decide
  have h3 : BitVec.ofInt 64 (-n) = ~~~BitVec.ofInt 64 n + 1#64 := by rw [BitVec.ofInt_neg, BitVec.neg_eq_not_add]
  have h2 : ∀ x : BitVec 64, BitVec.allOnes 64 + (x + 1#64) = x := fun x => by
    rw [BitVec.add_comm x, ← BitVec.add_assoc]
    have : BitVec.allOnes 64 + 1#64 = 0#64 := by decide
    rw [this, BitVec.zero_add]
  rw [Int.sub_eq_add_neg, BitVec.ofInt_add, h3, h1, BitVec.allOnes_xor, h2]
theorem xor_i64 (n : Int) (h0 : -9223372036854775808 ≤ n) (h1 : n ≤ 9223372036854775807) : bits .xor .i64 (-1) n = -1 - n := by
  show IntKind.i64.wrap ((BitVec.ofInt 64 (-1) ^^^ BitVec.ofInt 64 n).toNat : Int) = _
  rw [bv_not, BitVec.toNat_ofInt, IntKind.wrap_i64]
  omega
theorem xor_u64 (n : Int) (h0 : 0 ≤ n) (h1 : n ≤ 18446744073709551615) : bits .xor .u64 IntKind.u64.max n = 18446744073709551615 - n := by
  show IntKind.u64.wrap ((BitVec.ofInt 64 (IntKind.u64.max) ^^^ BitVec.ofInt 64 n).toNat : Int) = _
  have : BitVec.ofInt 64 IntKind.u64.max = BitVec.ofInt 64 (-1) := by decide
  rw [this, bv_not, BitVec.toNat_ofInt, IntKind.wrap_u64]
  omega
/- The document's own answer reckons modulo 2^128. -/
def mH (n : Int) : Int := wrap64 (n / 18446744073709551616)
def mL (n : Int) : Int := n % 18446744073709551616
theorem ok_m (n : Int) : Ok (mH n) (mL n) := by
  unfold mH mL wrap64; exact ⟨by omega, by omega, by omega, by omega⟩
theorem V_m (n : Int) : ∃ k : Int, V (mH n) (mL n) = n + k * 340282366920938463463374607431768211456 := by
  unfold mH mL wrap64 V
  exact ⟨-((n / 18446744073709551616 + 9223372036854775808) / 18446744073709551616), by omega⟩
theorem m_add (n k : Int) : mH (n + k * 340282366920938463463374607431768211456) = mH n ∧ mL (n + k * 340282366920938463463374607431768211456) = mL n := by
  unfold mH mL wrap64; omega
theorem m_c {n : Int} (h : fits n = true) : mH n = cH n ∧ mL n = cL n := by
  unfold cH cL; rw [if_pos h, if_pos h]; rw [fits_iff] at h; unfold mH mL wrap64; omega
theorem m_V {h l : Int} (k : Ok h l) : mH (V h l) = h ∧ mL (V h l) = l := by
  obtain ⟨a, b, c, d⟩ := k; unfold mH mL wrap64 V; omega
theorem m_cong {a b : Int} (k : Int) (e : a = b + k * 340282366920938463463374607431768211456) : mH a = mH b ∧ mL a = mL b := by
  subst e; exact m_add b k
/-- What the words' sum is, as the document's own answer reckons it. -/
theorem m_sum {h1 l1 h2 l2 : Int} (k : Ok h1 l1) (q : Ok h2 l2) : mL (V h1 l1 + V h2 l2) = lo l1 l2 ∧ mH (V h1 l1 + V h2 l2) = wrap64 (wrap64 (h1 + h2) + cy l1 l2) := by
  obtain ⟨a1, a2, a3, a4⟩ := k; obtain ⟨b1, b2, b3, b4⟩ := q
  unfold mL mH lo cy wrap64 V; omega
theorem mul_bound (a b : Int) (a0 : -9223372036854775808 ≤ a) (a1 : a ≤ 9223372036854775807) (b0 : -9223372036854775808 ≤ b) (b1 : b ≤ 9223372036854775807) :
    -85070591730234615865843651857942052864 ≤ a * b ∧ a * b ≤ 85070591730234615865843651857942052864 := by
  have h1 : (a.natAbs : Int) * b.natAbs ≤ 9223372036854775808 * 9223372036854775808 := by
    have : a.natAbs * b.natAbs ≤ 9223372036854775808 * 9223372036854775808 := Nat.mul_le_mul (by omega) (by omega)
    have e : (a.natAbs : Int) * b.natAbs = ((a.natAbs * b.natAbs : Nat) : Int) := (Int.natCast_mul _ _).symm
    rw [e]
    generalize a.natAbs * b.natAbs = p at *
    omega
  have h2 : (a * b).natAbs = a.natAbs * b.natAbs := Int.natAbs_mul a b
  have h3 : ((a * b).natAbs : Int) = (a.natAbs : Int) * b.natAbs := by rw [h2]; exact Int.natCast_mul _ _
  generalize a * b = p at *
  omega
theorem fits_mul (a b : Int) (a0 : -9223372036854775808 ≤ a) (a1 : a ≤ 9223372036854775807) (b0 : -9223372036854775808 ≤ b) (b1 : b ≤ 9223372036854775807) : fits (a * b) = true := by
  have := mul_bound a b a0 a1 b0 b1
  rw [fits_iff]; omega
/-- A product of two ints, out of the product of their words. -/
theorem mul_words (a b : Int) (a0 : -9223372036854775808 ≤ a) (a1 : a ≤ 9223372036854775807) (b0 : -9223372036854775808 ≤ b) (b1 : b ≤ 9223372036854775807) :
    cL (a * b) = (IntKind.u64.wrap a * IntKind.u64.wrap b) % 18446744073709551616 ∧
    (0 ≤ a → 0 ≤ b → cH (a * b) = wrap64 (IntKind.u64.wrap a * IntKind.u64.wrap b / 18446744073709551616)) ∧
    (a < 0 → 0 ≤ b → cH (a * b) = wrap64 (IntKind.u64.wrap (IntKind.u64.wrap a * IntKind.u64.wrap b / 18446744073709551616 - IntKind.u64.wrap b))) ∧
    (0 ≤ a → b < 0 → cH (a * b) = wrap64 (IntKind.u64.wrap (IntKind.u64.wrap a * IntKind.u64.wrap b / 18446744073709551616 - IntKind.u64.wrap a))) ∧
    (a < 0 → b < 0 → cH (a * b) = wrap64 (IntKind.u64.wrap (IntKind.u64.wrap (IntKind.u64.wrap a * IntKind.u64.wrap b / 18446744073709551616 - IntKind.u64.wrap b) - IntKind.u64.wrap a))) := by
  have ef := fits_mul a b a0 a1 b0 b1
  have bd := mul_bound a b a0 a1 b0 b1
  unfold cL cH
  rw [if_pos ef, if_pos ef]
  have ea : a < 0 → IntKind.u64.wrap a = a + 18446744073709551616 := fun h => by rw [IntKind.wrap_u64]; omega
  have ea' : 0 ≤ a → IntKind.u64.wrap a = a := fun h => by rw [IntKind.wrap_u64]; omega
  have eb : b < 0 → IntKind.u64.wrap b = b + 18446744073709551616 := fun h => by rw [IntKind.wrap_u64]; omega
  have eb' : 0 ≤ b → IntKind.u64.wrap b = b := fun h => by rw [IntKind.wrap_u64]; omega
  have m1 : (a + 18446744073709551616) * b = a * b + 18446744073709551616 * b := Int.add_mul _ _ _
  have m2 : a * (b + 18446744073709551616) = a * b + a * 18446744073709551616 := Int.mul_add _ _ _
  have m3 : (a + 18446744073709551616) * (b + 18446744073709551616) = a * b + a * 18446744073709551616 + (18446744073709551616 * b + 18446744073709551616 * 18446744073709551616) := by rw [Int.mul_add, Int.add_mul, Int.add_mul]; omega
  refine ⟨?_, fun ha hb => ?_, fun ha hb => ?_, fun ha hb => ?_, fun ha hb => ?_⟩
  · rcases Int.lt_or_le a 0 with ha | ha <;> rcases Int.lt_or_le b 0 with hb | hb
    · rw [ea ha, eb hb, m3]; generalize a * b = p at *; omega
    · rw [ea ha, eb' hb, m1]; generalize a * b = p at *; omega
    · rw [ea' ha, eb hb, m2]; generalize a * b = p at *; omega
    · rw [ea' ha, eb' hb]
  · rw [ea' ha, eb' hb]; generalize a * b = p at *; unfold wrap64; omega
  · rw [ea ha, eb' hb, m1, IntKind.wrap_u64]; generalize a * b = p at *; unfold wrap64; omega
  · rw [ea' ha, eb hb, m2, IntKind.wrap_u64]; generalize a * b = p at *; unfold wrap64; omega
  · rw [ea ha, eb hb, m3, IntKind.wrap_u64, IntKind.wrap_u64]; generalize a * b = p at *; unfold wrap64; omega
theorem ok_w (x y : Int) : Ok (wrap64 x) (IntKind.u64.wrap y) := by
  rw [IntKind.wrap_u64]; unfold wrap64; exact ⟨by omega, by omega, by omega, by omega⟩
/-- Half by half. -/
theorem halves (X Y : Int) (x0 : 0 ≤ X) (x1 : X ≤ 9223372036854775808) (y0 : 0 ≤ Y) (y1 : Y ≤ 9223372036854775808) :
    V (wrap64 (IntKind.u64.wrap (X / 4294967296 * (Y / 4294967296)))) (IntKind.u64.wrap (X % 4294967296 * (Y % 4294967296))) +
    V (wrap64 (IntKind.u64.wrap (X % 4294967296 * (Y / 4294967296)) / 4294967296)) (IntKind.u64.wrap (IntKind.u64.wrap (X % 4294967296 * (Y / 4294967296)) * 4294967296)) +
    V (wrap64 (IntKind.u64.wrap (X / 4294967296 * (Y % 4294967296)) / 4294967296)) (IntKind.u64.wrap (IntKind.u64.wrap (X / 4294967296 * (Y % 4294967296)) * 4294967296)) = X * Y := by
  have b1 : 0 ≤ X / 4294967296 ∧ X / 4294967296 ≤ 2147483648 := by omega
  have b2 : 0 ≤ X % 4294967296 ∧ X % 4294967296 ≤ 4294967295 := by omega
  have b3 : 0 ≤ Y / 4294967296 ∧ Y / 4294967296 ≤ 2147483648 := by omega
  have b4 : 0 ≤ Y % 4294967296 ∧ Y % 4294967296 ≤ 4294967295 := by omega
  have ex : X = X / 4294967296 * 4294967296 + X % 4294967296 := by omega
  have ey : Y = Y / 4294967296 * 4294967296 + Y % 4294967296 := by omega
  generalize X / 4294967296 = xh at *
  generalize X % 4294967296 = xl at *
  generalize Y / 4294967296 = yh at *
  generalize Y % 4294967296 = yl at *
  have pb : ∀ p q P Q : Int, 0 ≤ p → p ≤ P → 0 ≤ q → q ≤ Q → 0 ≤ p * q ∧ p * q ≤ P * Q := fun p q P Q h1 h2 h3 h4 =>
    ⟨Int.mul_nonneg h1 h3, Int.mul_le_mul h2 h4 h3 (Int.le_trans h1 h2)⟩
  have p1 := pb xh yh _ _ b1.1 b1.2 b3.1 b3.2
  have p2 := pb xl yl _ _ b2.1 b2.2 b4.1 b4.2
  have p3 := pb xl yh _ _ b2.1 b2.2 b3.1 b3.2
  have p4 := pb xh yl _ _ b1.1 b1.2 b4.1 b4.2
  have e : X * Y = xh * yh * 18446744073709551616 + (xh * yl + xl * yh) * 4294967296 + xl * yl := by rw [ex, ey]; grind
  rw [e]
  generalize xh * yh = A at *
  generalize xl * yl = B at *
  generalize xl * yh = C at *
  generalize xh * yl = D at *
  simp only [IntKind.wrap_u64]
  unfold wrap64 V
  omega
theorem sub_m {h1 l1 h2 l2 : Int} (k : Ok h1 l1) (q : Ok h2 l2) :
    ((¬ (h1 < 0 ↔ h2 < 0) ∧ ¬ (mH (V h1 l1 - V h2 l2) < 0 ↔ h1 < 0)) → fits (V h1 l1 - V h2 l2) = false) ∧
    (¬ (¬ (h1 < 0 ↔ h2 < 0) ∧ ¬ (mH (V h1 l1 - V h2 l2) < 0 ↔ h1 < 0)) → fits (V h1 l1 - V h2 l2) = true) := by
  obtain ⟨a1, a2, a3, a4⟩ := k; obtain ⟨b1, b2, b3, b4⟩ := q
  refine ⟨fun h => ?_, fun h => ?_⟩
  · rw [fits_not]; unfold mH wrap64 V at *; omega
  · rw [fits_iff]; unfold mH wrap64 V at *; omega
theorem lo_lt {l1 l2 : Int} (a : 0 ≤ l1) (b : l1 ≤ 18446744073709551615) (c : 0 ≤ l2) (d : l2 ≤ 18446744073709551615) : (lo l1 l2 < l1 → cy l1 l2 = 1) ∧ (l1 ≤ lo l1 l2 → cy l1 l2 = 0) := by
  unfold lo cy; omega
end Go.Proofs.Ytipokakeaboelaa
