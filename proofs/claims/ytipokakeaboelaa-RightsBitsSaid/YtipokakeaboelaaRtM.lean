/- Rights as bits: what '&^' at int tells, as plain mathematics; a capability of nine numbers. -/
import Derived.Test.YtipokakeaboelaaRows
import Derived.Laws.BitsAllLaws
import Derived.ProofKit
namespace Go.Proofs.Ytipokakeaboelaa
open Go.RowKit

/-- A capability's nine numbers, as api.Cap has them. -/
structure Cp where
  p : Int
  i : Int
  n : Int
  h : Int
  l : Int
  r : Int
  u : Int
  fi : Int
  fn : Int

def kn (r : Int) : Bool := decide (0 ≤ r) && decide (r ≤ 15)
def vR (r : Int) : Bool := decide (1 ≤ r) && decide (r ≤ 15)
/-- No bit of a is none of b's. -/
def zR (a b : Int) : Bool := bits .andNot .i64 a b == 0
def wR (a b : Int) : Bool := vR a && vR b && zR a b
def caR (r m : Int) : Bool := kn r && zR m r
def nar (c p : Cp) : Bool := (c.fi == p.i) && (c.fn == p.n) && ((c.p == p.p) && wR c.r p.r && decide (c.u ≤ p.u) && ((c.l == p.l) || (p.l == 0)))

theorem zR_iff (a b : Int) : zR a b = true ↔ BitVec.ofInt 64 a &&& ~~~BitVec.ofInt 64 b = 0#64 := by
  have key : bits .andNot .i64 a b = IntKind.i64.wrap ((BitVec.ofInt 64 a &&& ~~~BitVec.ofInt 64 b).toNat : Int) := rfl
  unfold zR
  rw [key]
  simp only [beq_iff_eq]
  generalize BitVec.ofInt 64 a &&& ~~~BitVec.ofInt 64 b = x
  have h := x.isLt
  have ew : IntKind.i64.wrap (x.toNat : Int) = wrap64 (x.toNat : Int) := IntKind.wrap_i64 _
  rw [ew]
  unfold wrap64
  constructor
  · intro h0
    apply BitVec.eq_of_toNat_eq
    change x.toNat = 0
    omega
  · intro h0
    have : x.toNat = 0 := by rw [h0]; rfl
    omega
theorem zR_trans {a b c : Int} (h1 : zR a b = true) (h2 : zR b c = true) : zR a c = true := by
  rw [zR_iff] at *
  apply BitVec.eq_of_getLsbD_eq
  intro i hi
  have e1 := congrArg (fun x => x.getLsbD i) h1
  have e2 := congrArg (fun x => x.getLsbD i) h2
  simp [hi] at e1 e2 ⊢
  intro h
  exact e2 (e1 h)
theorem kn_eq {r : Int} (h0 : -9223372036854775808 ≤ r) (h1 : r ≤ 9223372036854775807) : zR r 15 = kn r := by
  have e : zR r 15 = true ↔ kn r = true := by
    rw [zR_iff]
    have hx : (BitVec.ofInt 64 r).toNat = (r % 18446744073709551616).toNat := by simp [BitVec.toNat_ofInt]
    have hn : (BitVec.ofInt 64 r &&& ~~~BitVec.ofInt 64 15).toNat = (BitVec.ofInt 64 r).toNat % 18446744073709551616 / 16 * 16 := by
      rw [BitVec.toNat_and]
      exact nat_hi64_4 _
    unfold kn
    simp only [Bool.and_eq_true, decide_eq_true_eq]
    constructor
    · intro h
      have := congrArg BitVec.toNat h
      rw [hn, hx] at this
      simp at this
      omega
    · intro h
      apply BitVec.eq_of_toNat_eq
      rw [hn, hx]
      simp
      omega
  cases h2 : zR r 15 <;> cases h3 : kn r <;> simp_all
theorem kn_of {r m : Int} (k0 : -9223372036854775808 ≤ m) (k1 : m ≤ 9223372036854775807) (h0 : -9223372036854775808 ≤ r) (h1 : r ≤ 9223372036854775807) (hr : kn r = true) (hm : zR m r = true) : kn m = true := by
  rw [← kn_eq h0 h1] at hr
  rw [← kn_eq k0 k1]
  exact zR_trans hm hr
end Go.Proofs.Ytipokakeaboelaa
