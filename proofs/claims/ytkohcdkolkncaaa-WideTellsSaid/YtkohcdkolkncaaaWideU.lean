/- The contracts of package wide's and of the document's own sums, differences, opposites, signs and order, over the program. -/
import Derived.Test.YtkohcdkolkncaaaRows
import Derived.Test.YtkohcdkolkncaaaWideS
import Derived.Test.YtkohcdkolkncaaaPost
import Derived.Test.YtkohcdkolkncaaaWideN
import Derived.Test.YtkohcdkolkncaaaRegion
import Derived.WalkKit
import Derived.WalkSpells
import Derived.WalkLawsBesides
import Derived.Laws.Externs
import Derived.Deep.QuietTactic
import Derived.BigQuiet
import Derived.Lib.Hide
import Derived.Handy
import Derived.Laws.BytesArg
import Derived.Lib.Strings
import Derived.Lib.IndexBytes
import Derived.Laws.MathBits
namespace Go.Proofs.Ytkohcdkolkncaaa
open Go.RowKit
attribute [local go_sem] rOper rAt rUpon cell_set sg_i64 sg_u64 alloc_cell alloc_frozen

def RTextRel (w : World) (U : Nat) (pre : ByteArray) (a b c d : Value) (wr : World) : Prop :=
  ∃ (m u k : Nat) (suf : List UInt8), m + k = 40 ∧ k ≤ 39 ∧ d = .string pre ∧ a = .int .u64 ((u : Int) / 18446744073709551616) ∧ b = .int .u64 ((u : Int) % 18446744073709551616) ∧ c = .string ⟨suf.toArray⟩ ∧ u < 10 ^ (39 - k) ∧ u ≤ 170141183460469231731687303715884105728 ∧
    suf.length = k ∧ decF 40 U = decF m u ++ suf ∧ Below w.heap.size w wr
theorem or_32 (a b : Int) (a0 : 0 ≤ a) (a1 : a ≤ 4294967295) (b0 : 0 ≤ b) (b1 : b ≤ 4294967295) : bits .or .u64 (a * 4294967296) b = a * 4294967296 + b := by
  obtain ⟨A, rfl⟩ := Int.eq_ofNat_of_zero_le a0
  obtain ⟨B, rfl⟩ := Int.eq_ofNat_of_zero_le b0
  have e1 : (A : Int) * 4294967296 = ((A * 4294967296 : Nat) : Int) := by omega
  rw [e1, bits_or_u64_nat _ _ (by omega) (by omega)]
  have := Nat.shiftLeft_add_eq_or_of_lt (b := B) (i := 32) (by omega) A
  rw [Nat.shiftLeft_eq] at this
  have h2 : A * 4294967296 ||| B = A * 4294967296 + B := this.symm
  rw [h2]
  omega
/-- The numbers of one round, quarter by quarter. -/
structure Quarters (u p q q0 q1 q2 q3 r0 v1 r1 v2 r2 v3 r3 P' Q' : Int) : Prop where
  hq1 : bits .and .u64 p 4294967295 = q1
  hq3 : bits .and .u64 q 4294967295 = q3
  hq0 : p / 4294967296 = q0
  hq2 : q / 4294967296 = q2
  o0 : bits .or .u64 0 q0 = q0
  e0 : q0 % 10 = r0
  o1 : bits .or .u64 (r0 * 4294967296) q1 = v1
  e1 : v1 % 10 = r1
  o2 : bits .or .u64 (r1 * 4294967296) q2 = v2
  e2 : v2 % 10 = r2
  o3 : bits .or .u64 (r2 * 4294967296) q3 = v3
  e3 : v3 % 10 = r3
  oP : bits .or .u64 (q0 / 10 * 4294967296) (v1 / 10) = P'
  oQ : bits .or .u64 (v2 / 10 * 4294967296) (v3 / 10) = Q'
  hP : P' = u / 10 / 18446744073709551616
  hQ : Q' = u / 10 % 18446744073709551616
  hr : r3 = u % 10
  b0 : 0 ≤ q0 ∧ q0 ≤ 4294967295
  b1 : 0 ≤ v1 ∧ v1 ≤ 42949672959
  b2 : 0 ≤ v2 ∧ v2 ≤ 42949672959
  b3 : 0 ≤ v3 ∧ v3 ≤ 42949672959
  c0 : 0 ≤ r0 ∧ r0 ≤ 9
  c1 : 0 ≤ r1 ∧ r1 ≤ 9
  c2 : 0 ≤ r2 ∧ r2 ≤ 9
  c3 : 0 ≤ r3 ∧ r3 ≤ 9
theorem quarters (u : Nat) (hu : u ≤ 170141183460469231731687303715884105728) : ∃ q0 q1 q2 q3 r0 v1 r1 v2 r2 v3 r3 P' Q', Quarters u ((u : Int) / 18446744073709551616) ((u : Int) % 18446744073709551616) q0 q1 q2 q3 r0 v1 r1 v2 r2 v3 r3 P' Q' := by
  obtain ⟨p, hp⟩ : ∃ p, (u : Int) / 18446744073709551616 = p := ⟨_, rfl⟩
  obtain ⟨q, hq⟩ : ∃ q, (u : Int) % 18446744073709551616 = q := ⟨_, rfl⟩
  rw [hp, hq]
  have pb : 0 ≤ p ∧ p ≤ 9223372036854775808 := by omega
  have qb : 0 ≤ q ∧ q ≤ 18446744073709551615 := by omega
  have a1 := and_low32 p pb.1 (by omega)
  have a3 := and_low32 q qb.1 (by omega)
  obtain ⟨q0, h0⟩ : ∃ x, p / 4294967296 = x := ⟨_, rfl⟩
  obtain ⟨q1, h1⟩ : ∃ x, p % 4294967296 = x := ⟨_, rfl⟩
  obtain ⟨q2, h2⟩ : ∃ x, q / 4294967296 = x := ⟨_, rfl⟩
  obtain ⟨q3, h3⟩ : ∃ x, q % 4294967296 = x := ⟨_, rfl⟩
  have eu : (u : Int) = ((q0 * 4294967296 + q1) * 4294967296 + q2) * 4294967296 + q3 := by omega
  have c0 : 0 ≤ q0 ∧ q0 ≤ 4294967295 := by omega
  have c1 : 0 ≤ q1 ∧ q1 ≤ 4294967295 := by omega
  have c2 : 0 ≤ q2 ∧ q2 ≤ 4294967295 := by omega
  have c3 : 0 ≤ q3 ∧ q3 ≤ 4294967295 := by omega
  have ez : bits .or .u64 0 q0 = q0 := by have := or_32 0 q0 (by omega) (by omega) c0.1 c0.2; simpa using this
  refine ⟨q0, q1, q2, q3, q0 % 10, q0 % 10 * 4294967296 + q1, (q0 % 10 * 4294967296 + q1) % 10, (q0 % 10 * 4294967296 + q1) % 10 * 4294967296 + q2, ((q0 % 10 * 4294967296 + q1) % 10 * 4294967296 + q2) % 10, ((q0 % 10 * 4294967296 + q1) % 10 * 4294967296 + q2) % 10 * 4294967296 + q3, (((q0 % 10 * 4294967296 + q1) % 10 * 4294967296 + q2) % 10 * 4294967296 + q3) % 10,
    q0 / 10 * 4294967296 + (q0 % 10 * 4294967296 + q1) / 10, ((q0 % 10 * 4294967296 + q1) % 10 * 4294967296 + q2) / 10 * 4294967296 + (((q0 % 10 * 4294967296 + q1) % 10 * 4294967296 + q2) % 10 * 4294967296 + q3) / 10, ?_⟩
  constructor
  · rw [a1, h1]
  · rw [a3, h3]
  · exact h0
  · exact h2
  · exact ez
  · rfl
  · exact or_32 _ _ (by omega) (by omega) c1.1 c1.2
  · rfl
  · exact or_32 _ _ (by omega) (by omega) c2.1 c2.2
  · rfl
  · exact or_32 _ _ (by omega) (by omega) c3.1 c3.2
  · rfl
  · exact or_32 _ _ (by omega) (by omega) (by omega) (by omega)
  · exact or_32 _ _ (by omega) (by omega) (by omega) (by omega)
  all_goals omega
theorem one_byte (wr : World) (x : Int) (X : Array Value) (n : Nat) : (convert 65 9 (.slice (some ⟨wr.heap.size + 1, 0, none⟩) 1 1)).run Try.prog (((wr.alloc (.cells X 67)).drewN n).alloc (.cells #[.int .u8 x] 5)) =
    .ok (.string ⟨#[UInt8.ofNat x.toNat]⟩) (((wr.alloc (.cells X 67)).drewN n).alloc (.cells #[.int .u8 x] 5)) := by
  have hB : Box (((wr.alloc (.cells X 67)).drewN n).alloc (.cells #[.int .u8 x] 5)) (wr.heap.size + 1) [.int .u8 x] 5 := Box.new (by simp)
  have h := run_convert_bytes_arg (P := Try.prog) (((wr.alloc (.cells X 67)).drewN n).alloc (.cells #[.int .u8 x] 5)) 65 5 (by kernel_rfl) (by kernel_rfl) (wr.heap.size + 1) 0 1 1 [x] rfl (fun i hi => by
    have : i = 0 := by omega
    subst this
    rw [hB.facts.1]; rfl) 9 (by kernel_rfl)
  rw [h]
  rfl
theorem cat_bytes (a b : List UInt8) : (⟨a.toArray⟩ : ByteArray) ++ ⟨b.toArray⟩ = ⟨(a ++ b).toArray⟩ := by
  apply WideShapes.bytes_inj
  simp
set_option maxHeartbeats 2000000 in
theorem rtext_pos (h l : Int) (k : Ok h l) (hp : 0 < V h l) (w : World) :
    Calls Try.prog 22 #[.agg #[.int .i64 h, .int .u64 l]] w fun e w' => e = .returned (.string ⟨(textV (V h l)).toArray⟩) ∧ Below w.heap.size w w' := by
  have h0 : 0 ≤ h := by obtain ⟨a, b, c, d⟩ := k; unfold V at hp; omega
  have hh := k.h1
  have l0 := k.l0
  have l1 := k.l1
  have dn : decide (h < 0) = false := by simpa using h0
  obtain ⟨U, hU⟩ := Int.eq_ofNat_of_zero_le (Int.le_of_lt hp)
  have HP := Lib.hid hp
  have HU := Lib.hid hU
  have hUb : U ≤ 170141183460469231731687303715884105728 := by
    have := fits_V k
    rw [fits_iff] at this
    omega
  have HU2 := Lib.hid hUb
  have HUB : Hid (U < 10 ^ 39) := by
    have e : (10 : Nat) ^ 39 = 1000000000000000000000000000000000000000 := rfl
    have h2 : U < 10 ^ 39 := by omega
    exact h2
  have s3 : h = (U : Int) / 18446744073709551616 := by have := hU; unfold V at this; omega
  have s4 : l = (U : Int) % 18446744073709551616 := by have := hU; unfold V at this; omega
  have S3 := Lib.hid s3; have S4 := Lib.hid s4
  clear hp hU hUb s3 s4
  go_enter Try.func22, Try.ntmps22
  go_wp2
  go_quiet (fail)
  go_wp2
  go_loopw [4, 5, 6] (fun a b c wr => RTextRel w U ⟨#[]⟩ a b c (.string ⟨#[]⟩) wr) (fun a b _ _ => (intOf a * 18446744073709551616 + intOf b).toNat)
  case atStart =>
    refine ⟨40, U, 0, [], rfl, by omega, rfl, by rw [← S3.out], by rw [← S4.out], rfl, HUB.out, HU2.out, rfl, by simp, ?_⟩
    exact (((Below.refl _ _).alloc (Nat.le_refl _) _).trans ((below_drewN _ _).mono (by simp)))
  case round =>
    obtain ⟨m, u, kk, suf, hmk, hk39, _, rfl, rfl, rfl, hub, hub1, hsl, hdec, hw⟩ := hrel
    obtain ⟨q0, q1, q2, q3, r0, v1, r1, v2, r2, v3, r3, P', Q', QQ⟩ := quarters u hub1
    obtain ⟨p, hpp⟩ : ∃ p, (u : Int) / 18446744073709551616 = p := ⟨_, rfl⟩
    obtain ⟨q, hqq⟩ : ∃ q, (u : Int) % 18446744073709551616 = q := ⟨_, rfl⟩
    rw [hpp, hqq] at QQ
    rw [hpp, hqq]
    have pb : 0 ≤ p ∧ p ≤ 9223372036854775808 := by omega
    have qb : 0 ≤ q ∧ q ≤ 18446744073709551615 := by omega
    have HPP := Lib.hid hpp; have HQQ := Lib.hid hqq; have HD := Lib.hid hdec; have HSL := Lib.hid hsl; have HUB3 := Lib.hid hub; have HMK := Lib.hid hmk
    have sl : suf.length ≤ 39 := by omega
    by_cases hu : u = 0
    · subst hu
      have p0 : p = 0 := by rw [← hpp]; rfl
      have q0' : q = 0 := by rw [← hqq]; rfl
      have hun : U ≠ 0 := by have h1 := HP.out; have h2 := HU.out; omega
      have hsd : suf = decs U := by have h1 := hdec; rw [decF_zero] at h1; exact h1.symm
      have hne : suf ≠ [] := by
        rw [hsd]; unfold decs; rw [decF_step 39 U hun]; simp
      obtain ⟨c, t, hct⟩ : ∃ c t, suf = c :: t := by
        cases suf with
        | nil => exact absurd rfl hne
        | cons c t => exact ⟨c, t, rfl⟩
      have HSD := Lib.hid hsd
      clear hpp hqq hdec hsl hub hub1 hmk QQ HPP HQQ hsd hne hun
      subst p0 q0' hct
      have st : t.length ≤ 38 := by simpa using sl
      go_wp2
      go_ret
      refine ⟨?_, hw⟩
      have h2 : textV (V h l) = decs U := by
        have a1 := HP.out; have a2 := HU.out
        have a3 : V h l ≠ 0 := by omega
        unfold textV; rw [if_neg a3, if_neg (by omega), a2]; rfl
      rw [h2, ← HSD.out]
      exact congrArg (fun x => Ending.returned (.string x)) (cat_bytes [] (c :: t))
    · have hpq : (0 < p) ∨ (p = 0 ∧ 0 < q) := by omega
      have hub2 : u / 10 < 10 ^ (39 - (kk + 1)) := by
        have kb : kk ≤ 38 := by
          rcases Nat.lt_or_ge kk 39 with h9 | h9
          · omega
          · exfalso; have : kk = 39 := by omega
            subst this; simp at hub; exact hu hub
        have h1 := hub
        rw [show 39 - kk = (39 - (kk + 1)) + 1 by omega, Nat.pow_succ] at h1
        omega
      have kb : kk ≤ 38 := by
        rcases Nat.lt_or_ge kk 39 with h9 | h9
        · omega
        · exfalso; have : kk = 39 := by omega
          subst this; simp at hub; exact hu hub
      obtain ⟨m', hm'⟩ : ∃ m', m = m' + 1 := ⟨m - 1, by omega⟩
      subst hm'
      have hdec2 : decF 40 U = decF m' (u / 10) ++ (UInt8.ofNat (48 + u % 10) :: suf) := by
        rw [HD.out, decF_step m' u hu]; simp
      obtain ⟨f1, f2, f3, f4, f5, f6, f7, f8, f9, f10, f11, f12, f13, f14, f15, f16, f17, f18, f19, f20, f21, f22, f23, f24, f25⟩ := QQ
      have hcat : (⟨#[UInt8.ofNat (48 + r3).toNat]⟩ : ByteArray) ++ ⟨suf.toArray⟩ = ⟨(UInt8.ofNat (48 + u % 10) :: suf).toArray⟩ := by
        have e : (48 + r3).toNat = 48 + u % 10 := by omega
        rw [e]; exact cat_bytes [_] suf
      have hms : (P' * 18446744073709551616 + Q').toNat < (p * 18446744073709551616 + q).toNat := by omega
      have F15 := Lib.hid f15; have F16 := Lib.hid f16; have HCAT := Lib.hid hcat; have HMS := Lib.hid hms; have HU10 := Lib.hid hub2; have HDEC2 := Lib.hid hdec2
      have HUB4 : Hid (u / 10 ≤ 170141183460469231731687303715884105728) := (by omega : u / 10 ≤ 170141183460469231731687303715884105728)
      have hcv := one_byte wr (48 + r3)
      clear hpp hqq hdec hsl hub hub1 hmk f15 f16 f17 hcat hms hub2 hdec2 hu HPP HQQ HD HUB3
      rcases hpq with kp | ⟨rfl, kp⟩
      all_goals
        go_wp2
        go_rounds 5
        go_quiet (fail)
        go_wp2
        go_roundw
        case rel =>
          refine ⟨m', u / 10, kk + 1, UInt8.ofNat (48 + u % 10) :: suf, by have := HMK.out; omega, by omega, rfl, by rw [F15.out]; push_cast; rfl, by rw [F16.out]; push_cast; rfl, by rw [HCAT.out], HU10.out, HUB4.out, by simp; exact HSL.out, HDEC2.out, ?_⟩
          have hl := hw.size
          exact (((hw.alloc hw.size _).trans ((below_drewN _ _).mono (by simp; omega))).alloc (by simp; omega) _)
        case measure => simp only [intOf]; exact HMS.out
set_option maxHeartbeats 2000000 in
theorem rtext_neg (h l : Int) (k : Ok h l) (hp : V h l < 0) (w : World) :
    Calls Try.prog 22 #[.agg #[.int .i64 h, .int .u64 l]] w fun e w' => e = .returned (.string ⟨(textV (V h l)).toArray⟩) ∧ Below w.heap.size w w' := by
  have h0 : h < 0 := by obtain ⟨a, b, c, d⟩ := k; unfold V at hp; omega
  have l0 := k.l0
  have l1 := k.l1
  have dn : decide (h < 0) = true := by simpa using h0
  obtain ⟨U, hU⟩ := Int.eq_ofNat_of_zero_le (show 0 ≤ -V h l by omega)
  have HP := Lib.hid hp
  have HU := Lib.hid hU
  have hUb : U ≤ 170141183460469231731687303715884105728 := by
    have := fits_V k
    rw [fits_iff] at this
    omega
  have HU2 := Lib.hid hUb
  have HUB : Hid (U < 10 ^ 39) := by
    have e : (10 : Nat) ^ 39 = 1000000000000000000000000000000000000000 := rfl
    have h2 : U < 10 ^ 39 := by omega
    exact h2
  have cn := r_neg0 h l k
  rw [hU] at cn
  obtain ⟨A, hA⟩ : ∃ x, mH (U : Int) = x := ⟨_, rfl⟩
  have eA : IntKind.u64.wrap A = (U : Int) / 18446744073709551616 := by rw [← hA, IntKind.wrap_u64]; unfold mH wrap64; omega
  rw [hA, show mL (U : Int) = (U : Int) % 18446744073709551616 from rfl] at cn
  clear hA
  clear hp hU hUb
  go_enter Try.func22, Try.ntmps22
  go_wp2_with fail
  refine at_call fun W hW => ?_
  have Bx : Box W w.heap.size [.int .i64 h, .int .u64 l] 27 := by rw [hW]; exact Box.new rfl
  have hw0 : Below w.heap.size w W := by rw [hW]; go_grown
  clear hW
  refine (cn _).mono ?_
  rintro e w1 ⟨rfl, hb⟩
  replace Bx := Bx.ext hb rfl
  replace hw0 := hw0.trans (hb.mono hw0.size)
  obtain ⟨xx, yx, zx, vx⟩ := Bx.facts
  clear hb cn
  go_wp2
  refine at_world fun W2 hW => ?_
  replace Bx : Box W2 w.heap.size [.int .i64 A, .int .u64 ((U : Int) % 18446744073709551616)] 27 := by rw [hW]; exact (Bx.set 0 _).set 1 _
  replace hw0 : Below w.heap.size w W2 := by have hl := hw0.size; rw [hW]; go_grown
  clear hW xx yx zx vx
  obtain ⟨xx, yx, zx, vx⟩ := Bx.facts
  go_quiet (fail)
  go_wp2
  clear xx yx zx vx Bx
  go_loopw [4, 5, 6] (fun a b c wr => RTextRel w U ⟨#[45]⟩ a b c (.string ⟨#[45]⟩) wr) (fun a b _ _ => (intOf a * 18446744073709551616 + intOf b).toNat)
  case atStart =>
    refine ⟨40, U, 0, [], rfl, by omega, rfl, rfl, rfl, rfl, HUB.out, HU2.out, rfl, by simp, ?_⟩
    exact hw0.trans ((below_drewN _ _).mono hw0.size)
  case round =>
    obtain ⟨m, u, kk, suf, hmk, hk39, _, rfl, rfl, rfl, hub, hub1, hsl, hdec, hw⟩ := hrel
    obtain ⟨q0, q1, q2, q3, r0, v1, r1, v2, r2, v3, r3, P', Q', QQ⟩ := quarters u hub1
    obtain ⟨p, hpp⟩ : ∃ p, (u : Int) / 18446744073709551616 = p := ⟨_, rfl⟩
    obtain ⟨q, hqq⟩ : ∃ q, (u : Int) % 18446744073709551616 = q := ⟨_, rfl⟩
    rw [hpp, hqq] at QQ
    rw [hpp, hqq]
    have pb : 0 ≤ p ∧ p ≤ 9223372036854775808 := by omega
    have qb : 0 ≤ q ∧ q ≤ 18446744073709551615 := by omega
    have HPP := Lib.hid hpp; have HQQ := Lib.hid hqq; have HD := Lib.hid hdec; have HSL := Lib.hid hsl; have HUB3 := Lib.hid hub; have HMK := Lib.hid hmk
    have sl : suf.length ≤ 39 := by omega
    by_cases hu : u = 0
    · subst hu
      have p0 : p = 0 := by rw [← hpp]; rfl
      have q0' : q = 0 := by rw [← hqq]; rfl
      have hun : U ≠ 0 := by have h1 := HP.out; have h2 := HU.out; omega
      have hsd : suf = decs U := by have h1 := hdec; rw [decF_zero] at h1; exact h1.symm
      have hne : suf ≠ [] := by
        rw [hsd]; unfold decs; rw [decF_step 39 U hun]; simp
      obtain ⟨c, t, hct⟩ : ∃ c t, suf = c :: t := by
        cases suf with
        | nil => exact absurd rfl hne
        | cons c t => exact ⟨c, t, rfl⟩
      have HSD := Lib.hid hsd
      clear hpp hqq hdec hsl hub hub1 hmk QQ HPP HQQ hsd hne hun
      subst p0 q0' hct
      have st : t.length ≤ 38 := by simpa using sl
      go_wp2
      go_ret
      refine ⟨?_, hw⟩
      have h2 : textV (V h l) = 45 :: decs U := by
        have a1 := HP.out; have a2 := HU.out
        have a3 : V h l ≠ 0 := by omega
        unfold textV; rw [if_neg a3, if_pos (by omega), a2]; rfl
      rw [h2, ← HSD.out]
      exact congrArg (fun x => Ending.returned (.string x)) (cat_bytes [45] (c :: t))
    · have hpq : (0 < p) ∨ (p = 0 ∧ 0 < q) := by omega
      have hub2 : u / 10 < 10 ^ (39 - (kk + 1)) := by
        have kb : kk ≤ 38 := by
          rcases Nat.lt_or_ge kk 39 with h9 | h9
          · omega
          · exfalso; have : kk = 39 := by omega
            subst this; simp at hub; exact hu hub
        have h1 := hub
        rw [show 39 - kk = (39 - (kk + 1)) + 1 by omega, Nat.pow_succ] at h1
        omega
      have kb : kk ≤ 38 := by
        rcases Nat.lt_or_ge kk 39 with h9 | h9
        · omega
        · exfalso; have : kk = 39 := by omega
          subst this; simp at hub; exact hu hub
      obtain ⟨m', hm'⟩ : ∃ m', m = m' + 1 := ⟨m - 1, by omega⟩
      subst hm'
      have hdec2 : decF 40 U = decF m' (u / 10) ++ (UInt8.ofNat (48 + u % 10) :: suf) := by
        rw [HD.out, decF_step m' u hu]; simp
      obtain ⟨f1, f2, f3, f4, f5, f6, f7, f8, f9, f10, f11, f12, f13, f14, f15, f16, f17, f18, f19, f20, f21, f22, f23, f24, f25⟩ := QQ
      have hcat : (⟨#[UInt8.ofNat (48 + r3).toNat]⟩ : ByteArray) ++ ⟨suf.toArray⟩ = ⟨(UInt8.ofNat (48 + u % 10) :: suf).toArray⟩ := by
        have e : (48 + r3).toNat = 48 + u % 10 := by omega
        rw [e]; exact cat_bytes [_] suf
      have hms : (P' * 18446744073709551616 + Q').toNat < (p * 18446744073709551616 + q).toNat := by omega
      have F15 := Lib.hid f15; have F16 := Lib.hid f16; have HCAT := Lib.hid hcat; have HMS := Lib.hid hms; have HU10 := Lib.hid hub2; have HDEC2 := Lib.hid hdec2
      have HUB4 : Hid (u / 10 ≤ 170141183460469231731687303715884105728) := (by omega : u / 10 ≤ 170141183460469231731687303715884105728)
      have hcv := one_byte wr (48 + r3)
      clear hpp hqq hdec hsl hub hub1 hmk f15 f16 f17 hcat hms hub2 hdec2 hu HPP HQQ HD HUB3
      rcases hpq with kp | ⟨rfl, kp⟩
      all_goals
        go_wp2
        go_rounds 5
        go_quiet (fail)
        go_wp2
        go_roundw
        case rel =>
          refine ⟨m', u / 10, kk + 1, UInt8.ofNat (48 + u % 10) :: suf, by have := HMK.out; omega, by omega, rfl, by rw [F15.out]; push_cast; rfl, by rw [F16.out]; push_cast; rfl, by rw [HCAT.out], HU10.out, HUB4.out, by simp; exact HSL.out, HDEC2.out, ?_⟩
          have hl := hw.size
          exact (((hw.alloc hw.size _).trans ((below_drewN _ _).mono (by simp; omega))).alloc (by simp; omega) _)
        case measure => simp only [intOf]; exact HMS.out
theorem rtext_zero (w : World) :
    Calls Try.prog 22 #[.agg #[.int .i64 0, .int .u64 0]] w fun e w' => e = .returned (.string ⟨(textV 0).toArray⟩) ∧ Below w.heap.size w w' := by
  go_enter Try.func22, Try.ntmps22
  go_wp2
  go_quiet (fail)
  go_wp2
  refine at_world fun W hW => ?_
  have hw : Below w.heap.size w W := by rw [hW]; exact (((Below.refl _ _).alloc (Nat.le_refl _) _).trans ((below_drewN _ _).mono (by simp)))
  clear hW
  have z0 : bits .or .u64 0 0 = 0 := by decide +kernel
  have z1 : bits .and .u64 0 4294967295 = 0 := by decide +kernel
  have hcv := one_byte W 48
  have ecat : (⟨#[48]⟩ : ByteArray) ++ ⟨#[]⟩ = ⟨#[48]⟩ := cat_bytes [48] []
  have hl := hw.size
  refine wp_loop_rounds 2 ?_
  rw [rounds_succ]
  go_wp2
  go_rounds 5
  go_quiet (fail)
  go_wp2
  rw [rounds_succ]
  go_wp2
  go_ret
  refine ⟨congrArg (fun x => Ending.returned (.string x)) (cat_bytes [] [48]), ?_⟩
  exact (((hw.alloc hw.size _).trans ((below_drewN _ _).mono (by simp; omega))).alloc (by simp; omega) _)
theorem rtext_any (h l : Int) (k : Ok h l) (w : World) :
    Calls Try.prog 22 #[.agg #[.int .i64 h, .int .u64 l]] w fun e w' => e = .returned (.string ⟨(textV (V h l)).toArray⟩) ∧ Below w.heap.size w w' := by
  rcases Int.lt_trichotomy (V h l) 0 with hn | hz | hp
  · exact rtext_neg h l k hn w
  · have : h = 0 ∧ l = 0 := by obtain ⟨a, b, c, d⟩ := k; unfold V at hz; omega
    obtain ⟨rfl, rfl⟩ := this
    exact rtext_zero w
  · exact rtext_pos h l k hp w
end Go.Proofs.Ytkohcdkolkncaaa
