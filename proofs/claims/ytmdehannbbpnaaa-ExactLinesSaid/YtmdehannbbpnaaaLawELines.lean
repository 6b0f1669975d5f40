/- Points of a line, and its middle, are on it; the order of three on a line is told by which is between: the law ExactLines of package hectarelaw2 answers true at every input; no conditions. -/
import Derived.Test.YtmdehannbbpnaaaRows
import Derived.Test.YtmdehannbbpnaaaExS
import Derived.Test.YtmdehannbbpnaaaExT
import Derived.Test.YtmdehannbbpnaaaPost
import Derived.WalkKit
import Derived.WalkSpells
import Derived.WalkLawsBesides
import Derived.Deep.QuietTactic
import Derived.BigQuiet
import Derived.Lib.Hide
import Derived.Handy
import Derived.ProofKit
import Derived.Lib.SmallJoins
namespace Go.Proofs.Ytmdehannbbpnaaa
open Go.RowKit Go.Sort Go.ChangeShapes Go.WideShapes Go.ChangeAt
attribute [local go_sem] rOper rAt rUpon cell_set sg_i64 sg_u64 alloc_cell alloc_frozen
attribute [local go_sem 10000] pt_eql pt_neq
attribute [local irreducible] rWalk

theorem round_0 (w : World) : Calls Try.prog 23 #[.int .i64 0, .int .i64 3] w fun e w' => e = .returned (.int .i64 0) ∧ w = w' := by
  go_enter Try.func23, Try.ntmps23
  go_wp2
  go_ret
  exact ⟨rfl, rfl⟩
theorem ln_det {a b c : Pt} {x y k : Int} (h1 : b = ⟨a.x + x, a.y + y⟩) (h2 : c = ⟨a.x + x * k, a.y + y * k⟩) : det a b c = 0 := by subst h1 h2; unfold det; grind
theorem ln_key {a b c : Pt} {x y k : Int} (h1 : b = ⟨a.x + x, a.y + y⟩) (h2 : c = ⟨a.x + x * k, a.y + y * k⟩) : key b - key a = x * 16777216 + y ∧ key c - key a = k * (x * 16777216 + y) := by
  subst h1 h2; unfold key; simp only; constructor
  · grind
  · grind
theorem ln_k {a b c : Pt} {x y k : Int} (h1 : b = ⟨a.x + x, a.y + y⟩) (h2 : c = ⟨a.x + x * k, a.y + y * k⟩) (hk : 1 ≤ k) : (key a ≤ key b ∧ key b ≤ key c) ∨ (key c ≤ key b ∧ key b ≤ key a) := by
  obtain ⟨k1, k2⟩ := ln_key h1 h2
  generalize x * 16777216 + y = t at *
  rcases Int.le_total 0 t with h | h
  · have := Int.mul_le_mul_of_nonneg_right hk h
    simp only [Int.one_mul] at this
    omega
  · have := Int.mul_le_mul_of_nonpos_right hk h
    simp only [Int.one_mul] at this
    omega
theorem ln_ori {a b c : Pt} {x y k : Int} (ha : vld a = true) (hb : vld b = true) (hc : vld c = true) (h1 : b = ⟨a.x + x, a.y + y⟩) (h2 : c = ⟨a.x + x * k, a.y + y * k⟩) : ori a b c = 0 := by rw [ori_v ha hb hc, ln_det h1 h2]; rfl
theorem ln_on1 {a b c : Pt} {x y k : Int} (ha : vld a = true) (hb : vld b = true) (hc : vld c = true) (h1 : b = ⟨a.x + x, a.y + y⟩) (h2 : c = ⟨a.x + x * k, a.y + y * k⟩) (hk : 1 ≤ k) : onS b a c = true := by
  have d := ln_det h1 h2
  exact on_of_key hb ha hc (by rw [det_swap2, d]; rfl) (ln_k h1 h2 hk)
theorem ln_on2 {a c : Pt} (ha : vld a = true) (hc : vld c = true) : onS a a c = true := on_of_key ha ha hc (det_1 _ _) (by omega)
theorem ln_cmp {a b c : Pt} {x y k : Int} (ha : vld a = true) (hb : vld b = true) (hc : vld c = true) (h1 : b = ⟨a.x + x, a.y + y⟩) (h2 : c = ⟨a.x + x * k, a.y + y * k⟩) (hk : 1 ≤ k) : cmpP a b = cmpP a c := by
  obtain ⟨k1, k2⟩ := ln_key h1 h2
  rw [cmpP_key ha hb, cmpP_key ha hc, show key a - key b = -(x * 16777216 + y) by omega, show key a - key c = k * -(x * 16777216 + y) by rw [Int.mul_neg]; omega, sgn_mul, sgn_p (by omega : 0 < k)]
  omega
theorem ln_on3 {a b c : Pt} {x y k : Int} (ha : vld a = true) (hb : vld b = true) (hc : vld c = true) (h1 : b = ⟨a.x + x, a.y + y⟩) (h2 : c = ⟨a.x + x * k, a.y + y * k⟩) (hk : 1 ≤ k) : onS c a b = peqI b.x b.y c.x c.y := by
  have d := ln_det h1 h2
  obtain ⟨k1, k2⟩ := ln_key h1 h2
  by_cases e : b = c
  · rw [pp e]; rw [← e]
    exact on_of_key hb ha hb (det_2 _ _) (by omega)
  · rw [peqI_ne.2 e]
    unfold onS
    rw [ha, hb, hc, ori_v ha hb hc, d, cmpP_key ha hc, cmpP_key hc hb]
    have n1 : key b ≠ key c := fun h => e (key_inj hb hc h)
    have e1 : key a - key c = -(k * (x * 16777216 + y)) := by omega
    have e2 : key c - key b = (k - 1) * (x * 16777216 + y) := by rw [Int.sub_mul]; omega
    generalize x * 16777216 + y = t at *
    have nt : t ≠ 0 := fun h => by rw [h] at k1 k2; simp only [Int.mul_zero] at k2; omega
    have nk : k - 1 ≠ 0 := fun h => by rw [h] at e2; simp only [Int.zero_mul] at e2; omega
    rw [e1, e2, sgn_neg, sgn_mul, sgn_mul, sgn_p (by omega : 0 < k), sgn_p (by omega : 0 < k - 1)]
    have ct := sgn_cases t
    have : -sgn t * sgn t < 0 := by
      rcases ct with ⟨s, _⟩ | ⟨s, q⟩ | ⟨s, _⟩
      · rw [s]; decide
      · exact absurd q nt
      · rw [s]; decide
    simp [s0, this]
set_option maxRecDepth 100000 in
set_option maxHeartbeats 2000000 in
theorem lines_0 (a : Pt) (x y k : Int) (ha : vld a = false) (w : World) :
    Calls Try.prog 7 #[.agg #[.int .i64 a.x, .int .i64 a.y], .int .i64 x, .int .i64 y, .int .i64 k] w fun e w' => e = .returned (.bool true) ∧ Below w.heap.size w w' := by
  have cva := rvalid_any a
  rw [ha] at cva
  clear ha
  go_enter Try.func7, Try.ntmps7
  go_wp2_with fail
  refine at_call fun W1 hW => ?_
  have Ba : Box W1 (w.heap.size) [.int .i64 a.x, .int .i64 a.y] 23 := by rw [hW]; exact Box.new rfl
  have hw : Below w.heap.size w W1 := by rw [hW]; go_grown
  clear hW
  refine (cva _).mono ?_
  rintro e w2 ⟨rfl, hb⟩
  replace Ba := Ba.ext hb rfl
  replace hw := hw.trans (hb.mono hw.size)
  clear hb
  obtain ⟨xa, ya, za, va⟩ := Ba.facts
  go_wp2_with fail
  refine (awake_any _).mono ?_
  rintro e w3 ⟨rfl, hb⟩
  clear xa ya za va
  replace Ba := Ba.ext hb rfl
  replace hw := hw.trans (hb.mono hw.size)
  clear hb
  go_wp2
  go_ret
  exact ⟨rfl, hw⟩

set_option maxRecDepth 100000 in
set_option maxHeartbeats 2000000 in
theorem lines_1 (a : Pt) (x y k : Int) (ha : vld a = true) (t0 : decide (x < -1000) = true) (w : World) :
    Calls Try.prog 7 #[.agg #[.int .i64 a.x, .int .i64 a.y], .int .i64 x, .int .i64 y, .int .i64 k] w fun e w' => e = .returned (.bool true) ∧ Below w.heap.size w w' := by
  have cva := rvalid_any a
  rw [ha] at cva
  clear ha
  go_enter Try.func7, Try.ntmps7
  go_wp2_with fail
  refine at_call fun W1 hW => ?_
  have Ba : Box W1 (w.heap.size) [.int .i64 a.x, .int .i64 a.y] 23 := by rw [hW]; exact Box.new rfl
  have hw : Below w.heap.size w W1 := by rw [hW]; go_grown
  clear hW
  refine (cva _).mono ?_
  rintro e w2 ⟨rfl, hb⟩
  replace Ba := Ba.ext hb rfl
  replace hw := hw.trans (hb.mono hw.size)
  clear hb
  obtain ⟨xa, ya, za, va⟩ := Ba.facts
  go_wp2_with fail
  refine (awake_any _).mono ?_
  rintro e w3 ⟨rfl, hb⟩
  clear xa ya za va
  replace Ba := Ba.ext hb rfl
  replace hw := hw.trans (hb.mono hw.size)
  clear hb
  go_wp2
  go_ret
  exact ⟨rfl, hw⟩

set_option maxRecDepth 100000 in
set_option maxHeartbeats 2000000 in
theorem lines_2 (a : Pt) (x y k : Int) (ha : vld a = true) (t0 : decide (x < -1000) = false) (t1 : decide (1000 < x) = true) (w : World) :
    Calls Try.prog 7 #[.agg #[.int .i64 a.x, .int .i64 a.y], .int .i64 x, .int .i64 y, .int .i64 k] w fun e w' => e = .returned (.bool true) ∧ Below w.heap.size w w' := by
  have cva := rvalid_any a
  rw [ha] at cva
  clear ha
  go_enter Try.func7, Try.ntmps7
  go_wp2_with fail
  refine at_call fun W1 hW => ?_
  have Ba : Box W1 (w.heap.size) [.int .i64 a.x, .int .i64 a.y] 23 := by rw [hW]; exact Box.new rfl
  have hw : Below w.heap.size w W1 := by rw [hW]; go_grown
  clear hW
  refine (cva _).mono ?_
  rintro e w2 ⟨rfl, hb⟩
  replace Ba := Ba.ext hb rfl
  replace hw := hw.trans (hb.mono hw.size)
  clear hb
  obtain ⟨xa, ya, za, va⟩ := Ba.facts
  go_wp2_with fail
  refine (awake_any _).mono ?_
  rintro e w3 ⟨rfl, hb⟩
  clear xa ya za va
  replace Ba := Ba.ext hb rfl
  replace hw := hw.trans (hb.mono hw.size)
  clear hb
  go_wp2
  go_ret
  exact ⟨rfl, hw⟩

set_option maxRecDepth 100000 in
set_option maxHeartbeats 2000000 in
theorem lines_3 (a : Pt) (x y k : Int) (ha : vld a = true) (t0 : decide (x < -1000) = false) (t1 : decide (1000 < x) = false) (t2 : decide (y < -1000) = true) (w : World) :
    Calls Try.prog 7 #[.agg #[.int .i64 a.x, .int .i64 a.y], .int .i64 x, .int .i64 y, .int .i64 k] w fun e w' => e = .returned (.bool true) ∧ Below w.heap.size w w' := by
  have cva := rvalid_any a
  rw [ha] at cva
  clear ha
  go_enter Try.func7, Try.ntmps7
  go_wp2_with fail
  refine at_call fun W1 hW => ?_
  have Ba : Box W1 (w.heap.size) [.int .i64 a.x, .int .i64 a.y] 23 := by rw [hW]; exact Box.new rfl
  have hw : Below w.heap.size w W1 := by rw [hW]; go_grown
  clear hW
  refine (cva _).mono ?_
  rintro e w2 ⟨rfl, hb⟩
  replace Ba := Ba.ext hb rfl
  replace hw := hw.trans (hb.mono hw.size)
  clear hb
  obtain ⟨xa, ya, za, va⟩ := Ba.facts
  go_wp2_with fail
  refine (awake_any _).mono ?_
  rintro e w3 ⟨rfl, hb⟩
  clear xa ya za va
  replace Ba := Ba.ext hb rfl
  replace hw := hw.trans (hb.mono hw.size)
  clear hb
  go_wp2
  go_ret
  exact ⟨rfl, hw⟩

set_option maxRecDepth 100000 in
set_option maxHeartbeats 2000000 in
theorem lines_4 (a : Pt) (x y k : Int) (ha : vld a = true) (t0 : decide (x < -1000) = false) (t1 : decide (1000 < x) = false) (t2 : decide (y < -1000) = false) (t3 : decide (1000 < y) = true) (w : World) :
    Calls Try.prog 7 #[.agg #[.int .i64 a.x, .int .i64 a.y], .int .i64 x, .int .i64 y, .int .i64 k] w fun e w' => e = .returned (.bool true) ∧ Below w.heap.size w w' := by
  have cva := rvalid_any a
  rw [ha] at cva
  clear ha
  go_enter Try.func7, Try.ntmps7
  go_wp2_with fail
  refine at_call fun W1 hW => ?_
  have Ba : Box W1 (w.heap.size) [.int .i64 a.x, .int .i64 a.y] 23 := by rw [hW]; exact Box.new rfl
  have hw : Below w.heap.size w W1 := by rw [hW]; go_grown
  clear hW
  refine (cva _).mono ?_
  rintro e w2 ⟨rfl, hb⟩
  replace Ba := Ba.ext hb rfl
  replace hw := hw.trans (hb.mono hw.size)
  clear hb
  obtain ⟨xa, ya, za, va⟩ := Ba.facts
  go_wp2_with fail
  refine (awake_any _).mono ?_
  rintro e w3 ⟨rfl, hb⟩
  clear xa ya za va
  replace Ba := Ba.ext hb rfl
  replace hw := hw.trans (hb.mono hw.size)
  clear hb
  go_wp2
  go_ret
  exact ⟨rfl, hw⟩

set_option maxRecDepth 100000 in
set_option maxHeartbeats 2000000 in
theorem lines_5 (a : Pt) (x y k : Int) (ha : vld a = true) (t0 : decide (x < -1000) = false) (t1 : decide (1000 < x) = false) (t2 : decide (y < -1000) = false) (t3 : decide (1000 < y) = false) (t4 : decide (k < 1) = true) (w : World) :
    Calls Try.prog 7 #[.agg #[.int .i64 a.x, .int .i64 a.y], .int .i64 x, .int .i64 y, .int .i64 k] w fun e w' => e = .returned (.bool true) ∧ Below w.heap.size w w' := by
  have cva := rvalid_any a
  rw [ha] at cva
  clear ha
  go_enter Try.func7, Try.ntmps7
  go_wp2_with fail
  refine at_call fun W1 hW => ?_
  have Ba : Box W1 (w.heap.size) [.int .i64 a.x, .int .i64 a.y] 23 := by rw [hW]; exact Box.new rfl
  have hw : Below w.heap.size w W1 := by rw [hW]; go_grown
  clear hW
  refine (cva _).mono ?_
  rintro e w2 ⟨rfl, hb⟩
  replace Ba := Ba.ext hb rfl
  replace hw := hw.trans (hb.mono hw.size)
  clear hb
  obtain ⟨xa, ya, za, va⟩ := Ba.facts
  go_wp2_with fail
  refine (awake_any _).mono ?_
  rintro e w3 ⟨rfl, hb⟩
  clear xa ya za va
  replace Ba := Ba.ext hb rfl
  replace hw := hw.trans (hb.mono hw.size)
  clear hb
  go_wp2
  go_ret
  exact ⟨rfl, hw⟩

set_option maxRecDepth 100000 in
set_option maxHeartbeats 2000000 in
theorem lines_6 (a : Pt) (x y k : Int) (ha : vld a = true) (t0 : decide (x < -1000) = false) (t1 : decide (1000 < x) = false) (t2 : decide (y < -1000) = false) (t3 : decide (1000 < y) = false) (t4 : decide (k < 1) = false) (t5 : decide (1000 < k) = true) (w : World) :
    Calls Try.prog 7 #[.agg #[.int .i64 a.x, .int .i64 a.y], .int .i64 x, .int .i64 y, .int .i64 k] w fun e w' => e = .returned (.bool true) ∧ Below w.heap.size w w' := by
  have cva := rvalid_any a
  rw [ha] at cva
  clear ha
  go_enter Try.func7, Try.ntmps7
  go_wp2_with fail
  refine at_call fun W1 hW => ?_
  have Ba : Box W1 (w.heap.size) [.int .i64 a.x, .int .i64 a.y] 23 := by rw [hW]; exact Box.new rfl
  have hw : Below w.heap.size w W1 := by rw [hW]; go_grown
  clear hW
  refine (cva _).mono ?_
  rintro e w2 ⟨rfl, hb⟩
  replace Ba := Ba.ext hb rfl
  replace hw := hw.trans (hb.mono hw.size)
  clear hb
  obtain ⟨xa, ya, za, va⟩ := Ba.facts
  go_wp2_with fail
  refine (awake_any _).mono ?_
  rintro e w3 ⟨rfl, hb⟩
  clear xa ya za va
  replace Ba := Ba.ext hb rfl
  replace hw := hw.trans (hb.mono hw.size)
  clear hb
  go_wp2
  go_ret
  exact ⟨rfl, hw⟩

set_option maxRecDepth 100000 in
set_option maxHeartbeats 2000000 in
theorem lines_7 (a : Pt) (x y k : Int) (ha : vld a = true) (t0 : decide (x < -1000) = false) (t1 : decide (1000 < x) = false) (t2 : decide (y < -1000) = false) (t3 : decide (1000 < y) = false) (t4 : decide (k < 1) = false) (t5 : decide (1000 < k) = false) (vb : vld ⟨a.x + x, a.y + y⟩ = false) (w : World) :
    Calls Try.prog 7 #[.agg #[.int .i64 a.x, .int .i64 a.y], .int .i64 x, .int .i64 y, .int .i64 k] w fun e w' => e = .returned (.bool true) ∧ Below w.heap.size w w' := by
  have cva := rvalid_any a
  rw [ha] at cva
  simp only [decide_eq_false_iff_not] at t0 t1 t2 t3 t4 t5
  have bX : -1000000 ≤ x * k ∧ x * k ≤ 1000000 := by
    have h1 : x.natAbs ≤ 1000 := by omega
    have h2 : k.natAbs ≤ 1000 := by omega
    have h3 := Nat.mul_le_mul h1 h2
    rw [← Int.natAbs_mul] at h3
    generalize x * k = p at *
    omega
  have bY : -1000000 ≤ y * k ∧ y * k ≤ 1000000 := by
    have h1 : y.natAbs ≤ 1000 := by omega
    have h2 : k.natAbs ≤ 1000 := by omega
    have h3 := Nat.mul_le_mul h1 h2
    rw [← Int.natAbs_mul] at h3
    generalize y * k = p at *
    omega
  obtain ⟨b, hb⟩ : ∃ b : Pt, b = ⟨a.x + x, a.y + y⟩ := ⟨_, rfl⟩
  obtain ⟨c, hc⟩ : ∃ c : Pt, c = ⟨a.x + x * k, a.y + y * k⟩ := ⟨_, rfl⟩
  rw [← hb] at vb
  have cvb := rvalid_any b
  rw [vb] at cvb
  obtain ⟨X, hX⟩ : ∃ X, X = x * k := ⟨_, rfl⟩
  obtain ⟨Y, hY⟩ : ∃ Y, Y = y * k := ⟨_, rfl⟩
  have wX : wrap64 (x * k) = X := by rw [w64, hX]; omega
  have wY : wrap64 (y * k) = Y := by rw [w64, hY]; omega
  have va2 := vld_iff.1 ha
  have ww1 : wrap64 (a.x + x) = b.x := by rw [w64, hb]; simp only; omega
  have ww2 : wrap64 (a.y + y) = b.y := by rw [w64, hb]; simp only; omega
  have ww3 : wrap64 (a.x + X) = c.x := by rw [w64, hc, hX]; simp only; omega
  have ww4 : wrap64 (a.y + Y) = c.y := by rw [w64, hc, hY]; simp only; omega
  have T0 : decide (x < -1000) = false := by simp; omega
  have T1 : decide (1000 < x) = false := by simp; omega
  have T2 : decide (y < -1000) = false := by simp; omega
  have T3 : decide (1000 < y) = false := by simp; omega
  have T4 : decide (k < 1) = false := by simp; omega
  have T5 : decide (1000 < k) = false := by simp; omega
  clear bX bY t0 t1 t2 t3 t4 t5 va2 ha vb hb hc hX hY
  go_enter Try.func7, Try.ntmps7
  go_wp2_with fail
  refine at_call fun W1 hW => ?_
  have Ba : Box W1 (w.heap.size) [.int .i64 a.x, .int .i64 a.y] 23 := by rw [hW]; exact Box.new rfl
  have hw : Below w.heap.size w W1 := by rw [hW]; go_grown
  clear hW
  refine (cva _).mono ?_
  rintro e w2 ⟨rfl, hb⟩
  replace Ba := Ba.ext hb rfl
  replace hw := hw.trans (hb.mono hw.size)
  clear hb
  obtain ⟨xa, ya, za, va⟩ := Ba.facts
  go_wp2_with fail
  refine at_call fun W3 hW => ?_
  obtain ⟨bkb, hbb⟩ : ∃ b, w2.heap.size = b := ⟨_, rfl⟩
  have ebz : bkb + 1 = w2.heap.size + 1 := by rw [hbb]
  try simp only [hbb]
  have Bb : Box W3 bkb [.int .i64 b.x, .int .i64 b.y] 23 := by rw [hW]; exact (Box.new hbb.symm).old _
  have Bc : Box W3 (bkb + 1) [.int .i64 c.x, .int .i64 c.y] 23 := by rw [hW]; exact Box.new (by simp [hbb])
  replace Ba : Box W3 (w.heap.size) [.int .i64 a.x, .int .i64 a.y] 23 := by rw [hW]; exact (Ba.old _).old _
  replace hw : Below w.heap.size w W3 := by have hl := hw.size; rw [hW]; go_grown
  clear hW hbb ebz
  clear ww1 ww2 ww3 ww4 wX wY
  refine (cvb _).mono ?_
  rintro e w4 ⟨rfl, hb⟩
  clear xa ya za va
  replace Ba := Ba.ext hb rfl
  replace Bb := Bb.ext hb rfl
  replace Bc := Bc.ext hb rfl
  replace hw := hw.trans (hb.mono hw.size)
  clear hb
  obtain ⟨xa, ya, za, va⟩ := Ba.facts
  obtain ⟨xb, yb, zb, vb⟩ := Bb.facts
  obtain ⟨xc, yc, zc, vc⟩ := Bc.facts
  go_wp2_with fail
  refine (awake_any _).mono ?_
  rintro e w5 ⟨rfl, hb⟩
  clear xa ya za va xb yb zb vb xc yc zc vc
  replace Ba := Ba.ext hb rfl
  replace Bb := Bb.ext hb rfl
  replace Bc := Bc.ext hb rfl
  replace hw := hw.trans (hb.mono hw.size)
  clear hb
  go_wp2
  go_ret
  exact ⟨rfl, hw⟩

set_option maxRecDepth 100000 in
set_option maxHeartbeats 2000000 in
theorem lines_8 (a : Pt) (x y k : Int) (ha : vld a = true) (t0 : decide (x < -1000) = false) (t1 : decide (1000 < x) = false) (t2 : decide (y < -1000) = false) (t3 : decide (1000 < y) = false) (t4 : decide (k < 1) = false) (t5 : decide (1000 < k) = false) (vb : vld ⟨a.x + x, a.y + y⟩ = true) (vc : vld ⟨a.x + x * k, a.y + y * k⟩ = false) (w : World) :
    Calls Try.prog 7 #[.agg #[.int .i64 a.x, .int .i64 a.y], .int .i64 x, .int .i64 y, .int .i64 k] w fun e w' => e = .returned (.bool true) ∧ Below w.heap.size w w' := by
  have cva := rvalid_any a
  rw [ha] at cva
  simp only [decide_eq_false_iff_not] at t0 t1 t2 t3 t4 t5
  have bX : -1000000 ≤ x * k ∧ x * k ≤ 1000000 := by
    have h1 : x.natAbs ≤ 1000 := by omega
    have h2 : k.natAbs ≤ 1000 := by omega
    have h3 := Nat.mul_le_mul h1 h2
    rw [← Int.natAbs_mul] at h3
    generalize x * k = p at *
    omega
  have bY : -1000000 ≤ y * k ∧ y * k ≤ 1000000 := by
    have h1 : y.natAbs ≤ 1000 := by omega
    have h2 : k.natAbs ≤ 1000 := by omega
    have h3 := Nat.mul_le_mul h1 h2
    rw [← Int.natAbs_mul] at h3
    generalize y * k = p at *
    omega
  obtain ⟨b, hb⟩ : ∃ b : Pt, b = ⟨a.x + x, a.y + y⟩ := ⟨_, rfl⟩
  obtain ⟨c, hc⟩ : ∃ c : Pt, c = ⟨a.x + x * k, a.y + y * k⟩ := ⟨_, rfl⟩
  rw [← hb] at vb
  have cvb := rvalid_any b
  rw [vb] at cvb
  rw [← hc] at vc
  have cvc := rvalid_any c
  rw [vc] at cvc
  obtain ⟨X, hX⟩ : ∃ X, X = x * k := ⟨_, rfl⟩
  obtain ⟨Y, hY⟩ : ∃ Y, Y = y * k := ⟨_, rfl⟩
  have wX : wrap64 (x * k) = X := by rw [w64, hX]; omega
  have wY : wrap64 (y * k) = Y := by rw [w64, hY]; omega
  have va2 := vld_iff.1 ha
  have ww1 : wrap64 (a.x + x) = b.x := by rw [w64, hb]; simp only; omega
  have ww2 : wrap64 (a.y + y) = b.y := by rw [w64, hb]; simp only; omega
  have ww3 : wrap64 (a.x + X) = c.x := by rw [w64, hc, hX]; simp only; omega
  have ww4 : wrap64 (a.y + Y) = c.y := by rw [w64, hc, hY]; simp only; omega
  have T0 : decide (x < -1000) = false := by simp; omega
  have T1 : decide (1000 < x) = false := by simp; omega
  have T2 : decide (y < -1000) = false := by simp; omega
  have T3 : decide (1000 < y) = false := by simp; omega
  have T4 : decide (k < 1) = false := by simp; omega
  have T5 : decide (1000 < k) = false := by simp; omega
  clear bX bY t0 t1 t2 t3 t4 t5 va2 ha vb vc hb hc hX hY
  go_enter Try.func7, Try.ntmps7
  go_wp2_with fail
  refine at_call fun W1 hW => ?_
  have Ba : Box W1 (w.heap.size) [.int .i64 a.x, .int .i64 a.y] 23 := by rw [hW]; exact Box.new rfl
  have hw : Below w.heap.size w W1 := by rw [hW]; go_grown
  clear hW
  refine (cva _).mono ?_
  rintro e w2 ⟨rfl, hb⟩
  replace Ba := Ba.ext hb rfl
  replace hw := hw.trans (hb.mono hw.size)
  clear hb
  obtain ⟨xa, ya, za, va⟩ := Ba.facts
  go_wp2_with fail
  refine at_call fun W3 hW => ?_
  obtain ⟨bkb, hbb⟩ : ∃ b, w2.heap.size = b := ⟨_, rfl⟩
  have ebz : bkb + 1 = w2.heap.size + 1 := by rw [hbb]
  try simp only [hbb]
  have Bb : Box W3 bkb [.int .i64 b.x, .int .i64 b.y] 23 := by rw [hW]; exact (Box.new hbb.symm).old _
  have Bc : Box W3 (bkb + 1) [.int .i64 c.x, .int .i64 c.y] 23 := by rw [hW]; exact Box.new (by simp [hbb])
  replace Ba : Box W3 (w.heap.size) [.int .i64 a.x, .int .i64 a.y] 23 := by rw [hW]; exact (Ba.old _).old _
  replace hw : Below w.heap.size w W3 := by have hl := hw.size; rw [hW]; go_grown
  clear hW hbb ebz
  clear ww1 ww2 ww3 ww4 wX wY
  refine (cvb _).mono ?_
  rintro e w4 ⟨rfl, hb⟩
  clear xa ya za va
  replace Ba := Ba.ext hb rfl
  replace Bb := Bb.ext hb rfl
  replace Bc := Bc.ext hb rfl
  replace hw := hw.trans (hb.mono hw.size)
  clear hb
  obtain ⟨xa, ya, za, va⟩ := Ba.facts
  obtain ⟨xb, yb, zb, vb⟩ := Bb.facts
  obtain ⟨xc, yc, zc, vc⟩ := Bc.facts
  go_wp2_with fail
  refine (cvc _).mono ?_
  rintro e w5 ⟨rfl, hb⟩
  clear xa ya za va xb yb zb vb xc yc zc vc
  replace Ba := Ba.ext hb rfl
  replace Bb := Bb.ext hb rfl
  replace Bc := Bc.ext hb rfl
  replace hw := hw.trans (hb.mono hw.size)
  clear hb
  obtain ⟨xa, ya, za, va⟩ := Ba.facts
  obtain ⟨xb, yb, zb, vb⟩ := Bb.facts
  obtain ⟨xc, yc, zc, vc⟩ := Bc.facts
  go_wp2_with fail
  refine (awake_any _).mono ?_
  rintro e w6 ⟨rfl, hb⟩
  clear xa ya za va xb yb zb vb xc yc zc vc
  replace Ba := Ba.ext hb rfl
  replace Bb := Bb.ext hb rfl
  replace Bc := Bc.ext hb rfl
  replace hw := hw.trans (hb.mono hw.size)
  clear hb
  go_wp2
  go_ret
  exact ⟨rfl, hw⟩

set_option maxRecDepth 100000 in
set_option maxHeartbeats 2000000 in
theorem lines_9 (a : Pt) (x y k : Int) (ha : vld a = true) (t0 : decide (x < -1000) = false) (t1 : decide (1000 < x) = false) (t2 : decide (y < -1000) = false) (t3 : decide (1000 < y) = false) (t4 : decide (k < 1) = false) (t5 : decide (1000 < k) = false) (vb : vld ⟨a.x + x, a.y + y⟩ = true) (vc : vld ⟨a.x + x * k, a.y + y * k⟩ = true) (w : World) :
    Calls Try.prog 7 #[.agg #[.int .i64 a.x, .int .i64 a.y], .int .i64 x, .int .i64 y, .int .i64 k] w fun e w' => e = .returned (.bool true) ∧ Below w.heap.size w w' := by
  have cva := rvalid_any a
  rw [ha] at cva
  simp only [decide_eq_false_iff_not] at t0 t1 t2 t3 t4 t5
  have bX : -1000000 ≤ x * k ∧ x * k ≤ 1000000 := by
    have h1 : x.natAbs ≤ 1000 := by omega
    have h2 : k.natAbs ≤ 1000 := by omega
    have h3 := Nat.mul_le_mul h1 h2
    rw [← Int.natAbs_mul] at h3
    generalize x * k = p at *
    omega
  have bY : -1000000 ≤ y * k ∧ y * k ≤ 1000000 := by
    have h1 : y.natAbs ≤ 1000 := by omega
    have h2 : k.natAbs ≤ 1000 := by omega
    have h3 := Nat.mul_le_mul h1 h2
    rw [← Int.natAbs_mul] at h3
    generalize y * k = p at *
    omega
  obtain ⟨b, hb⟩ : ∃ b : Pt, b = ⟨a.x + x, a.y + y⟩ := ⟨_, rfl⟩
  obtain ⟨c, hc⟩ : ∃ c : Pt, c = ⟨a.x + x * k, a.y + y * k⟩ := ⟨_, rfl⟩
  rw [← hb] at vb
  have cvb := rvalid_any b
  rw [vb] at cvb
  rw [← hc] at vc
  have cvc := rvalid_any c
  rw [vc] at cvc
  have hk : 1 ≤ k := by omega
  have o1 := orient_any a b c
  rw [ln_ori ha vb vc hb hc] at o1
  have o2 := on_any b a c
  rw [ln_on1 ha vb vc hb hc hk] at o2
  have o3 := on_any a a c
  rw [ln_on2 ha vc] at o3
  have o4 := on_any c a b
  rw [ln_on3 ha vb vc hb hc hk] at o4
  have o5 := cmp_pt a b
  have o6 := cmp_pt a c
  rw [ln_cmp ha vb vc hb hc hk] at o5
  have o7 := same_below round_0
  clear hk
  generalize cmpP a c = Q at *
  obtain ⟨X, hX⟩ : ∃ X, X = x * k := ⟨_, rfl⟩
  obtain ⟨Y, hY⟩ : ∃ Y, Y = y * k := ⟨_, rfl⟩
  have wX : wrap64 (x * k) = X := by rw [w64, hX]; omega
  have wY : wrap64 (y * k) = Y := by rw [w64, hY]; omega
  have va2 := vld_iff.1 ha
  have ww1 : wrap64 (a.x + x) = b.x := by rw [w64, hb]; simp only; omega
  have ww2 : wrap64 (a.y + y) = b.y := by rw [w64, hb]; simp only; omega
  have ww3 : wrap64 (a.x + X) = c.x := by rw [w64, hc, hX]; simp only; omega
  have ww4 : wrap64 (a.y + Y) = c.y := by rw [w64, hc, hY]; simp only; omega
  have T0 : decide (x < -1000) = false := by simp; omega
  have T1 : decide (1000 < x) = false := by simp; omega
  have T2 : decide (y < -1000) = false := by simp; omega
  have T3 : decide (1000 < y) = false := by simp; omega
  have T4 : decide (k < 1) = false := by simp; omega
  have T5 : decide (1000 < k) = false := by simp; omega
  have wz : IntKind.i64.wrap 0 = 0 := by decide
  clear bX bY t0 t1 t2 t3 t4 t5 va2 ha vb vc hb hc hX hY
  go_enter Try.func7, Try.ntmps7
  go_wp2_with fail
  refine at_call fun W1 hW => ?_
  have Ba : Box W1 (w.heap.size) [.int .i64 a.x, .int .i64 a.y] 23 := by rw [hW]; exact Box.new rfl
  have hw : Below w.heap.size w W1 := by rw [hW]; go_grown
  clear hW
  refine (cva _).mono ?_
  rintro e w2 ⟨rfl, hb⟩
  replace Ba := Ba.ext hb rfl
  replace hw := hw.trans (hb.mono hw.size)
  clear hb
  obtain ⟨xa, ya, za, va⟩ := Ba.facts
  go_wp2_with fail
  refine at_call fun W3 hW => ?_
  obtain ⟨bkb, hbb⟩ : ∃ b, w2.heap.size = b := ⟨_, rfl⟩
  have ebz : bkb + 1 = w2.heap.size + 1 := by rw [hbb]
  try simp only [hbb]
  have Bb : Box W3 bkb [.int .i64 b.x, .int .i64 b.y] 23 := by rw [hW]; exact (Box.new hbb.symm).old _
  have Bc : Box W3 (bkb + 1) [.int .i64 c.x, .int .i64 c.y] 23 := by rw [hW]; exact Box.new (by simp [hbb])
  replace Ba : Box W3 (w.heap.size) [.int .i64 a.x, .int .i64 a.y] 23 := by rw [hW]; exact (Ba.old _).old _
  replace hw : Below w.heap.size w W3 := by have hl := hw.size; rw [hW]; go_grown
  clear hW hbb ebz
  clear ww1 ww2 ww3 ww4 wX wY
  refine (cvb _).mono ?_
  rintro e w4 ⟨rfl, hb⟩
  clear xa ya za va
  replace Ba := Ba.ext hb rfl
  replace Bb := Bb.ext hb rfl
  replace Bc := Bc.ext hb rfl
  replace hw := hw.trans (hb.mono hw.size)
  clear hb
  obtain ⟨xa, ya, za, va⟩ := Ba.facts
  obtain ⟨xb, yb, zb, vb⟩ := Bb.facts
  obtain ⟨xc, yc, zc, vc⟩ := Bc.facts
  go_wp2_with fail
  refine (cvc _).mono ?_
  rintro e w5 ⟨rfl, hb⟩
  clear xa ya za va xb yb zb vb xc yc zc vc
  replace Ba := Ba.ext hb rfl
  replace Bb := Bb.ext hb rfl
  replace Bc := Bc.ext hb rfl
  replace hw := hw.trans (hb.mono hw.size)
  clear hb
  obtain ⟨xa, ya, za, va⟩ := Ba.facts
  obtain ⟨xb, yb, zb, vb⟩ := Bb.facts
  obtain ⟨xc, yc, zc, vc⟩ := Bc.facts
  go_wp2_with fail
  refine at_world fun W6 hW => ?_
  replace hw : Below w.heap.size w W6 := by rw [hW]; exact hw
  replace Ba : Box W6 (w.heap.size) [.int .i64 a.x, .int .i64 a.y] 23 := by rw [hW]; exact Ba
  replace Bb : Box W6 (bkb) [.int .i64 b.x, .int .i64 b.y] 23 := by rw [hW]; exact Bb
  replace Bc : Box W6 (bkb + 1) [.int .i64 c.x, .int .i64 c.y] 23 := by rw [hW]; exact Bc
  clear hW
  clear xa ya za va xb yb zb vb xc yc zc vc
  have ga := Ba.cells
  have gb := Bb.cells
  have gc := Bc.cells
  try simp only [List.append]
  refine wp_region_tail 41 (by kernel_rfl) (by kernel_rfl) (C := fun w' => ∃ p : Regrown, w' = grow (redrawn W6 p.d) p.os) (fun w' h => regrown_of_below h) ?_
  simp only [List.take_succ_cons, List.take_zero, List.drop_succ_cons, List.drop_zero]
  repeat (first | (refine rWalk_skip (Eq.refl false) ?_; simp only [Act.put, List.setIfInBounds_toArray, List.set_cons_succ, List.set_cons_zero]) | (refine rWalk_step (fun K hK => ?_); go_simp; first | (refine hK _ ?_; clear hK K) | (apply Exists.intro; refine ⟨fun _ => ?_, hK _ ?_⟩; (first | with_reducible exact toExt o1 _ | with_reducible exact toExt o2 _ | with_reducible exact toExt o3 _ | with_reducible exact toExt o4 _ | with_reducible exact toExt o5 _ | with_reducible exact toExt o6 _ | with_reducible exact toExt o7 _ | with_reducible exact toExt awake_any _); clear hK K)))
  refine rWalk_nil ?_
  intro w7 hb
  clear ga gb gc
  replace Ba := Ba.ext hb rfl
  replace Bb := Bb.ext hb rfl
  replace Bc := Bc.ext hb rfl
  replace hw := hw.trans (hb.mono hw.size)
  go_wp2
  go_ret
  exact ⟨rfl, hw⟩

theorem lines_law (a : Pt) (x y k : Int) (w : World) :
    Calls Try.prog 7 #[.agg #[.int .i64 a.x, .int .i64 a.y], .int .i64 x, .int .i64 y, .int .i64 k] w fun e w' => e = .returned (.bool true) ∧ Below w.heap.size w w' := by
  cases ha : vld a with
  | false => exact lines_0 a x y k ha w
  | true =>
  cases t0 : decide (x < -1000) with
  | true => exact lines_1 a x y k ha t0 w
  | false =>
  cases t1 : decide (1000 < x) with
  | true => exact lines_2 a x y k ha t0 t1 w
  | false =>
  cases t2 : decide (y < -1000) with
  | true => exact lines_3 a x y k ha t0 t1 t2 w
  | false =>
  cases t3 : decide (1000 < y) with
  | true => exact lines_4 a x y k ha t0 t1 t2 t3 w
  | false =>
  cases t4 : decide (k < 1) with
  | true => exact lines_5 a x y k ha t0 t1 t2 t3 t4 w
  | false =>
  cases t5 : decide (1000 < k) with
  | true => exact lines_6 a x y k ha t0 t1 t2 t3 t4 t5 w
  | false =>
  cases vb : vld ⟨a.x + x, a.y + y⟩ with
  | false => exact lines_7 a x y k ha t0 t1 t2 t3 t4 t5 vb w
  | true => cases vc : vld ⟨a.x + x * k, a.y + y * k⟩ with
    | false => exact lines_8 a x y k ha t0 t1 t2 t3 t4 t5 vb vc w
    | true => exact lines_9 a x y k ha t0 t1 t2 t3 t4 t5 vb vc w
set_option maxRecDepth 100000 in
theorem exactLines_lifted (os : Os) (started : os.Started) (H : Type) (enc : TypeId × Value → H) :
    ReturnsInHanded {} Try.checked os 7 .any (Rows.exactLinesSpec.pre6 enc Try.prog Try.f7 Rows.exactLinesRow.domain false) (Rows.exactLinesSpec.post enc Try.prog Try.f7 false true false false) := by
  refine returnsInHanded_of_change (C := Try.checked) Try.own started (by kernel_rfl) Try.func7
    (ChangeSpec.witness6 (enc := enc) (C := Try.checked) false ⟨#[], #[.agg #[.int .i64 0, .int .i64 0], .int .i64 0, .int .i64 0, .int .i64 0], []⟩ 8 (by kernel_rfl) (by kernel_rfl) (by kernel_rfl) (by kernel_rfl)) ?_
  intro W base args ds gs before hval0 hW hcnd _
  have hval : ∀ (j : Nat) t v, Try.f7.params[j]? = some t → args[j]? = some v → Value.okWide Try.prog W .any base t v := hval0
  have hW' := hW
  obtain ⟨p, q, hA0, hV, rfl, hfz, hnd⟩ := hW
  have hA : DataW.TrodAll enc Try.prog W 0 (fun _ => true) true Try.f7.params.toList args.toList ds p := hA0
  rw [Try.params7] at hA hval
  obtain ⟨v0, v1, v2, v3, d0, d1, d2, d3, q0, q1, q2, q3, rfl, rfl, rfl, p0, p1, p2, p3⟩ := trodAll_four hA
  obtain ⟨rfl, rfl⟩ := trodVars_none hV
  obtain ⟨c0, e0, y0, z0, m0, rfl, rfl, rfl, hy0, hz0⟩ := Joins.open_agg2 Try.underlying23 (by kernel_rfl) (by kernel_rfl) (hval 0 23 v0 rfl rfl) p0
  obtain ⟨xa, f0, rfl, wxa⟩ := DataW.trod_int Try.underlying3 hy0
  obtain ⟨ya, g0, rfl, wya⟩ := DataW.trod_int Try.underlying3 hz0
  simp at f0 g0
  subst f0 g0
  obtain ⟨x, rfl, rfl, rfl, wx⟩ := open_int Try.underlying3 (hval 1 3 v1 rfl rfl) p1
  obtain ⟨y, rfl, rfl, rfl, wy⟩ := open_int Try.underlying3 (hval 2 3 v2 rfl rfl) p2
  obtain ⟨k, rfl, rfl, rfl, wk⟩ := open_int Try.underlying3 (hval 3 3 v3 rfl rfl) p3
  clear hA0 hval0
  simp only [List.append_nil] at hW'
  refine (lines_law ⟨xa, ya⟩ x y k W).mono fun e W' ⟨he, hb⟩ => ?_
  subst he
  exact ⟨_, rfl, post_of_below (pa := []) (pv := []) hW' (fun _ _ _ => trodAll_mk1 (shut_bool Try.underlying4 true)) (fun sp _ => trodAll_mk4 (Joins.shut_agg2 (y0 := (.lit (.int .i64 xa), [])) (y1 := (.lit (.int .i64 ya), [])) Try.underlying23 (by kernel_rfl) (by kernel_rfl) ⟨1, by simp [DataW.trod, Try.underlying3, wxa]⟩ ⟨1, by simp [DataW.trod, Try.underlying3, wya]⟩) (shut_int Try.underlying3 wx) (shut_int Try.underlying3 wy) (shut_int Try.underlying3 wk)) (fun _ _ => rfl) rfl hb (ok_one (by kernel_rfl) rfl (okWide_bool_mk Try.underlying4 true))⟩
/-- The law ExactLines holds of every input. -/
theorem exactLines_holds : Rows.ExactLinesSaid :=
  OpenClaim.holds_of_wide 7 Try.f7 rfl rfl rfl rfl rfl rfl rfl ⟨rfl, rfl, rfl, rfl, rfl⟩ rfl rfl rfl rfl rfl (by kernel_rfl) Try.func7 (by kernel_rfl)
    (of_decide_eq_true (by kernel_rfl)) (by unfold Func.isWrapper; rw [if_neg (of_decide_eq_false (by kernel_rfl))]; exact ⟨rfl, rfl⟩)
    (fun os started H enc _ => exactLines_lifted os started H enc)
end Go.Proofs.Ytmdehannbbpnaaa
