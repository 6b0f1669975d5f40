/- The contract of the document's own Along, over the program. -/
import Derived.Test.YtomdlhdpbdkdhaaRows
import Derived.Test.YtomdlhdpbdkdhaaReA
import Derived.Test.YtomdlhdpbdkdhaaPost
import Derived.WalkKit
import Derived.WalkSpells
import Derived.WalkLawsBesides
import Derived.Laws.Externs
import Derived.Deep.QuietTactic
import Derived.BigQuiet
import Derived.Lib.Hide
import Derived.Handy
import Derived.LoopTactic
import Derived.Test.YtomdlhdpbdkdhaaExJ
import Derived.Test.YtomdlhdpbdkdhaaExW
import Derived.Test.YtomdlhdpbdkdhaaWideH
import Derived.Test.YtomdlhdpbdkdhaaWideD
namespace Go.Proofs.Ytomdlhdpbdkdhaa
open Go.RowKit Go.Sort
attribute [local go_sem] rOper rAt rUpon cell_set sg_i64 sg_u64 alloc_cell alloc_frozen
attribute [local go_sem 10000] pt_eql pt_neq tri_eql
attribute [local irreducible] rWalk

theorem crn_vld {T : Tri3} (h : valT T = true) (i : Int) : vld (crn T i) = true := by
  obtain ⟨x, y, z⟩ := valT_vld h
  unfold crn
  split
  · exact x
  · split
    · exact y
    · exact z
theorem rdet_bd {a b c : Pt} (ha : vld a = true) (hb : vld b = true) (hc : vld c = true) : -1125899906842624 ≤ det a b c ∧ det a b c ≤ 1125899906842624 := by
  have s1 := way_sm ha hb
  have s2 := way_sm ha hc
  have h1 := mul_sm s1.1 s2.2
  have h2 := mul_sm s1.2 s2.1
  simp only [way] at h1 h2
  unfold det
  omega
/-- The part of a way that is left: from ln/ld to hn/hd. -/
structure Clp where
  (ln ld hn hd : Int)
def stp (f g : Int) (s : Clp) : Clp :=
  ⟨if f < 0 ∧ 0 < -f * s.ld - s.ln * (g - f) then -f else s.ln, if f < 0 ∧ 0 < -f * s.ld - s.ln * (g - f) then g - f else s.ld,
   if g < 0 ∧ f * s.hd - s.hn * (f - g) < 0 then f else s.hn, if g < 0 ∧ f * s.hd - s.hn * (f - g) < 0 then f - g else s.hd⟩
def edF (T : Tri3) (p : Pt) (n : Nat) : Int := det (crn T n) (crn T (n + 1)) p
def clp (T : Tri3) (a b : Pt) : Nat → Clp
  | 0 => ⟨0, 1, 1, 1⟩
  | n + 1 => stp (edF T a n) (edF T b n) (clp T a b n)
def sml (n : Int) : Prop := -2251799813685248 ≤ n ∧ n ≤ 2251799813685248
theorem clp_bd {T : Tri3} {a b : Pt} (h : valT T = true) (ha : vld a = true) (hb : vld b = true) : ∀ n, sml (clp T a b n).ln ∧ sml (clp T a b n).ld ∧ sml (clp T a b n).hn ∧ sml (clp T a b n).hd
  | 0 => by simp [clp, sml]
  | n + 1 => by
    have ih := clp_bd h ha hb n
    have d1 := rdet_bd (crn_vld h n) (crn_vld h (n + 1)) ha
    have d2 := rdet_bd (crn_vld h n) (crn_vld h (n + 1)) hb
    unfold clp edF stp
    generalize clp T a b n = s at *
    generalize det (crn T n) (crn T (n + 1)) a = f at *
    generalize det (crn T n) (crn T (n + 1)) b = g at *
    unfold sml at *
    refine ⟨?_, ?_, ?_, ?_⟩ <;> simp only <;> split <;> omega
/-- Both ends beyond an edge. -/
def bth (T : Tri3) (a b : Pt) (n : Nat) : Bool := decide (edF T a n < 0) && decide (edF T b n < 0)
def lst (s : Clp) : Bool := decide (sgn (s.ln * s.hd - s.hn * s.ld) < 0)
def sal (T : Tri3) (a b : Pt) : Bool := !bth T a b 0 && (!bth T a b 1 && (!bth T a b 2 && lst (clp T a b 3)))
theorem wrap_s {n : Int} (h : -9223372036854775808 ≤ n ∧ n ≤ 9223372036854775807) : wrap64 n = n ∧ IntKind.i64.wrap n = n := by
  rw [IntKind.wrap_i64, w64]; omega
theorem sml_mul {x y : Int} (hx : -9223372036854775808 ≤ x ∧ x ≤ 9223372036854775807) (hy : -9223372036854775808 ≤ y ∧ y ≤ 9223372036854775807) : fits (x * y) = true := fits_mul x y hx.1 hx.2 hy.1 hy.2
theorem rcmpm {n m : Int} (hn : fits n = true) (hm : fits m = true) (w : World) :
    Calls Try.prog 42 #[.agg #[.int .i64 (cH n), .int .u64 (cL n)], .agg #[.int .i64 (cH m), .int .u64 (cL m)]] w fun e w' => e = .returned (.int .i64 (sgn (n - m))) ∧ Below w.heap.size w w' := by
  have h := r_cmp (cH n) (cL n) (cH m) (cL m) (ok_c n) (ok_c m) w
  rw [V_c hn, V_c hm] at h
  exact h
theorem ral_0 (T : Tri3) (a b : Pt) (h0 : valT T = false) (w : World) :
    Calls Try.prog 14 #[.agg #[.int .i64 T.A.x, .int .i64 T.A.y, .int .i64 T.B.x, .int .i64 T.B.y, .int .i64 T.C.x, .int .i64 T.C.y], .agg #[.int .i64 a.x, .int .i64 a.y], .agg #[.int .i64 b.x, .int .i64 b.y]] w fun e w' => e = .returned (.bool false) ∧ Below w.heap.size w w' := by
  have c0 := rvalT_any T
  have c1 := rvalid_any a
  have c2 := rvalid_any b
  rw [h0] at c0
  clear h0
  go_enter Try.func14, Try.ntmps14
  go_wp2_with fail
  refine at_call fun W1 hW => ?_
  have Bt : Box W1 (w.heap.size) [.int .i64 T.A.x, .int .i64 T.A.y, .int .i64 T.B.x, .int .i64 T.B.y, .int .i64 T.C.x, .int .i64 T.C.y] 25 := by rw [hW]; exact ((Box.new rfl).old _).old _
  have Ba : Box W1 (w.heap.size + 1) [.int .i64 a.x, .int .i64 a.y] 23 := by rw [hW]; exact (Box.new (by simp)).old _
  have Bb : Box W1 (w.heap.size + 1 + 1) [.int .i64 b.x, .int .i64 b.y] 23 := by rw [hW]; exact Box.new (by simp)
  have hw : Below w.heap.size w W1 := by rw [hW]; go_grown
  clear hW
  refine (c0 _).mono ?_
  rintro e w2 ⟨rfl, hb⟩
  replace Bt := Bt.ext hb rfl
  replace Ba := Ba.ext hb rfl
  replace Bb := Bb.ext hb rfl
  replace hw := hw.trans (hb.mono hw.size)
  clear hb
  obtain ⟨xt, yt, zt, vt⟩ := Bt.facts
  obtain ⟨xa, ya, za, va⟩ := Ba.facts
  obtain ⟨xb, yb, zb, vb⟩ := Bb.facts
  go_wp2
  go_ret
  exact ⟨rfl, by have hl := hw.size; go_grown⟩

theorem ral_1 (T : Tri3) (a b : Pt) (h0 : valT T = true) (h1 : vld a = false) (w : World) :
    Calls Try.prog 14 #[.agg #[.int .i64 T.A.x, .int .i64 T.A.y, .int .i64 T.B.x, .int .i64 T.B.y, .int .i64 T.C.x, .int .i64 T.C.y], .agg #[.int .i64 a.x, .int .i64 a.y], .agg #[.int .i64 b.x, .int .i64 b.y]] w fun e w' => e = .returned (.bool false) ∧ Below w.heap.size w w' := by
  have c0 := rvalT_any T
  have c1 := rvalid_any a
  have c2 := rvalid_any b
  rw [h0] at c0
  rw [h1] at c1
  clear h0 h1
  go_enter Try.func14, Try.ntmps14
  go_wp2_with fail
  refine at_call fun W1 hW => ?_
  have Bt : Box W1 (w.heap.size) [.int .i64 T.A.x, .int .i64 T.A.y, .int .i64 T.B.x, .int .i64 T.B.y, .int .i64 T.C.x, .int .i64 T.C.y] 25 := by rw [hW]; exact ((Box.new rfl).old _).old _
  have Ba : Box W1 (w.heap.size + 1) [.int .i64 a.x, .int .i64 a.y] 23 := by rw [hW]; exact (Box.new (by simp)).old _
  have Bb : Box W1 (w.heap.size + 1 + 1) [.int .i64 b.x, .int .i64 b.y] 23 := by rw [hW]; exact Box.new (by simp)
  have hw : Below w.heap.size w W1 := by rw [hW]; go_grown
  clear hW
  refine (c0 _).mono ?_
  rintro e w2 ⟨rfl, hb⟩
  replace Bt := Bt.ext hb rfl
  replace Ba := Ba.ext hb rfl
  replace Bb := Bb.ext hb rfl
  replace hw := hw.trans (hb.mono hw.size)
  clear hb
  obtain ⟨xt, yt, zt, vt⟩ := Bt.facts
  obtain ⟨xa, ya, za, va⟩ := Ba.facts
  obtain ⟨xb, yb, zb, vb⟩ := Bb.facts
  go_wp2_with fail
  refine (c1 _).mono ?_
  rintro e w3 ⟨rfl, hb⟩
  clear xt yt zt vt xa ya za va xb yb zb vb
  replace Bt := Bt.ext hb rfl
  replace Ba := Ba.ext hb rfl
  replace Bb := Bb.ext hb rfl
  replace hw := hw.trans (hb.mono hw.size)
  clear hb
  obtain ⟨xt, yt, zt, vt⟩ := Bt.facts
  obtain ⟨xa, ya, za, va⟩ := Ba.facts
  obtain ⟨xb, yb, zb, vb⟩ := Bb.facts
  go_wp2
  go_ret
  exact ⟨rfl, by have hl := hw.size; go_grown⟩

theorem ral_2 (T : Tri3) (a b : Pt) (h0 : valT T = true) (h1 : vld a = true) (h2 : vld b = false) (w : World) :
    Calls Try.prog 14 #[.agg #[.int .i64 T.A.x, .int .i64 T.A.y, .int .i64 T.B.x, .int .i64 T.B.y, .int .i64 T.C.x, .int .i64 T.C.y], .agg #[.int .i64 a.x, .int .i64 a.y], .agg #[.int .i64 b.x, .int .i64 b.y]] w fun e w' => e = .returned (.bool false) ∧ Below w.heap.size w w' := by
  have c0 := rvalT_any T
  have c1 := rvalid_any a
  have c2 := rvalid_any b
  rw [h0] at c0
  rw [h1] at c1
  rw [h2] at c2
  clear h0 h1 h2
  go_enter Try.func14, Try.ntmps14
  go_wp2_with fail
  refine at_call fun W1 hW => ?_
  have Bt : Box W1 (w.heap.size) [.int .i64 T.A.x, .int .i64 T.A.y, .int .i64 T.B.x, .int .i64 T.B.y, .int .i64 T.C.x, .int .i64 T.C.y] 25 := by rw [hW]; exact ((Box.new rfl).old _).old _
  have Ba : Box W1 (w.heap.size + 1) [.int .i64 a.x, .int .i64 a.y] 23 := by rw [hW]; exact (Box.new (by simp)).old _
  have Bb : Box W1 (w.heap.size + 1 + 1) [.int .i64 b.x, .int .i64 b.y] 23 := by rw [hW]; exact Box.new (by simp)
  have hw : Below w.heap.size w W1 := by rw [hW]; go_grown
  clear hW
  refine (c0 _).mono ?_
  rintro e w2 ⟨rfl, hb⟩
  replace Bt := Bt.ext hb rfl
  replace Ba := Ba.ext hb rfl
  replace Bb := Bb.ext hb rfl
  replace hw := hw.trans (hb.mono hw.size)
  clear hb
  obtain ⟨xt, yt, zt, vt⟩ := Bt.facts
  obtain ⟨xa, ya, za, va⟩ := Ba.facts
  obtain ⟨xb, yb, zb, vb⟩ := Bb.facts
  go_wp2_with fail
  refine (c1 _).mono ?_
  rintro e w3 ⟨rfl, hb⟩
  clear xt yt zt vt xa ya za va xb yb zb vb
  replace Bt := Bt.ext hb rfl
  replace Ba := Ba.ext hb rfl
  replace Bb := Bb.ext hb rfl
  replace hw := hw.trans (hb.mono hw.size)
  clear hb
  obtain ⟨xt, yt, zt, vt⟩ := Bt.facts
  obtain ⟨xa, ya, za, va⟩ := Ba.facts
  obtain ⟨xb, yb, zb, vb⟩ := Bb.facts
  go_wp2_with fail
  refine (c2 _).mono ?_
  rintro e w4 ⟨rfl, hb⟩
  clear xt yt zt vt xa ya za va xb yb zb vb
  replace Bt := Bt.ext hb rfl
  replace Ba := Ba.ext hb rfl
  replace Bb := Bb.ext hb rfl
  replace hw := hw.trans (hb.mono hw.size)
  clear hb
  obtain ⟨xt, yt, zt, vt⟩ := Bt.facts
  obtain ⟨xa, ya, za, va⟩ := Ba.facts
  obtain ⟨xb, yb, zb, vb⟩ := Bb.facts
  go_wp2
  go_ret
  exact ⟨rfl, by have hl := hw.size; go_grown⟩

theorem ral_3 (T : Tri3) (a b : Pt) (h0 : valT T = true) (h1 : vld a = true) (h2 : vld b = true) (h3 : peqI a.x a.y b.x b.y = true) (w : World) :
    Calls Try.prog 14 #[.agg #[.int .i64 T.A.x, .int .i64 T.A.y, .int .i64 T.B.x, .int .i64 T.B.y, .int .i64 T.C.x, .int .i64 T.C.y], .agg #[.int .i64 a.x, .int .i64 a.y], .agg #[.int .i64 b.x, .int .i64 b.y]] w fun e w' => e = .returned (.bool false) ∧ Below w.heap.size w w' := by
  have c0 := rvalT_any T
  have c1 := rvalid_any a
  have c2 := rvalid_any b
  rw [h0] at c0
  rw [h1] at c1
  rw [h2] at c2
  clear h0 h1 h2
  go_enter Try.func14, Try.ntmps14
  go_wp2_with fail
  refine at_call fun W1 hW => ?_
  have Bt : Box W1 (w.heap.size) [.int .i64 T.A.x, .int .i64 T.A.y, .int .i64 T.B.x, .int .i64 T.B.y, .int .i64 T.C.x, .int .i64 T.C.y] 25 := by rw [hW]; exact ((Box.new rfl).old _).old _
  have Ba : Box W1 (w.heap.size + 1) [.int .i64 a.x, .int .i64 a.y] 23 := by rw [hW]; exact (Box.new (by simp)).old _
  have Bb : Box W1 (w.heap.size + 1 + 1) [.int .i64 b.x, .int .i64 b.y] 23 := by rw [hW]; exact Box.new (by simp)
  have hw : Below w.heap.size w W1 := by rw [hW]; go_grown
  clear hW
  refine (c0 _).mono ?_
  rintro e w2 ⟨rfl, hb⟩
  replace Bt := Bt.ext hb rfl
  replace Ba := Ba.ext hb rfl
  replace Bb := Bb.ext hb rfl
  replace hw := hw.trans (hb.mono hw.size)
  clear hb
  obtain ⟨xt, yt, zt, vt⟩ := Bt.facts
  obtain ⟨xa, ya, za, va⟩ := Ba.facts
  obtain ⟨xb, yb, zb, vb⟩ := Bb.facts
  go_wp2_with fail
  refine (c1 _).mono ?_
  rintro e w3 ⟨rfl, hb⟩
  clear xt yt zt vt xa ya za va xb yb zb vb
  replace Bt := Bt.ext hb rfl
  replace Ba := Ba.ext hb rfl
  replace Bb := Bb.ext hb rfl
  replace hw := hw.trans (hb.mono hw.size)
  clear hb
  obtain ⟨xt, yt, zt, vt⟩ := Bt.facts
  obtain ⟨xa, ya, za, va⟩ := Ba.facts
  obtain ⟨xb, yb, zb, vb⟩ := Bb.facts
  go_wp2_with fail
  refine (c2 _).mono ?_
  rintro e w4 ⟨rfl, hb⟩
  clear xt yt zt vt xa ya za va xb yb zb vb
  replace Bt := Bt.ext hb rfl
  replace Ba := Ba.ext hb rfl
  replace Bb := Bb.ext hb rfl
  replace hw := hw.trans (hb.mono hw.size)
  clear hb
  obtain ⟨xt, yt, zt, vt⟩ := Bt.facts
  obtain ⟨xa, ya, za, va⟩ := Ba.facts
  obtain ⟨xb, yb, zb, vb⟩ := Bb.facts
  go_wp2
  go_ret
  exact ⟨rfl, by have hl := hw.size; go_grown⟩

set_option maxRecDepth 100000 in
set_option maxHeartbeats 4000000 in
theorem ral_4 (T : Tri3) (a b : Pt) (hv : valT T = true) (ha : vld a = true) (hb : vld b = true) (h3 : peqI a.x a.y b.x b.y = false) (w : World) :
    Calls Try.prog 14 #[.agg #[.int .i64 T.A.x, .int .i64 T.A.y, .int .i64 T.B.x, .int .i64 T.B.y, .int .i64 T.C.x, .int .i64 T.C.y], .agg #[.int .i64 a.x, .int .i64 a.y], .agg #[.int .i64 b.x, .int .i64 b.y]] w fun e w' => e = .returned (.bool (sal T a b)) ∧ Below w.heap.size w w' := by
  have c0 := rvalT_any T
  have c1 := rvalid_any a
  have c2 := rvalid_any b
  rw [hv] at c0
  rw [ha] at c1
  rw [hb] at c2
  go_enter Try.func14, Try.ntmps14
  go_wp2_with fail
  refine at_call fun W1 hW => ?_
  have Bt : Box W1 (w.heap.size) [.int .i64 T.A.x, .int .i64 T.A.y, .int .i64 T.B.x, .int .i64 T.B.y, .int .i64 T.C.x, .int .i64 T.C.y] 25 := by rw [hW]; exact ((Box.new rfl).old _).old _
  have Ba : Box W1 (w.heap.size + 1) [.int .i64 a.x, .int .i64 a.y] 23 := by rw [hW]; exact (Box.new (by simp)).old _
  have Bb : Box W1 (w.heap.size + 1 + 1) [.int .i64 b.x, .int .i64 b.y] 23 := by rw [hW]; exact Box.new (by simp)
  have hw : Below w.heap.size w W1 := by rw [hW]; go_grown
  clear hW
  refine (c0 _).mono ?_
  rintro e w2 ⟨rfl, hb⟩
  replace Bt := Bt.ext hb rfl
  replace Ba := Ba.ext hb rfl
  replace Bb := Bb.ext hb rfl
  replace hw := hw.trans (hb.mono hw.size)
  clear hb
  obtain ⟨xt, yt, zt, vt⟩ := Bt.facts
  obtain ⟨xa, ya, za, va⟩ := Ba.facts
  obtain ⟨xb, yb, zb, vb⟩ := Bb.facts
  go_wp2_with fail
  refine (c1 _).mono ?_
  rintro e w3 ⟨rfl, hb⟩
  clear xt yt zt vt xa ya za va xb yb zb vb
  replace Bt := Bt.ext hb rfl
  replace Ba := Ba.ext hb rfl
  replace Bb := Bb.ext hb rfl
  replace hw := hw.trans (hb.mono hw.size)
  clear hb
  obtain ⟨xt, yt, zt, vt⟩ := Bt.facts
  obtain ⟨xa, ya, za, va⟩ := Ba.facts
  obtain ⟨xb, yb, zb, vb⟩ := Bb.facts
  go_wp2_with fail
  refine (c2 _).mono ?_
  rintro e w4 ⟨rfl, hb⟩
  clear xt yt zt vt xa ya za va xb yb zb vb
  replace Bt := Bt.ext hb rfl
  replace Ba := Ba.ext hb rfl
  replace Bb := Bb.ext hb rfl
  replace hw := hw.trans (hb.mono hw.size)
  clear hb
  obtain ⟨xt, yt, zt, vt⟩ := Bt.facts
  obtain ⟨xa, ya, za, va⟩ := Ba.facts
  obtain ⟨xb, yb, zb, vb⟩ := Bb.facts
  go_wp2_with fail
  refine at_world fun W5 hW => ?_
  replace hw : Below w.heap.size w W5 := by rw [hW]; exact hw
  replace Bt : Box W5 (w.heap.size) [.int .i64 T.A.x, .int .i64 T.A.y, .int .i64 T.B.x, .int .i64 T.B.y, .int .i64 T.C.x, .int .i64 T.C.y] 25 := by rw [hW]; exact Bt
  replace Ba : Box W5 (w.heap.size + 1) [.int .i64 a.x, .int .i64 a.y] 23 := by rw [hW]; exact Ba
  replace Bb : Box W5 (w.heap.size + 1 + 1) [.int .i64 b.x, .int .i64 b.y] 23 := by rw [hW]; exact Bb
  clear hW c0 c1 c2 h3
  clear xt yt zt vt xa ya za va xb yb zb vb
  go_loopw [7, 8, 9, 10, 11] (fun x y z v i wr => ∃ n : Nat, n ≤ 3 ∧ x = .int .i64 (clp T a b n).ln ∧ y = .int .i64 (clp T a b n).ld ∧ z = .int .i64 (clp T a b n).hn ∧ v = .int .i64 (clp T a b n).hd ∧ i = .int .i64 n ∧ (∀ j, j < n → bth T a b j = false) ∧ Below w.heap.size w wr ∧ Box wr (w.heap.size) [.int .i64 T.A.x, .int .i64 T.A.y, .int .i64 T.B.x, .int .i64 T.B.y, .int .i64 T.C.x, .int .i64 T.C.y] 25 ∧ Box wr (w.heap.size + 1) [.int .i64 a.x, .int .i64 a.y] 23 ∧ Box wr (w.heap.size + 1 + 1) [.int .i64 b.x, .int .i64 b.y] 23) (fun _ _ _ _ i _ => 3 - (intOf i).toNat)
  case atStart => exact ⟨0, by omega, rfl, rfl, rfl, rfl, rfl, fun j h => absurd h (by omega), hw, Bt, Ba, Bb⟩
  case round =>
    obtain ⟨n, n3, rfl, rfl, rfl, rfl, rfl, hno, hw', Ct, Ca, Cb⟩ := hrel
    clear hw Bt Ba Bb
    have hw := hw'
    clear hw'
    have Bt := Ct
    clear Ct
    have Ba := Ca
    clear Ca
    have Bb := Cb
    clear Cb
    by_cases hn : n < 3
    · have hd : decide ((n : Int) < 3) = true := by simp; omega
      have c1 := rcorner_any T n
      have c2 := rcorner_any T (n + 1)
      have vX := crn_vld hv n
      have vY := crn_vld hv (n + 1)
      have f1 := rtwice_any (crn T n) (crn T (n + 1)) a vX vY ha
      have g1 := rtwice_any (crn T n) (crn T (n + 1)) b vX vY hb
      have df := rdet_bd vX vY ha
      have dg := rdet_bd vX vY hb
      obtain ⟨b1, b2, b3, b4⟩ := clp_bd hv ha hb n
      have eS : clp T a b (n + 1) = stp (det (crn T n) (crn T (n + 1)) a) (det (crn T n) (crn T (n + 1)) b) (clp T a b n) := rfl
      have eB : bth T a b n = (decide (det (crn T n) (crn T (n + 1)) a < 0) && decide (det (crn T n) (crn T (n + 1)) b < 0)) := rfl
      have hno2 : bth T a b n = false → ∀ j, j < n + 1 → bth T a b j = false := by
        intro hq j hj
        by_cases e : j = n
        · rw [e]; exact hq
        · exact hno j (by omega)
      have hs : bth T a b n = true → sal T a b = false := by
        intro hq
        unfold sal
        have hn : n = 0 ∨ n = 1 ∨ n = 2 := by omega
        rcases hn with rfl | rfl | rfl <;> rw [hq] <;> simp
      obtain ⟨wI, wI2⟩ := wrap_s (n := (n : Int) + 1) (by omega)
      generalize det (crn T n) (crn T (n + 1)) a = f at *
      generalize det (crn T n) (crn T (n + 1)) b = g at *
      generalize crn T (n + 1) = Y at *
      generalize crn T n = X at *
      obtain ⟨S, hS⟩ : ∃ S, S = clp T a b n := ⟨_, rfl⟩
      rw [← hS] at b1 b2 b3 b4 eS
      unfold sml at b1 b2 b3 b4
      rw [← hS]
      clear hS hno vX vY ha hb hv
      cases hf : decide (f < 0)
      · cases hg : decide (g < 0)
        · have hno2 := hno2 (by rw [eB, hf, hg]; rfl)
          have eS : clp T a b (n + 1) = ⟨S.ln, S.ld, S.hn, S.hd⟩ := by
            rw [eS]; unfold stp
            have hf := of_decide_eq_false hf
            have hg := of_decide_eq_false hg
            rw [if_neg (fun h => hf h.1), if_neg (fun h => hf h.1), if_neg (fun h => hg h.1), if_neg (fun h => hg h.1)]
          have ES := Lib.hid eS
          clear hs eB eS b1 b2 b3 b4 df dg
          as_aux_lemma =>
            go_wp2_with fail
            have gt := Bt.cells
            have ga := Ba.cells
            have gb := Bb.cells
            refine wp_region_tail 18 (by kernel_rfl) (by kernel_rfl) (C := fun w' => ∃ p : Regrown, w' = grow (redrawn wr p.d) p.os) (fun w' h => regrown_of_below h) ?_
            simp only [List.take_succ_cons, List.take_zero, List.drop_succ_cons, List.drop_zero]
            repeat (first | (refine rWalk_skip (Eq.refl false) ?_; simp only [Act.put, List.setIfInBounds_toArray, List.set_cons_succ, List.set_cons_zero]) | (refine rWalk_step (fun K hK => ?_); go_simp; first | (refine hK _ ?_; clear hK K) | (apply Exists.intro; refine ⟨fun _ => ?_, hK _ ?_⟩; (first | with_reducible exact toExt c1 _ | with_reducible exact toExt c2 _ | with_reducible exact toExt f1 _ | with_reducible exact toExt g1 _); clear hK K)))
            refine rWalk_nil ?_
            intro w6 hb
            clear gt ga gb
            replace Bt := Bt.ext hb rfl
            replace Ba := Ba.ext hb rfl
            replace Bb := Bb.ext hb rfl
            replace hw := hw.trans (hb.mono hw.size)
            clear c1 c2 f1 g1
            go_wp2_with fail
            go_roundw
            case rel => exact ⟨n + 1, by omega, by rw [ES.out], by rw [ES.out], by rw [ES.out], by rw [ES.out], rfl, hno2, hw, Bt, Ba, Bb⟩
            case measure => simp [intOf]; omega
        · have hno2 := hno2 (by rw [eB, hf, hg]; rfl)
          obtain ⟨wA, wA2⟩ := wrap_s (n := f) (by omega)
          obtain ⟨wB, wB2⟩ := wrap_s (n := f - g) (by omega)
          have m1 := r_mul (f) (S.hd) (by omega) (by omega) (by omega) (by omega)
          have m2 := r_mul (S.hn) (f - g) (by omega) (by omega) (by omega) (by omega)
          have cc := rcmpm (sml_mul (x := f) (y := S.hd) (by omega) (by omega)) (sml_mul (x := S.hn) (y := f - g) (by omega) (by omega))
          cases hq : decide (sgn (f * S.hd - S.hn * (f - g)) < 0)
          · have eS : clp T a b (n + 1) = ⟨S.ln, S.ld, S.hn, S.hd⟩ := by
              rw [eS]; unfold stp
              have hq2 : ¬ (f * S.hd - S.hn * (f - g) < 0) := by
                have := of_decide_eq_false hq
                unfold sgn at this
                (repeat' split at this) <;> omega
              rw [if_neg (fun h => (of_decide_eq_false hf) h.1), if_neg (fun h => (of_decide_eq_false hf) h.1), if_neg (fun h => hq2 h.2), if_neg (fun h => hq2 h.2)]
            have ES := Lib.hid eS
            generalize sgn (f * S.hd - S.hn * (f - g)) = o at *
            generalize f * S.hd = p at *
            generalize S.hn * (f - g) = q at *
            clear hs eB eS b1 b2 b3 b4 df dg
            as_aux_lemma =>
              go_wp2_with fail
              have gt := Bt.cells
              have ga := Ba.cells
              have gb := Bb.cells
              refine wp_region_tail 18 (by kernel_rfl) (by kernel_rfl) (C := fun w' => ∃ p : Regrown, w' = grow (redrawn wr p.d) p.os) (fun w' h => regrown_of_below h) ?_
              simp only [List.take_succ_cons, List.take_zero, List.drop_succ_cons, List.drop_zero]
              repeat (first | (refine rWalk_skip (Eq.refl false) ?_; simp only [Act.put, List.setIfInBounds_toArray, List.set_cons_succ, List.set_cons_zero]) | (refine rWalk_step (fun K hK => ?_); go_simp; first | (refine hK _ ?_; clear hK K) | (apply Exists.intro; refine ⟨fun _ => ?_, hK _ ?_⟩; (first | with_reducible exact toExt c1 _ | with_reducible exact toExt c2 _ | with_reducible exact toExt f1 _ | with_reducible exact toExt g1 _); clear hK K)))
              refine rWalk_nil ?_
              intro w6 hb
              clear gt ga gb
              replace Bt := Bt.ext hb rfl
              replace Ba := Ba.ext hb rfl
              replace Bb := Bb.ext hb rfl
              replace hw := hw.trans (hb.mono hw.size)
              clear c1 c2 f1 g1
              go_wp2_with fail
              refine (m1 _).mono ?_
              rintro e w7 ⟨rfl, hb⟩
              replace Bt := Bt.ext hb rfl
              replace Ba := Ba.ext hb rfl
              replace Bb := Bb.ext hb rfl
              replace hw := hw.trans (hb.mono hw.size)
              clear hb
              go_wp2_with fail
              refine (m2 _).mono ?_
              rintro e w8 ⟨rfl, hb⟩
              replace Bt := Bt.ext hb rfl
              replace Ba := Ba.ext hb rfl
              replace Bb := Bb.ext hb rfl
              replace hw := hw.trans (hb.mono hw.size)
              clear hb
              go_wp2_with fail
              refine (cc _).mono ?_
              rintro e w9 ⟨rfl, hb⟩
              replace Bt := Bt.ext hb rfl
              replace Ba := Ba.ext hb rfl
              replace Bb := Bb.ext hb rfl
              replace hw := hw.trans (hb.mono hw.size)
              clear hb
              go_wp2_with fail
              go_roundw
              case rel => exact ⟨n + 1, by omega, by rw [ES.out], by rw [ES.out], by rw [ES.out], by rw [ES.out], rfl, hno2, hw, Bt, Ba, Bb⟩
              case measure => simp [intOf]; omega
          · have eS : clp T a b (n + 1) = ⟨S.ln, S.ld, f, f - g⟩ := by
              rw [eS]; unfold stp
              have hq2 : f * S.hd - S.hn * (f - g) < 0 := by
                have := of_decide_eq_true hq
                unfold sgn at this
                (repeat' split at this) <;> omega
              rw [if_neg (fun h => (of_decide_eq_false hf) h.1), if_neg (fun h => (of_decide_eq_false hf) h.1), if_pos ⟨of_decide_eq_true hg, hq2⟩, if_pos ⟨of_decide_eq_true hg, hq2⟩]
            have ES := Lib.hid eS
            generalize sgn (f * S.hd - S.hn * (f - g)) = o at *
            generalize f * S.hd = p at *
            generalize S.hn * (f - g) = q at *
            clear hs eB eS b1 b2 b3 b4 df dg
            as_aux_lemma =>
              go_wp2_with fail
              have gt := Bt.cells
              have ga := Ba.cells
              have gb := Bb.cells
              refine wp_region_tail 18 (by kernel_rfl) (by kernel_rfl) (C := fun w' => ∃ p : Regrown, w' = grow (redrawn wr p.d) p.os) (fun w' h => regrown_of_below h) ?_
              simp only [List.take_succ_cons, List.take_zero, List.drop_succ_cons, List.drop_zero]
              repeat (first | (refine rWalk_skip (Eq.refl false) ?_; simp only [Act.put, List.setIfInBounds_toArray, List.set_cons_succ, List.set_cons_zero]) | (refine rWalk_step (fun K hK => ?_); go_simp; first | (refine hK _ ?_; clear hK K) | (apply Exists.intro; refine ⟨fun _ => ?_, hK _ ?_⟩; (first | with_reducible exact toExt c1 _ | with_reducible exact toExt c2 _ | with_reducible exact toExt f1 _ | with_reducible exact toExt g1 _); clear hK K)))
              refine rWalk_nil ?_
              intro w6 hb
              clear gt ga gb
              replace Bt := Bt.ext hb rfl
              replace Ba := Ba.ext hb rfl
              replace Bb := Bb.ext hb rfl
              replace hw := hw.trans (hb.mono hw.size)
              clear c1 c2 f1 g1
              go_wp2_with fail
              refine (m1 _).mono ?_
              rintro e w7 ⟨rfl, hb⟩
              replace Bt := Bt.ext hb rfl
              replace Ba := Ba.ext hb rfl
              replace Bb := Bb.ext hb rfl
              replace hw := hw.trans (hb.mono hw.size)
              clear hb
              go_wp2_with fail
              refine (m2 _).mono ?_
              rintro e w8 ⟨rfl, hb⟩
              replace Bt := Bt.ext hb rfl
              replace Ba := Ba.ext hb rfl
              replace Bb := Bb.ext hb rfl
              replace hw := hw.trans (hb.mono hw.size)
              clear hb
              go_wp2_with fail
              refine (cc _).mono ?_
              rintro e w9 ⟨rfl, hb⟩
              replace Bt := Bt.ext hb rfl
              replace Ba := Ba.ext hb rfl
              replace Bb := Bb.ext hb rfl
              replace hw := hw.trans (hb.mono hw.size)
              clear hb
              go_wp2_with fail
              go_roundw
              case rel => exact ⟨n + 1, by omega, by rw [ES.out], by rw [ES.out], by rw [ES.out], by rw [ES.out], rfl, hno2, hw, Bt, Ba, Bb⟩
              case measure => simp [intOf]; omega
      · cases hg : decide (g < 0)
        · have hno2 := hno2 (by rw [eB, hf, hg]; rfl)
          obtain ⟨wA, wA2⟩ := wrap_s (n := -f) (by omega)
          obtain ⟨wB, wB2⟩ := wrap_s (n := g - f) (by omega)
          have m1 := r_mul (-f) (S.ld) (by omega) (by omega) (by omega) (by omega)
          have m2 := r_mul (S.ln) (g - f) (by omega) (by omega) (by omega) (by omega)
          have cc := rcmpm (sml_mul (x := -f) (y := S.ld) (by omega) (by omega)) (sml_mul (x := S.ln) (y := g - f) (by omega) (by omega))
          cases hq : decide (sgn (-f * S.ld - S.ln * (g - f)) > 0)
          · have eS : clp T a b (n + 1) = ⟨S.ln, S.ld, S.hn, S.hd⟩ := by
              rw [eS]; unfold stp
              have hq2 : ¬ (0 < -f * S.ld - S.ln * (g - f)) := by
                have := of_decide_eq_false hq
                unfold sgn at this
                (repeat' split at this) <;> omega
              rw [if_neg (fun h => hq2 h.2), if_neg (fun h => hq2 h.2), if_neg (fun h => (of_decide_eq_false hg) h.1), if_neg (fun h => (of_decide_eq_false hg) h.1)]
            have ES := Lib.hid eS
            generalize sgn (-f * S.ld - S.ln * (g - f)) = o at *
            generalize -f * S.ld = p at *
            generalize S.ln * (g - f) = q at *
            clear hs eB eS b1 b2 b3 b4 df dg
            as_aux_lemma =>
              go_wp2_with fail
              have gt := Bt.cells
              have ga := Ba.cells
              have gb := Bb.cells
              refine wp_region_tail 18 (by kernel_rfl) (by kernel_rfl) (C := fun w' => ∃ p : Regrown, w' = grow (redrawn wr p.d) p.os) (fun w' h => regrown_of_below h) ?_
              simp only [List.take_succ_cons, List.take_zero, List.drop_succ_cons, List.drop_zero]
              repeat (first | (refine rWalk_skip (Eq.refl false) ?_; simp only [Act.put, List.setIfInBounds_toArray, List.set_cons_succ, List.set_cons_zero]) | (refine rWalk_step (fun K hK => ?_); go_simp; first | (refine hK _ ?_; clear hK K) | (apply Exists.intro; refine ⟨fun _ => ?_, hK _ ?_⟩; (first | with_reducible exact toExt c1 _ | with_reducible exact toExt c2 _ | with_reducible exact toExt f1 _ | with_reducible exact toExt g1 _); clear hK K)))
              refine rWalk_nil ?_
              intro w6 hb
              clear gt ga gb
              replace Bt := Bt.ext hb rfl
              replace Ba := Ba.ext hb rfl
              replace Bb := Bb.ext hb rfl
              replace hw := hw.trans (hb.mono hw.size)
              clear c1 c2 f1 g1
              go_wp2_with fail
              refine (m1 _).mono ?_
              rintro e w7 ⟨rfl, hb⟩
              replace Bt := Bt.ext hb rfl
              replace Ba := Ba.ext hb rfl
              replace Bb := Bb.ext hb rfl
              replace hw := hw.trans (hb.mono hw.size)
              clear hb
              go_wp2_with fail
              refine (m2 _).mono ?_
              rintro e w8 ⟨rfl, hb⟩
              replace Bt := Bt.ext hb rfl
              replace Ba := Ba.ext hb rfl
              replace Bb := Bb.ext hb rfl
              replace hw := hw.trans (hb.mono hw.size)
              clear hb
              go_wp2_with fail
              refine (cc _).mono ?_
              rintro e w9 ⟨rfl, hb⟩
              replace Bt := Bt.ext hb rfl
              replace Ba := Ba.ext hb rfl
              replace Bb := Bb.ext hb rfl
              replace hw := hw.trans (hb.mono hw.size)
              clear hb
              go_wp2_with fail
              go_roundw
              case rel => exact ⟨n + 1, by omega, by rw [ES.out], by rw [ES.out], by rw [ES.out], by rw [ES.out], rfl, hno2, hw, Bt, Ba, Bb⟩
              case measure => simp [intOf]; omega
          · have eS : clp T a b (n + 1) = ⟨-f, g - f, S.hn, S.hd⟩ := by
              rw [eS]; unfold stp
              have hq2 : 0 < -f * S.ld - S.ln * (g - f) := by
                have := of_decide_eq_true hq
                unfold sgn at this
                (repeat' split at this) <;> omega
              rw [if_pos ⟨of_decide_eq_true hf, hq2⟩, if_pos ⟨of_decide_eq_true hf, hq2⟩, if_neg (fun h => (of_decide_eq_false hg) h.1), if_neg (fun h => (of_decide_eq_false hg) h.1)]
            have ES := Lib.hid eS
            generalize sgn (-f * S.ld - S.ln * (g - f)) = o at *
            generalize -f * S.ld = p at *
            generalize S.ln * (g - f) = q at *
            clear hs eB eS b1 b2 b3 b4 df dg
            as_aux_lemma =>
              go_wp2_with fail
              have gt := Bt.cells
              have ga := Ba.cells
              have gb := Bb.cells
              refine wp_region_tail 18 (by kernel_rfl) (by kernel_rfl) (C := fun w' => ∃ p : Regrown, w' = grow (redrawn wr p.d) p.os) (fun w' h => regrown_of_below h) ?_
              simp only [List.take_succ_cons, List.take_zero, List.drop_succ_cons, List.drop_zero]
              repeat (first | (refine rWalk_skip (Eq.refl false) ?_; simp only [Act.put, List.setIfInBounds_toArray, List.set_cons_succ, List.set_cons_zero]) | (refine rWalk_step (fun K hK => ?_); go_simp; first | (refine hK _ ?_; clear hK K) | (apply Exists.intro; refine ⟨fun _ => ?_, hK _ ?_⟩; (first | with_reducible exact toExt c1 _ | with_reducible exact toExt c2 _ | with_reducible exact toExt f1 _ | with_reducible exact toExt g1 _); clear hK K)))
              refine rWalk_nil ?_
              intro w6 hb
              clear gt ga gb
              replace Bt := Bt.ext hb rfl
              replace Ba := Ba.ext hb rfl
              replace Bb := Bb.ext hb rfl
              replace hw := hw.trans (hb.mono hw.size)
              clear c1 c2 f1 g1
              go_wp2_with fail
              refine (m1 _).mono ?_
              rintro e w7 ⟨rfl, hb⟩
              replace Bt := Bt.ext hb rfl
              replace Ba := Ba.ext hb rfl
              replace Bb := Bb.ext hb rfl
              replace hw := hw.trans (hb.mono hw.size)
              clear hb
              go_wp2_with fail
              refine (m2 _).mono ?_
              rintro e w8 ⟨rfl, hb⟩
              replace Bt := Bt.ext hb rfl
              replace Ba := Ba.ext hb rfl
              replace Bb := Bb.ext hb rfl
              replace hw := hw.trans (hb.mono hw.size)
              clear hb
              go_wp2_with fail
              refine (cc _).mono ?_
              rintro e w9 ⟨rfl, hb⟩
              replace Bt := Bt.ext hb rfl
              replace Ba := Ba.ext hb rfl
              replace Bb := Bb.ext hb rfl
              replace hw := hw.trans (hb.mono hw.size)
              clear hb
              go_wp2_with fail
              go_roundw
              case rel => exact ⟨n + 1, by omega, by rw [ES.out], by rw [ES.out], by rw [ES.out], by rw [ES.out], rfl, hno2, hw, Bt, Ba, Bb⟩
              case measure => simp [intOf]; omega
        · have hs := hs (by rw [eB, hf, hg]; rfl)
          have HS := Lib.hid hs
          clear hs hno2 eB eS b1 b2 b3 b4 df dg
          as_aux_lemma =>
            go_wp2_with fail
            have gt := Bt.cells
            have ga := Ba.cells
            have gb := Bb.cells
            refine wp_region_tail 18 (by kernel_rfl) (by kernel_rfl) (C := fun w' => ∃ p : Regrown, w' = grow (redrawn wr p.d) p.os) (fun w' h => regrown_of_below h) ?_
            simp only [List.take_succ_cons, List.take_zero, List.drop_succ_cons, List.drop_zero]
            repeat (first | (refine rWalk_skip (Eq.refl false) ?_; simp only [Act.put, List.setIfInBounds_toArray, List.set_cons_succ, List.set_cons_zero]) | (refine rWalk_step (fun K hK => ?_); go_simp; first | (refine hK _ ?_; clear hK K) | (apply Exists.intro; refine ⟨fun _ => ?_, hK _ ?_⟩; (first | with_reducible exact toExt c1 _ | with_reducible exact toExt c2 _ | with_reducible exact toExt f1 _ | with_reducible exact toExt g1 _); clear hK K)))
            refine rWalk_nil ?_
            intro w6 hb
            clear gt ga gb
            replace Bt := Bt.ext hb rfl
            replace Ba := Ba.ext hb rfl
            replace Bb := Bb.ext hb rfl
            replace hw := hw.trans (hb.mono hw.size)
            clear c1 c2 f1 g1
            go_wp2_with fail
            go_ret
            exact ⟨ret_bool HS.out.symm, hw⟩
    · obtain rfl : n = 3 := by omega
      have hs : sal T a b = lst (clp T a b 3) := by unfold sal; rw [hno 0 (by omega), hno 1 (by omega), hno 2 (by omega)]; rfl
      have HS := Lib.hid hs
      obtain ⟨b1, b2, b3, b4⟩ := clp_bd hv ha hb 3
      unfold lst at HS
      generalize clp T a b 3 = S at *
      unfold sml at b1 b2 b3 b4
      have m1 := r_mul S.ln S.hd (by omega) (by omega) (by omega) (by omega)
      have m2 := r_mul S.hn S.ld (by omega) (by omega) (by omega) (by omega)
      have cc := rcmpm (sml_mul (x := S.ln) (y := S.hd) (by omega) (by omega)) (sml_mul (x := S.hn) (y := S.ld) (by omega) (by omega))
      generalize sgn (S.ln * S.hd - S.hn * S.ld) = o at *
      generalize S.ln * S.hd = p at *
      generalize S.hn * S.ld = q at *
      have hd : decide (((3 : Nat) : Int) < 3) = false := by decide
      clear hs hno b1 b2 b3 b4 ha hb hv
      as_aux_lemma =>
        go_wp2_with fail
        refine (m1 _).mono ?_
        rintro e w6 ⟨rfl, hb⟩
        replace Bt := Bt.ext hb rfl
        replace Ba := Ba.ext hb rfl
        replace Bb := Bb.ext hb rfl
        replace hw := hw.trans (hb.mono hw.size)
        clear hb
        go_wp2_with fail
        refine (m2 _).mono ?_
        rintro e w7 ⟨rfl, hb⟩
        replace Bt := Bt.ext hb rfl
        replace Ba := Ba.ext hb rfl
        replace Bb := Bb.ext hb rfl
        replace hw := hw.trans (hb.mono hw.size)
        clear hb
        go_wp2_with fail
        refine (cc _).mono ?_
        rintro e w8 ⟨rfl, hb⟩
        replace Bt := Bt.ext hb rfl
        replace Ba := Ba.ext hb rfl
        replace Bb := Bb.ext hb rfl
        replace hw := hw.trans (hb.mono hw.size)
        clear hb
        go_wp2
        go_ret
        exact ⟨ret_bool HS.out.symm, hw⟩

def ralg (T : Tri3) (a b : Pt) : Bool := valT T && (vld a && (vld b && (!peqI a.x a.y b.x b.y && sal T a b)))
theorem ralg_any (T : Tri3) (a b : Pt) (w : World) :
    Calls Try.prog 14 #[.agg #[.int .i64 T.A.x, .int .i64 T.A.y, .int .i64 T.B.x, .int .i64 T.B.y, .int .i64 T.C.x, .int .i64 T.C.y], .agg #[.int .i64 a.x, .int .i64 a.y], .agg #[.int .i64 b.x, .int .i64 b.y]] w fun e w' => e = .returned (.bool (ralg T a b)) ∧ Below w.heap.size w w' := by
  unfold ralg
  cases h0 : valT T with
  | false => exact ral_0 T a b h0 w
  | true => cases h1 : vld a with
    | false => exact ral_1 T a b h0 h1 w
    | true => cases h2 : vld b with
      | false => exact ral_2 T a b h0 h1 h2 w
      | true => cases h3 : peqI a.x a.y b.x b.y with
        | true => exact ral_3 T a b h0 h1 h2 h3 w
        | false => exact ral_4 T a b h0 h1 h2 h3 w
end Go.Proofs.Ytomdlhdpbdkdhaa
