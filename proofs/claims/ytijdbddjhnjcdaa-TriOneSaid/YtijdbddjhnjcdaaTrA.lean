/- The contracts of package tri's small functions, over the program: place, Corner, turned, leads, Valid. -/
import Derived.Test.YtijdbddjhnjcdaaRows
import Derived.Test.YtijdbddjhnjcdaaExW
import Derived.Test.YtijdbddjhnjcdaaPost
import Derived.WalkKit
import Derived.WalkSpells
import Derived.WalkLawsBesides
import Derived.Laws.Externs
import Derived.Deep.QuietTactic
import Derived.BigQuiet
import Derived.Lib.Hide
import Derived.Handy
namespace Go.Proofs.Ytijdbddjhnjcdaa
open Go.RowKit Go.Sort
attribute [local go_sem] rOper rAt rUpon cell_set sg_i64 sg_u64 alloc_cell alloc_frozen
attribute [local go_sem 10000] pt_eql pt_neq
attribute [local irreducible] rWalk

/-- i modulo 3, from 0 on. -/
def plc (i : Int) : Int := i % 3
theorem plc_cases (i : Int) : plc i = 0 ∨ plc i = 1 ∨ plc i = 2 := by unfold plc; omega
theorem place_eq (i : Int) : (wrap64 (i.tmod 3 + 3)).tmod 3 = plc i := by
  have h := @Int.tmod_eq_emod i 3
  have h2 : i.tmod 3 = i % 3 ∨ i.tmod 3 = i % 3 - 3 := by
    split at h
    · left; omega
    · right; simp at h; omega
  rw [show wrap64 (i.tmod 3 + 3) = i.tmod 3 + 3 by rw [w64]; omega, Int.tmod_eq_emod_of_nonneg (by omega)]
  unfold plc; omega
theorem place_any (i : Int) (w : World) :
    Calls Try.prog 23 #[.int .i64 i] w fun e w' => e = .returned (.int .i64 (plc i)) ∧ Below w.heap.size w w' := by
  rw [← place_eq]
  go_enter Try.func23, Try.ntmps23
  go_wp2
  go_ret
  exact ⟨rfl, by go_grown⟩
/-- The corner at a place. -/
def crn (T : Tri3) (i : Int) : Pt := if plc i = 0 then T.A else if plc i = 1 then T.B else T.C
theorem crn_plc (T : Tri3) (i : Int) : crn T (plc i) = crn T i := by
  have : plc (plc i) = plc i := by unfold plc; omega
  unfold crn; rw [this]
theorem crn_next (T : Tri3) (i : Int) : crn T (plc i + 1) = crn T (i + 1) := by
  have : plc (plc i + 1) = plc (i + 1) := by unfold plc; omega
  unfold crn; rw [this]
theorem corner_0 (T : Tri3) (i : Int) (h : plc i = 0) (w : World) :
    Calls Try.prog 10 #[.agg #[.int .i64 T.A.x, .int .i64 T.A.y, .int .i64 T.B.x, .int .i64 T.B.y, .int .i64 T.C.x, .int .i64 T.C.y], .int .i64 i] w fun e w' => e = .returned (.agg #[.int .i64 T.A.x, .int .i64 T.A.y]) ∧ Below w.heap.size w w' := by
  have cp := place_any i
  rw [h] at cp
  clear h
  go_enter Try.func10, Try.ntmps10
  go_wp2_with fail
  refine at_call fun W1 hW => ?_
  have Bt : Box W1 (w.heap.size) [.int .i64 T.A.x, .int .i64 T.A.y, .int .i64 T.B.x, .int .i64 T.B.y, .int .i64 T.C.x, .int .i64 T.C.y] 25 := by rw [hW]; exact (Box.new rfl).old _
  have Br : Box W1 (w.heap.size + 1) [.int .i64 0, .int .i64 0] 23 := by rw [hW]; exact Box.new (by simp)
  have hw : Below w.heap.size w W1 := by rw [hW]; go_grown
  clear hW
  refine (cp _).mono ?_
  rintro e w2 ⟨rfl, hb⟩
  replace Bt := Bt.ext hb rfl
  replace Br := Br.ext hb rfl
  replace hw := hw.trans (hb.mono hw.size)
  clear hb
  obtain ⟨xt, yt, zt, vt⟩ := Bt.facts
  obtain ⟨xr, yr, zr, vr⟩ := Br.facts
  go_wp2_with fail
  refine bodyPost_ret (v := .agg #[.int .i64 T.A.x, .int .i64 T.A.y]) (by simp [results, Try.results10, go_sem, xr]) rfl ⟨rfl, by have hl := hw.size; go_grown⟩

theorem corner_1 (T : Tri3) (i : Int) (h : plc i = 1) (w : World) :
    Calls Try.prog 10 #[.agg #[.int .i64 T.A.x, .int .i64 T.A.y, .int .i64 T.B.x, .int .i64 T.B.y, .int .i64 T.C.x, .int .i64 T.C.y], .int .i64 i] w fun e w' => e = .returned (.agg #[.int .i64 T.B.x, .int .i64 T.B.y]) ∧ Below w.heap.size w w' := by
  have cp := place_any i
  rw [h] at cp
  clear h
  go_enter Try.func10, Try.ntmps10
  go_wp2_with fail
  refine at_call fun W1 hW => ?_
  have Bt : Box W1 (w.heap.size) [.int .i64 T.A.x, .int .i64 T.A.y, .int .i64 T.B.x, .int .i64 T.B.y, .int .i64 T.C.x, .int .i64 T.C.y] 25 := by rw [hW]; exact (Box.new rfl).old _
  have Br : Box W1 (w.heap.size + 1) [.int .i64 0, .int .i64 0] 23 := by rw [hW]; exact Box.new (by simp)
  have hw : Below w.heap.size w W1 := by rw [hW]; go_grown
  clear hW
  refine (cp _).mono ?_
  rintro e w2 ⟨rfl, hb⟩
  replace Bt := Bt.ext hb rfl
  replace Br := Br.ext hb rfl
  replace hw := hw.trans (hb.mono hw.size)
  clear hb
  obtain ⟨xt, yt, zt, vt⟩ := Bt.facts
  obtain ⟨xr, yr, zr, vr⟩ := Br.facts
  go_wp2_with fail
  refine bodyPost_ret (v := .agg #[.int .i64 T.B.x, .int .i64 T.B.y]) (by simp [results, Try.results10, go_sem, xr]) rfl ⟨rfl, by have hl := hw.size; go_grown⟩

theorem corner_2 (T : Tri3) (i : Int) (h : plc i = 2) (w : World) :
    Calls Try.prog 10 #[.agg #[.int .i64 T.A.x, .int .i64 T.A.y, .int .i64 T.B.x, .int .i64 T.B.y, .int .i64 T.C.x, .int .i64 T.C.y], .int .i64 i] w fun e w' => e = .returned (.agg #[.int .i64 T.C.x, .int .i64 T.C.y]) ∧ Below w.heap.size w w' := by
  have cp := place_any i
  rw [h] at cp
  clear h
  go_enter Try.func10, Try.ntmps10
  go_wp2_with fail
  refine at_call fun W1 hW => ?_
  have Bt : Box W1 (w.heap.size) [.int .i64 T.A.x, .int .i64 T.A.y, .int .i64 T.B.x, .int .i64 T.B.y, .int .i64 T.C.x, .int .i64 T.C.y] 25 := by rw [hW]; exact (Box.new rfl).old _
  have Br : Box W1 (w.heap.size + 1) [.int .i64 0, .int .i64 0] 23 := by rw [hW]; exact Box.new (by simp)
  have hw : Below w.heap.size w W1 := by rw [hW]; go_grown
  clear hW
  refine (cp _).mono ?_
  rintro e w2 ⟨rfl, hb⟩
  replace Bt := Bt.ext hb rfl
  replace Br := Br.ext hb rfl
  replace hw := hw.trans (hb.mono hw.size)
  clear hb
  obtain ⟨xt, yt, zt, vt⟩ := Bt.facts
  obtain ⟨xr, yr, zr, vr⟩ := Br.facts
  go_wp2_with fail
  refine bodyPost_ret (v := .agg #[.int .i64 T.C.x, .int .i64 T.C.y]) (by simp [results, Try.results10, go_sem, xr]) rfl ⟨rfl, by have hl := hw.size; go_grown⟩

theorem corner_any (T : Tri3) (i : Int) (w : World) :
    Calls Try.prog 10 #[.agg #[.int .i64 T.A.x, .int .i64 T.A.y, .int .i64 T.B.x, .int .i64 T.B.y, .int .i64 T.C.x, .int .i64 T.C.y], .int .i64 i] w fun e w' => e = .returned (.agg #[.int .i64 (crn T i).x, .int .i64 (crn T i).y]) ∧ Below w.heap.size w w' := by
  rcases plc_cases i with h | h | h
  · rw [show crn T i = T.A by unfold crn; simp [h]]; exact corner_0 T i h w
  · rw [show crn T i = T.B by unfold crn; simp [h]]; exact corner_1 T i h w
  · rw [show crn T i = T.C by unfold crn; simp [h]]; exact corner_2 T i h w
theorem turned_any (T : Tri3) (w : World) :
    Calls Try.prog 16 #[.agg #[.int .i64 T.A.x, .int .i64 T.A.y, .int .i64 T.B.x, .int .i64 T.B.y, .int .i64 T.C.x, .int .i64 T.C.y]] w fun e w' => e = .returned (.agg #[.int .i64 T.B.x, .int .i64 T.B.y, .int .i64 T.C.x, .int .i64 T.C.y, .int .i64 T.A.x, .int .i64 T.A.y]) ∧ Below w.heap.size w w' := by
  go_enter Try.func16, Try.ntmps16
  go_wp2_with fail
  refine bodyPost_ret (v := .agg #[.int .i64 T.B.x, .int .i64 T.B.y, .int .i64 T.C.x, .int .i64 T.C.y, .int .i64 T.A.x, .int .i64 T.A.y]) (by simp [results, Try.results16, go_sem]) rfl ⟨rfl, by go_grown⟩

def leq (p q : Pt) : Bool := decide (cmpP p q ≤ 0)
/-- Is its first corner the least? -/
def lds (T : Tri3) : Bool := leq T.A T.B && leq T.A T.C
theorem leads_0 (T : Tri3) (h : leq T.A T.B = false) (w : World) :
    Calls Try.prog 15 #[.agg #[.int .i64 T.A.x, .int .i64 T.A.y, .int .i64 T.B.x, .int .i64 T.B.y, .int .i64 T.C.x, .int .i64 T.C.y]] w fun e w' => e = .returned (.bool false) ∧ Below w.heap.size w w' := by
  have c1 := cmp_pt T.A T.B
  unfold leq at h
  generalize cmpP T.A T.B = n at *
  go_enter Try.func15, Try.ntmps15
  go_wp2_with fail
  refine at_call fun W1 hW => ?_
  have Bt : Box W1 (w.heap.size) [.int .i64 T.A.x, .int .i64 T.A.y, .int .i64 T.B.x, .int .i64 T.B.y, .int .i64 T.C.x, .int .i64 T.C.y] 25 := by rw [hW]; exact Box.new rfl
  have hw : Below w.heap.size w W1 := by rw [hW]; go_grown
  clear hW
  refine (c1 _).mono ?_
  rintro e w2 ⟨rfl, hb⟩
  replace Bt := Bt.ext hb rfl
  replace hw := hw.trans (hb.mono hw.size)
  clear hb
  obtain ⟨xt, yt, zt, vt⟩ := Bt.facts
  go_wp2
  go_ret
  exact ⟨rfl, by have hl := hw.size; go_grown⟩

theorem leads_1 (T : Tri3) (h : leq T.A T.B = true) (w : World) :
    Calls Try.prog 15 #[.agg #[.int .i64 T.A.x, .int .i64 T.A.y, .int .i64 T.B.x, .int .i64 T.B.y, .int .i64 T.C.x, .int .i64 T.C.y]] w fun e w' => e = .returned (.bool (leq T.A T.C)) ∧ Below w.heap.size w w' := by
  have c1 := cmp_pt T.A T.B
  have c2 := cmp_pt T.A T.C
  unfold leq at h ⊢
  generalize cmpP T.A T.B = n at *
  generalize cmpP T.A T.C = m at *
  go_enter Try.func15, Try.ntmps15
  go_wp2_with fail
  refine at_call fun W1 hW => ?_
  have Bt : Box W1 (w.heap.size) [.int .i64 T.A.x, .int .i64 T.A.y, .int .i64 T.B.x, .int .i64 T.B.y, .int .i64 T.C.x, .int .i64 T.C.y] 25 := by rw [hW]; exact Box.new rfl
  have hw : Below w.heap.size w W1 := by rw [hW]; go_grown
  clear hW
  refine (c1 _).mono ?_
  rintro e w2 ⟨rfl, hb⟩
  replace Bt := Bt.ext hb rfl
  replace hw := hw.trans (hb.mono hw.size)
  clear hb
  obtain ⟨xt, yt, zt, vt⟩ := Bt.facts
  go_wp2_with fail
  refine (c2 _).mono ?_
  rintro e w3 ⟨rfl, hb⟩
  clear xt yt zt vt
  replace Bt := Bt.ext hb rfl
  replace hw := hw.trans (hb.mono hw.size)
  clear hb
  obtain ⟨xt, yt, zt, vt⟩ := Bt.facts
  go_wp2
  go_ret
  exact ⟨rfl, by have hl := hw.size; go_grown⟩

theorem leads_any (T : Tri3) (w : World) :
    Calls Try.prog 15 #[.agg #[.int .i64 T.A.x, .int .i64 T.A.y, .int .i64 T.B.x, .int .i64 T.B.y, .int .i64 T.C.x, .int .i64 T.C.y]] w fun e w' => e = .returned (.bool (lds T)) ∧ Below w.heap.size w w' := by
  unfold lds
  cases h : leq T.A T.B with
  | false => exact leads_0 T h w
  | true => exact leads_1 T h w
def valS (T : Tri3) : Bool := decide (0 < ori T.A T.B T.C) && lds T
theorem tvalid_0 (T : Tri3) (h : decide (0 < ori T.A T.B T.C) = false) (w : World) :
    Calls Try.prog 13 #[.agg #[.int .i64 T.A.x, .int .i64 T.A.y, .int .i64 T.B.x, .int .i64 T.B.y, .int .i64 T.C.x, .int .i64 T.C.y]] w fun e w' => e = .returned (.bool false) ∧ Below w.heap.size w w' := by
  have c1 := orient_any T.A T.B T.C
  generalize ori T.A T.B T.C = n at *
  go_enter Try.func13, Try.ntmps13
  go_wp2_with fail
  refine at_call fun W1 hW => ?_
  have Bt : Box W1 (w.heap.size) [.int .i64 T.A.x, .int .i64 T.A.y, .int .i64 T.B.x, .int .i64 T.B.y, .int .i64 T.C.x, .int .i64 T.C.y] 25 := by rw [hW]; exact Box.new rfl
  have hw : Below w.heap.size w W1 := by rw [hW]; go_grown
  clear hW
  refine (c1 _).mono ?_
  rintro e w2 ⟨rfl, hb⟩
  replace Bt := Bt.ext hb rfl
  replace hw := hw.trans (hb.mono hw.size)
  clear hb
  obtain ⟨xt, yt, zt, vt⟩ := Bt.facts
  go_wp2
  go_ret
  exact ⟨rfl, by have hl := hw.size; go_grown⟩

theorem tvalid_1 (T : Tri3) (h : decide (0 < ori T.A T.B T.C) = true) (w : World) :
    Calls Try.prog 13 #[.agg #[.int .i64 T.A.x, .int .i64 T.A.y, .int .i64 T.B.x, .int .i64 T.B.y, .int .i64 T.C.x, .int .i64 T.C.y]] w fun e w' => e = .returned (.bool (lds T)) ∧ Below w.heap.size w w' := by
  have c1 := orient_any T.A T.B T.C
  have c2 := leads_any T
  generalize ori T.A T.B T.C = n at *
  generalize lds T = m at *
  go_enter Try.func13, Try.ntmps13
  go_wp2_with fail
  refine at_call fun W1 hW => ?_
  have Bt : Box W1 (w.heap.size) [.int .i64 T.A.x, .int .i64 T.A.y, .int .i64 T.B.x, .int .i64 T.B.y, .int .i64 T.C.x, .int .i64 T.C.y] 25 := by rw [hW]; exact Box.new rfl
  have hw : Below w.heap.size w W1 := by rw [hW]; go_grown
  clear hW
  refine (c1 _).mono ?_
  rintro e w2 ⟨rfl, hb⟩
  replace Bt := Bt.ext hb rfl
  replace hw := hw.trans (hb.mono hw.size)
  clear hb
  obtain ⟨xt, yt, zt, vt⟩ := Bt.facts
  go_wp2_with fail
  refine (c2 _).mono ?_
  rintro e w3 ⟨rfl, hb⟩
  clear xt yt zt vt
  replace Bt := Bt.ext hb rfl
  replace hw := hw.trans (hb.mono hw.size)
  clear hb
  obtain ⟨xt, yt, zt, vt⟩ := Bt.facts
  go_wp2
  go_ret
  exact ⟨rfl, by have hl := hw.size; go_grown⟩

theorem ori_bd1 {a b c : Pt} (h : decide (0 < ori a b c) = true) : ori a b c = 1 := by
  have := ori_bd a b c
  simp at h; omega
theorem leq_key {p q : Pt} (hp : vld p = true) (hq : vld q = true) : leq p q = decide (key p ≤ key q) := by
  have h := cmp_lt hq hp
  have h2 := cmpP_key hp hq
  have h3 := sgn_cases (key p - key q)
  unfold leq
  by_cases hh : key p ≤ key q
  · rw [decide_eq_true hh, decide_eq_true]; omega
  · rw [decide_eq_false hh, decide_eq_false]; omega
theorem teq_iff {s u : Tri3} : teq s u = true ↔ s = u := by
  unfold teq
  simp only [Bool.and_eq_true, peqI_iff]
  cases s with | mk a b c => cases u with | mk d e f => cases a; cases b; cases c; cases d; cases e; cases f; simp [and_assoc]
theorem Tri3.eq_iff {s u : Tri3} : s = u ↔ s.A = u.A ∧ s.B = u.B ∧ s.C = u.C := by
  cases s; cases u; simp
/-- The two Valids are one. -/
theorem val_eq (T : Tri3) : valT T = valS T := by
  obtain ⟨a, b, c⟩ := T
  unfold valT valS lds
  simp only
  have hb := ori_bd a b c
  by_cases h0 : ori a b c = 0
  · simp [h0]
  · obtain ⟨va, vb, vc⟩ := ori_vld h0
    obtain ⟨d1, d2, d3⟩ := ori_distinct h0
    have n1 : key a ≠ key b := fun h => d1 (key_inj va vb h).symm
    have n2 : key a ≠ key c := fun h => d2 (key_inj va vc h).symm
    have n3 : key b ≠ key c := fun h => d3 (key_inj vb vc h).symm
    rw [leq_key va vb, leq_key va vc, show (!decide (ori a b c = 0)) = true by simp [h0], Bool.true_and]
    rw [Bool.eq_iff_iff, teq_iff]
    by_cases h1 : ori a b c = 1
    · rw [show mk a b c = mkT a b c by unfold mk; rw [if_neg h0, if_pos h1]]
      rcases mkT_rot va vb vc n1 n2 n3 with ⟨x1, x2, e⟩ | ⟨x1, x2, e⟩ | ⟨x1, x2, e⟩ <;> rw [e, Tri3.eq_iff] <;> simp only [Bool.and_eq_true, decide_eq_true_eq]
      · simp; omega
      · exact ⟨fun h => absurd h.1 d1, fun h => by omega⟩
      · exact ⟨fun h => absurd h.1 d2, fun h => by omega⟩
    · have h2 : ori a b c = -1 := by omega
      rw [show mk a b c = mkT a c b by unfold mk; rw [if_neg h0, if_neg h1]]
      rcases mkT_rot va vc vb n2 n1 n3.symm with ⟨x1, x2, e⟩ | ⟨x1, x2, e⟩ | ⟨x1, x2, e⟩ <;> rw [e, Tri3.eq_iff] <;> simp only [Bool.and_eq_true, decide_eq_true_eq]
      · exact ⟨fun h => absurd h.2.1 d3, fun h => by omega⟩
      · exact ⟨fun h => absurd h.1 d2, fun h => by omega⟩
      · exact ⟨fun h => absurd h.1 d1, fun h => by omega⟩
theorem tvalid_any (T : Tri3) (w : World) :
    Calls Try.prog 13 #[.agg #[.int .i64 T.A.x, .int .i64 T.A.y, .int .i64 T.B.x, .int .i64 T.B.y, .int .i64 T.C.x, .int .i64 T.C.y]] w fun e w' => e = .returned (.bool (valT T)) ∧ Below w.heap.size w w' := by
  rw [val_eq]
  unfold valS
  cases h : decide (0 < ori T.A T.B T.C) with
  | false => exact tvalid_0 T h w
  | true => exact tvalid_1 T h w
end Go.Proofs.Ytijdbddjhnjcdaa
