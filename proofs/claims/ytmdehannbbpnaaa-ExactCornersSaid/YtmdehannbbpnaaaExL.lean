/- The document's own circle, whole. -/
import Derived.Test.YtmdehannbbpnaaaRows
import Derived.Test.YtmdehannbbpnaaaExK
import Derived.Test.YtmdehannbbpnaaaPost
import Derived.Test.YtmdehannbbpnaaaExN
import Derived.WalkKit
import Derived.WalkSpells
import Derived.WalkLawsBesides
import Derived.Laws.Externs
import Derived.Deep.QuietTactic
import Derived.BigQuiet
import Derived.Lib.Hide
import Derived.Handy
namespace Go.Proofs.Ytmdehannbbpnaaa
open Go.RowKit Go.Sort
attribute [local go_sem] rOper rAt rUpon cell_set sg_i64 sg_u64 alloc_cell alloc_frozen
attribute [local go_sem 10000] pt_eql pt_neq
attribute [local irreducible] rWalk

theorem rcircle_pos (a b c d : Pt) (h : ori a b c = 1) (w : World) :
    Calls Try.prog 17 #[.agg #[.int .i64 a.x, .int .i64 a.y], .agg #[.int .i64 b.x, .int .i64 b.y], .agg #[.int .i64 c.x, .int .i64 c.y], .agg #[.int .i64 d.x, .int .i64 d.y]] w fun e w' => e = .returned (.int .i64 (circ a b c d)) ∧ Below w.heap.size w w' := by
  have h0 : ¬ ori a b c = 0 := by omega
  cases hv : vld d with
  | false => rw [circ_none (.inr (.inl hv))]; exact rcircle_1 a b c d h0 hv w
  | true => cases e1 : peqI d.x d.y a.x a.y with
    | true => rw [circ_none (.inr (.inr (.inl (peqI_eq.1 e1))))]; exact rcircle_2 a b c d h0 hv e1 w
    | false => cases e2 : peqI d.x d.y b.x b.y with
      | true => rw [circ_none (.inr (.inr (.inr (.inl (peqI_eq.1 e2)))))]; exact rcircle_3 a b c d h0 hv e1 e2 w
      | false => cases e3 : peqI d.x d.y c.x c.y with
        | true => rw [circ_none (.inr (.inr (.inr (.inr (peqI_eq.1 e3)))))]; exact rcircle_4 a b c d h0 hv e1 e2 e3 w
        | false =>
          rw [circ_main h0 hv (peqI_ne.1 e1) (peqI_ne.1 e2) (peqI_ne.1 e3)]
          by_cases hl : sgn (lft a b c d) = 0
          · rw [if_neg (fun k => k hl), h]
            obtain ⟨va, vb, vc⟩ := ori_vld h0
            rw [← min4_r va vb vc hv]
            exact rcircle_6 a b c d h hv e1 e2 e3 hl w
          · rw [if_pos hl]; exact rcircle_5 a b c d h hv e1 e2 e3 hl w
set_option maxRecDepth 100000 in
theorem rcircle_neg (a b c d : Pt) (h : ori a b c = -1) (hv : vld d = true) (e1 : peqI d.x d.y a.x a.y = false) (e2 : peqI d.x d.y b.x b.y = false) (e3 : peqI d.x d.y c.x c.y = false) (w : World) :
    Calls Try.prog 17 #[.agg #[.int .i64 a.x, .int .i64 a.y], .agg #[.int .i64 b.x, .int .i64 b.y], .agg #[.int .i64 c.x, .int .i64 c.y], .agg #[.int .i64 d.x, .int .i64 d.y]] w fun e w' => e = .returned (.int .i64 (-circ a c b d)) ∧ Below w.heap.size w w' := by
  have co := rorient_any a b c
  have cv := rvalid_any d
  rw [hv] at cv
  have hn : ori a c b = 1 := by rw [ori_swap2, h]; rfl
  have cc := rcircle_pos a c b d hn
  rw [h] at co
  have bc : -1 ≤ circ a c b d ∧ circ a c b d ≤ 1 := by
    have := circ_sign (a := a) (b := c) (c := b) (d := d) (by omega) hv (peqI_ne.1 e1) (peqI_ne.1 e3) (peqI_ne.1 e2); omega
  generalize circ a c b d = K at *
  clear hv h hn
  go_enter Try.func17, Try.ntmps17
  go_wp2_with fail
  refine at_call fun W1 hW => ?_
  have Ba : Box W1 (w.heap.size) [.int .i64 a.x, .int .i64 a.y] 23 := by rw [hW]; exact (((Box.new rfl).old _).old _).old _
  have Bb : Box W1 (w.heap.size + 1) [.int .i64 b.x, .int .i64 b.y] 23 := by rw [hW]; exact ((Box.new (by simp)).old _).old _
  have Bc : Box W1 (w.heap.size + 1 + 1) [.int .i64 c.x, .int .i64 c.y] 23 := by rw [hW]; exact (Box.new (by simp)).old _
  have Bd : Box W1 (w.heap.size + 1 + 1 + 1) [.int .i64 d.x, .int .i64 d.y] 23 := by rw [hW]; exact Box.new (by simp)
  have hw : Below w.heap.size w W1 := by rw [hW]; go_grown
  clear hW
  refine (co _).mono ?_
  rintro e w2 ⟨rfl, hb⟩
  replace Ba := Ba.ext hb rfl
  replace Bb := Bb.ext hb rfl
  replace Bc := Bc.ext hb rfl
  replace Bd := Bd.ext hb rfl
  replace hw := hw.trans (hb.mono hw.size)
  clear hb
  obtain ⟨xa, ya, za, va⟩ := Ba.facts
  obtain ⟨xb, yb, zb, vb⟩ := Bb.facts
  obtain ⟨xc, yc, zc, vc⟩ := Bc.facts
  obtain ⟨xd, yd, zd, vd⟩ := Bd.facts
  go_wp2_with fail
  refine (cv _).mono ?_
  rintro e w3 ⟨rfl, hb⟩
  clear xa ya za va xb yb zb vb xc yc zc vc xd yd zd vd
  replace Ba := Ba.ext hb rfl
  replace Bb := Bb.ext hb rfl
  replace Bc := Bc.ext hb rfl
  replace Bd := Bd.ext hb rfl
  replace hw := hw.trans (hb.mono hw.size)
  clear hb
  obtain ⟨xa, ya, za, va⟩ := Ba.facts
  obtain ⟨xb, yb, zb, vb⟩ := Bb.facts
  obtain ⟨xc, yc, zc, vc⟩ := Bc.facts
  obtain ⟨xd, yd, zd, vd⟩ := Bd.facts
  go_wp2_with fail
  refine (cc _).mono ?_
  rintro e w4 ⟨rfl, hb⟩
  clear xa ya za va xb yb zb vb xc yc zc vc xd yd zd vd
  replace Ba := Ba.ext hb rfl
  replace Bb := Bb.ext hb rfl
  replace Bc := Bc.ext hb rfl
  replace Bd := Bd.ext hb rfl
  replace hw := hw.trans (hb.mono hw.size)
  clear hb
  go_wp2
  go_ret
  exact ⟨rfl, hw⟩

theorem rcircle_any (a b c d : Pt) (w : World) :
    Calls Try.prog 17 #[.agg #[.int .i64 a.x, .int .i64 a.y], .agg #[.int .i64 b.x, .int .i64 b.y], .agg #[.int .i64 c.x, .int .i64 c.y], .agg #[.int .i64 d.x, .int .i64 d.y]] w fun e w' => e = .returned (.int .i64 (circ a b c d)) ∧ Below w.heap.size w w' := by
  have hb := ori_bd a b c
  have h3 : ori a b c = 0 ∨ ori a b c = 1 ∨ ori a b c = -1 := by omega
  rcases h3 with h | h | h
  · rw [circ_none (.inl h)]; exact rcircle_0 a b c d h w
  · exact rcircle_pos a b c d h w
  · have h0 : ¬ ori a b c = 0 := by omega
    cases hv : vld d with
    | false => rw [circ_none (.inr (.inl hv))]; exact rcircle_1 a b c d h0 hv w
    | true => cases e1 : peqI d.x d.y a.x a.y with
      | true => rw [circ_none (.inr (.inr (.inl (peqI_eq.1 e1))))]; exact rcircle_2 a b c d h0 hv e1 w
      | false => cases e2 : peqI d.x d.y b.x b.y with
        | true => rw [circ_none (.inr (.inr (.inr (.inl (peqI_eq.1 e2)))))]; exact rcircle_3 a b c d h0 hv e1 e2 w
        | false => cases e3 : peqI d.x d.y c.x c.y with
          | true => rw [circ_none (.inr (.inr (.inr (.inr (peqI_eq.1 e3)))))]; exact rcircle_4 a b c d h0 hv e1 e2 e3 w
          | false =>
            rw [show circ a b c d = -circ a c b d by rw [← circ_cyc a c b d, circ_swap b c a d, circ_cyc a b c d]; omega]
            exact rcircle_neg a b c d h hv e1 e2 e3 w
end Go.Proofs.Ytmdehannbbpnaaa
