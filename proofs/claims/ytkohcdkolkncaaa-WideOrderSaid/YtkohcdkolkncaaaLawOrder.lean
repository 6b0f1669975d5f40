/- Numbers have one order, that of their difference where there is one, and the opposites' is the other way round: the law WideOrder of package hectarelaw1 answers true at every input; no conditions. -/
import Derived.Test.YtkohcdkolkncaaaRows
import Derived.Test.YtkohcdkolkncaaaWideK
import Derived.Test.YtkohcdkolkncaaaPost
import Derived.Test.YtkohcdkolkncaaaLate
import Derived.Test.YtkohcdkolkncaaaLawOrder1
import Derived.Test.YtkohcdkolkncaaaLawOrder2
import Derived.Test.YtkohcdkolkncaaaLawOrder3
import Derived.WalkKit
import Derived.WalkSpells
import Derived.WalkLawsBesides
import Derived.Deep.QuietTactic
import Derived.BigQuiet
import Derived.Lib.Hide
import Derived.Handy
import Derived.ProofKit
import Derived.Lib.SmallJoins
namespace Go.Proofs.Ytkohcdkolkncaaa
open Go.RowKit Go.Sort Go.ChangeShapes Go.WideShapes Go.ChangeAt
attribute [local go_sem] rOper rAt rUpon cell_set sg_i64 sg_u64 alloc_cell alloc_frozen
attribute [local irreducible] rWalk

theorem order_law (h1 l1 h2 l2 h3 l3 : Int) (k : Ok h1 l1) (q : Ok h2 l2) (r : Ok h3 l3) (w : World) :
    Calls Try.prog 7 #[.agg #[.int .i64 h1, .int .u64 l1], .agg #[.int .i64 h2, .int .u64 l2], .agg #[.int .i64 h3, .int .u64 l3]] w fun e w' => e = .returned (.bool true) ∧ Below w.heap.size w w' := by
  rcases Int.lt_trichotomy (V h1 l1) (V h2 l2) with hc | hc | hc
  ·
    by_cases hh : h1 = h2
    · subst hh
      have hn : ¬ l1 = l2 := by intro e; subst e; omega
      cases hf : fits (V h1 l1 - V h1 l2) with
      | true =>
        rcases Int.lt_or_le (V h3 l3) (V h1 l2) with ht | ht
        · exact ord_lt_11gt h1 l1 l2 h3 l3 k q r hc hn hf ht w
        · exact ord_lt_11le h1 l1 l2 h3 l3 k q r hc hn hf ht w
      | false =>
        rcases Int.lt_or_le (V h3 l3) (V h1 l2) with ht | ht
        · exact ord_lt_10gt h1 l1 l2 h3 l3 k q r hc hn hf ht w
        · exact ord_lt_10le h1 l1 l2 h3 l3 k q r hc hn hf ht w
    · cases hf : fits (V h1 l1 - V h2 l2) with
      | true =>
        rcases Int.lt_or_le (V h3 l3) (V h2 l2) with ht | ht
        · exact ord_lt_01gt h1 l1 h2 l2 h3 l3 k q r hc hh hf ht w
        · exact ord_lt_01le h1 l1 h2 l2 h3 l3 k q r hc hh hf ht w
      | false =>
        rcases Int.lt_or_le (V h3 l3) (V h2 l2) with ht | ht
        · exact ord_lt_00gt h1 l1 h2 l2 h3 l3 k q r hc hh hf ht w
        · exact ord_lt_00le h1 l1 h2 l2 h3 l3 k q r hc hh hf ht w
  · obtain ⟨e1, e2⟩ := V_inj k q hc
    subst e1 e2
    rcases Int.lt_or_le (V h3 l3) (V h1 l1) with ht | ht
    · exact ord_eq_gt h1 l1 h3 l3 k r ht w
    · exact ord_eq_le h1 l1 h3 l3 k r ht w
  ·
    by_cases hh : h1 = h2
    · subst hh
      have hn : ¬ l1 = l2 := by intro e; subst e; omega
      cases hf : fits (V h1 l1 - V h1 l2) with
      | true => exact ord_gt_11 h1 l1 l2 h3 l3 k q r hc hn hf w
      | false => exact ord_gt_10 h1 l1 l2 h3 l3 k q r hc hn hf w
    · cases hf : fits (V h1 l1 - V h2 l2) with
      | true => exact ord_gt_01 h1 l1 h2 l2 h3 l3 k q r hc hh hf w
      | false => exact ord_gt_00 h1 l1 h2 l2 h3 l3 k q r hc hh hf w
set_option maxRecDepth 100000 in
theorem wideOrder_lifted (os : Os) (started : os.Started) (H : Type) (enc : TypeId × Value → H) :
    ReturnsInHanded {} Try.checked os 7 .any (Rows.wideOrderSpec.pre6 enc Try.prog Try.f7 Rows.wideOrderRow.domain false) (Rows.wideOrderSpec.post enc Try.prog Try.f7 false true false false) := by
  refine returnsInHanded_of_change (C := Try.checked) Try.own started (by kernel_rfl) Try.func7
    (ChangeSpec.witness6 (enc := enc) (C := Try.checked) false ⟨#[], #[.agg #[.int .i64 0, .int .u64 0], .agg #[.int .i64 0, .int .u64 0], .agg #[.int .i64 0, .int .u64 0]], []⟩ 8 (by kernel_rfl) (by kernel_rfl) (by kernel_rfl) (by kernel_rfl)) ?_
  intro W base args ds gs before hval0 hW hcnd _
  have hval : ∀ (j : Nat) t v, Try.f7.params[j]? = some t → args[j]? = some v → Value.okWide Try.prog W .any base t v := hval0
  have hW' := hW
  obtain ⟨p, q, hA0, hV, rfl, hfz, hnd⟩ := hW
  have hA : DataW.TrodAll enc Try.prog W 0 (fun _ => true) true Try.f7.params.toList args.toList ds p := hA0
  rw [Try.params7] at hA hval
  obtain ⟨v0, v1, v2, d0, d1, d2, q0, q1, q2, rfl, rfl, rfl, p0, p1, p2⟩ := trodAll_three hA
  obtain ⟨rfl, rfl⟩ := trodVars_none hV
  obtain ⟨c0, e0, y0, z0, m0, rfl, rfl, rfl, hy0, hz0⟩ := Joins.open_agg2 Try.underlying24 (by kernel_rfl) (by kernel_rfl) (hval 0 24 v0 rfl rfl) p0
  obtain ⟨h1, f0, rfl, wh1⟩ := DataW.trod_int Try.underlying2 hy0
  obtain ⟨l1, g0, rfl, wl1⟩ := DataW.trod_int Try.underlying22 hz0
  simp at f0 g0
  subst f0 g0
  have k0 : Ok h1 l1 := ok_wf wh1 wl1
  obtain ⟨c1, e1, y1, z1, m1, rfl, rfl, rfl, hy1, hz1⟩ := Joins.open_agg2 Try.underlying24 (by kernel_rfl) (by kernel_rfl) (hval 1 24 v1 rfl rfl) p1
  obtain ⟨h2, f1, rfl, wh2⟩ := DataW.trod_int Try.underlying2 hy1
  obtain ⟨l2, g1, rfl, wl2⟩ := DataW.trod_int Try.underlying22 hz1
  simp at f1 g1
  subst f1 g1
  have k1 : Ok h2 l2 := ok_wf wh2 wl2
  obtain ⟨c2, e2, y2, z2, m2, rfl, rfl, rfl, hy2, hz2⟩ := Joins.open_agg2 Try.underlying24 (by kernel_rfl) (by kernel_rfl) (hval 2 24 v2 rfl rfl) p2
  obtain ⟨h3, f2, rfl, wh3⟩ := DataW.trod_int Try.underlying2 hy2
  obtain ⟨l3, g2, rfl, wl3⟩ := DataW.trod_int Try.underlying22 hz2
  simp at f2 g2
  subst f2 g2
  have k2 : Ok h3 l3 := ok_wf wh3 wl3
  clear hA0 hval0
  simp only [List.append_nil] at hW'
  refine (order_law h1 l1 h2 l2 h3 l3 k0 k1 k2 W).mono fun e W' ⟨he, hb⟩ => ?_
  subst he
  exact ⟨_, rfl, post_of_below (pa := []) (pv := []) hW' (fun _ _ _ => trodAll_mk1 (shut_bool Try.underlying4 true)) (fun sp _ => trodAll_mk3 (Joins.shut_agg2 (y0 := (.lit (.int .i64 h1), [])) (y1 := (.lit (.int .u64 l1), [])) Try.underlying24 (by kernel_rfl) (by kernel_rfl) ⟨1, by simp [DataW.trod, Try.underlying2, wh1]⟩ ⟨1, by simp [DataW.trod, Try.underlying22, wl1]⟩) (Joins.shut_agg2 (y0 := (.lit (.int .i64 h2), [])) (y1 := (.lit (.int .u64 l2), [])) Try.underlying24 (by kernel_rfl) (by kernel_rfl) ⟨1, by simp [DataW.trod, Try.underlying2, wh2]⟩ ⟨1, by simp [DataW.trod, Try.underlying22, wl2]⟩) (Joins.shut_agg2 (y0 := (.lit (.int .i64 h3), [])) (y1 := (.lit (.int .u64 l3), [])) Try.underlying24 (by kernel_rfl) (by kernel_rfl) ⟨1, by simp [DataW.trod, Try.underlying2, wh3]⟩ ⟨1, by simp [DataW.trod, Try.underlying22, wl3]⟩)) (fun _ _ => rfl) rfl hb (ok_one (by kernel_rfl) rfl (okWide_bool_mk Try.underlying4 true))⟩
/-- The law WideOrder holds of every input. -/
theorem wideOrder_holds : Rows.WideOrderSaid :=
  OpenClaim.holds_of_wide 7 Try.f7 rfl rfl rfl rfl rfl rfl rfl ⟨rfl, rfl, rfl, rfl, rfl⟩ rfl rfl rfl rfl rfl (by kernel_rfl) Try.func7 (by kernel_rfl)
    (of_decide_eq_true (by kernel_rfl)) (by unfold Func.isWrapper; rw [if_neg (of_decide_eq_false (by kernel_rfl))]; exact ⟨rfl, rfl⟩)
    (fun os started H enc _ => wideOrder_lifted os started H enc)
end Go.Proofs.Ytkohcdkolkncaaa
