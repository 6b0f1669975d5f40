/- Each right is one bit: all that are written tell just these; whoever can all can each: the law RightsBits of package hectarelaw15 answers true at every input; no conditions. -/
import Derived.Test.YtipokakeaboelaaRows
import Derived.Test.YtipokakeaboelaaRtD
import Derived.Test.YtipokakeaboelaaRtE
import Derived.Test.YtipokakeaboelaaRtF
import Derived.Test.YtipokakeaboelaaPost
import Derived.WalkKit
import Derived.WalkSpells
import Derived.WalkLawsBesides
import Derived.Laws.Externs
import Derived.Deep.QuietTactic
import Derived.BigQuiet
import Derived.Lib.Hide
import Derived.Handy
import Derived.Carry
import Derived.ProofKit
import Derived.Lib.SmallJoins
import Derived.Lib.Strings
namespace Go.Proofs.Ytipokakeaboelaa
open Go.RowKit Go.Sort Go.ChangeShapes Go.WideShapes Go.ChangeAt
attribute [local go_sem] rOper rAt rUpon cell_set sg_i64 sg_u64 alloc_cell alloc_frozen
attribute [local irreducible] rWalk

set_option maxRecDepth 100000 in
set_option maxHeartbeats 2000000 in
theorem bits_law (r s : Int) (_ : rng r) (_ : rng s) (w : World) :
    Calls Try.prog 5 #[.int .i64 r, .int .i64 s] w fun e w' => e = .returned (.bool true) ∧ Below w.heap.size w w' := by
  have r1 := round_gen (i := r) (n := 16) (by omega) (by omega)
  have r2 := round_gen (i := s) (n := 16) (by omega) (by omega)
  have a0 : 0 ≤ r % 16 := Int.emod_nonneg _ (by omega)
  have a1 : r % 16 < 16 := Int.emod_lt_of_pos _ (by omega)
  have b0 : 0 ≤ s % 16 := Int.emod_nonneg _ (by omega)
  have b1 : s % 16 < 16 := Int.emod_lt_of_pos _ (by omega)
  generalize r % 16 = x at *
  generalize s % 16 = y at *
  have hx : rng x := rng_small a0 (by omega)
  have hy : rng y := rng_small b0 (by omega)
  have A := ask_of a0 a1 b0 b1
  unfold askB at A
  simp only [Bool.and_eq_true, decide_eq_true_eq] at A
  obtain ⟨⟨⟨⟨⟨⟨⟨⟨A1, A2⟩, A3⟩, A4⟩, A5⟩, A6⟩, A7⟩, A8⟩, A9⟩ := A
  have ho : rng (orr x y) := rng_small A6 (by omega)
  have t1 := text_any hx
  have t2 := text_any hy
  have c1 := can_any (m := x) ho
  have c2 := can_any (m := orr x y) hx
  rw [A2] at c1
  rw [show caR x (orr x y) = (bits .andNot .i64 y x == 0) by simpa [zR] using A3] at c2
  have k0 := can_any (m := 1) hx
  have k1 := can_any (m := 2) hx
  have k2 := can_any (m := 4) hx
  have k3 := can_any (m := 8) hx
  have kw := within_any hx hy
  rw [show wR x y = (decide (x > 0) && decide (y > 0) && (bits .andNot .i64 x y == 0)) by simpa [zR] using A5] at kw
  unfold orr at c1 c2
  have e1 : ((txt x).toList == (txt y).toList) = (x == y) := by rw [ByteArray.toList_eq, ByteArray.toList_eq]; exact eq_of_beq A1
  clear A1 A2 A3 A5 A6 A7 hx hy ho a1 b0 b1
  generalize txt x = T at *
  generalize txt y = U at *
  go_enter Try.func5, Try.ntmps5
  go_wp2_with fail
  refine (r1 _).mono ?_
  rintro e w1 ⟨rfl, hb⟩
  have hw := hb
  clear hb
  go_wp2_with fail
  refine (r2 _).mono ?_
  rintro e w2 ⟨rfl, hb⟩
  replace hw := hw.trans (hb.mono hw.size)
  clear hb
  go_wp2_with fail
  refine (t1 _).mono ?_
  rintro e w3 ⟨rfl, hb⟩
  replace hw := hw.trans (hb.mono hw.size)
  clear hb
  go_wp2_with fail
  refine (t2 _).mono ?_
  rintro e w4 ⟨rfl, hb⟩
  replace hw := hw.trans (hb.mono hw.size)
  clear hb
  go_wp2_with fail
  refine (c1 _).mono ?_
  rintro e w5 ⟨rfl, hb⟩
  replace hw := hw.trans (hb.mono hw.size)
  clear hb
  go_wp2_with fail
  refine (c2 _).mono ?_
  rintro e w6 ⟨rfl, hb⟩
  replace hw := hw.trans (hb.mono hw.size)
  clear hb
  go_wp2_with fail
  go_loopw [7, 8] (fun n i wr => ∃ k : Nat, k ≤ 4 ∧ i = .int .i64 k ∧ n = .int .i64 (cn x k) ∧ Below w.heap.size w wr) (fun _ i _ => 4 - (intOf i).toNat)
  case atStart => exact ⟨0, by omega, rfl, rfl, hw⟩
  case round =>
    obtain ⟨k, hk, rfl, rfl, hw⟩ := hrel
    rcases (by omega : k = 0 ∨ k = 1 ∨ k = 2 ∨ k = 3 ∨ k = 4) with rfl | rfl | rfl | rfl | rfl
    · have hn := cn_range x 0
      have hn0 := hn.1
      have hn1 := hn.2
      cases hb : caR x 1 with
      | false =>
        rw [hb] at k0
        have en := cn_no0 hb
        go_wp2_with fail
        refine (k0 _).mono ?_
        rintro e w9 ⟨rfl, hb9⟩
        replace hw := hw.trans (hb9.mono hw.size)
        go_wp2
        go_roundw
        case rel => exact ⟨1, by omega, rfl, by rw [en], hw⟩
        case measure => simp [intOf]
      | true =>
        rw [hb] at k0
        have en := cn_yes0 hb
        go_wp2_with fail
        refine (k0 _).mono ?_
        rintro e w9 ⟨rfl, hb9⟩
        replace hw := hw.trans (hb9.mono hw.size)
        go_wp2
        go_roundw
        case rel => exact ⟨1, by omega, rfl, by rw [en], hw⟩
        case measure => simp [intOf]
    · have hn := cn_range x 1
      have hn0 := hn.1
      have hn1 := hn.2
      cases hb : caR x 2 with
      | false =>
        rw [hb] at k1
        have en := cn_no1 hb
        go_wp2_with fail
        refine (k1 _).mono ?_
        rintro e w9 ⟨rfl, hb9⟩
        replace hw := hw.trans (hb9.mono hw.size)
        go_wp2
        go_roundw
        case rel => exact ⟨2, by omega, rfl, by rw [en], hw⟩
        case measure => simp [intOf]
      | true =>
        rw [hb] at k1
        have en := cn_yes1 hb
        go_wp2_with fail
        refine (k1 _).mono ?_
        rintro e w9 ⟨rfl, hb9⟩
        replace hw := hw.trans (hb9.mono hw.size)
        go_wp2
        go_roundw
        case rel => exact ⟨2, by omega, rfl, by rw [en], hw⟩
        case measure => simp [intOf]
    · have hn := cn_range x 2
      have hn0 := hn.1
      have hn1 := hn.2
      cases hb : caR x 4 with
      | false =>
        rw [hb] at k2
        have en := cn_no2 hb
        go_wp2_with fail
        refine (k2 _).mono ?_
        rintro e w9 ⟨rfl, hb9⟩
        replace hw := hw.trans (hb9.mono hw.size)
        go_wp2
        go_roundw
        case rel => exact ⟨3, by omega, rfl, by rw [en], hw⟩
        case measure => simp [intOf]
      | true =>
        rw [hb] at k2
        have en := cn_yes2 hb
        go_wp2_with fail
        refine (k2 _).mono ?_
        rintro e w9 ⟨rfl, hb9⟩
        replace hw := hw.trans (hb9.mono hw.size)
        go_wp2
        go_roundw
        case rel => exact ⟨3, by omega, rfl, by rw [en], hw⟩
        case measure => simp [intOf]
    · have hn := cn_range x 3
      have hn0 := hn.1
      have hn1 := hn.2
      cases hb : caR x 8 with
      | false =>
        rw [hb] at k3
        have en := cn_no3 hb
        go_wp2_with fail
        refine (k3 _).mono ?_
        rintro e w9 ⟨rfl, hb9⟩
        replace hw := hw.trans (hb9.mono hw.size)
        go_wp2
        go_roundw
        case rel => exact ⟨4, by omega, rfl, by rw [en], hw⟩
        case measure => simp [intOf]
      | true =>
        rw [hb] at k3
        have en := cn_yes3 hb
        go_wp2_with fail
        refine (k3 _).mono ?_
        rintro e w9 ⟨rfl, hb9⟩
        replace hw := hw.trans (hb9.mono hw.size)
        go_wp2
        go_roundw
        case rel => exact ⟨4, by omega, rfl, by rw [en], hw⟩
        case measure => simp [intOf]
    · cases z : (x == 0) with
      | true =>
        have g0 : decide (x > 0) = false := by simp at z ⊢; omega
        rw [g0] at kw
        simp only [Bool.false_and] at kw
        go_wp2_with fail
        refine (kw _).mono ?_
        rintro e w7 ⟨rfl, hb⟩
        replace hw := hw.trans (hb.mono hw.size)
        clear hb
        go_wp2_with fail
        refine (awake_any _).mono ?_
        rintro e w8 ⟨rfl, hb⟩
        replace hw := hw.trans (hb.mono hw.size)
        clear hb
        go_wp2
        go_ret
        exact ⟨rfl, hw⟩
      | false =>
        have g0 : decide (x > 0) = true := by simp at z ⊢; omega
        have g2 : ((T.size : Int) == cn x 4) = true := by rw [z] at A4; simpa using A4
        rw [g0] at kw
        simp only [Bool.true_and] at kw
        cases g1 : decide (y > 0) with
        | true =>
          rw [g1] at kw
          simp only [Bool.true_and] at kw
          go_wp2_with fail
          refine (t1 _).mono ?_
          rintro e w7 ⟨rfl, hb⟩
          replace hw := hw.trans (hb.mono hw.size)
          clear hb
          go_wp2_with fail
          refine (kw _).mono ?_
          rintro e w8 ⟨rfl, hb⟩
          replace hw := hw.trans (hb.mono hw.size)
          clear hb
          go_wp2_with fail
          refine (awake_any _).mono ?_
          rintro e w9 ⟨rfl, hb⟩
          replace hw := hw.trans (hb.mono hw.size)
          clear hb
          go_wp2
          go_ret
          exact ⟨rfl, hw⟩
        | false =>
          rw [g1] at kw
          simp only [Bool.false_and] at kw
          go_wp2_with fail
          refine (t1 _).mono ?_
          rintro e w7 ⟨rfl, hb⟩
          replace hw := hw.trans (hb.mono hw.size)
          clear hb
          go_wp2_with fail
          refine (kw _).mono ?_
          rintro e w8 ⟨rfl, hb⟩
          replace hw := hw.trans (hb.mono hw.size)
          clear hb
          go_wp2_with fail
          refine (awake_any _).mono ?_
          rintro e w9 ⟨rfl, hb⟩
          replace hw := hw.trans (hb.mono hw.size)
          clear hb
          go_wp2
          go_ret
          exact ⟨rfl, hw⟩
set_option maxRecDepth 100000 in
theorem rightsBits_lifted (os : Os) (started : os.Started) (H : Type) (enc : TypeId × Value → H) :
    ReturnsInHanded {} Try.checked os 5 .any (Rows.rightsBitsSpec.pre6 enc Try.prog Try.f5 Rows.rightsBitsRow.domain false) (Rows.rightsBitsSpec.post enc Try.prog Try.f5 false true false false) := by
  refine returnsInHanded_of_change (C := Try.checked) Try.own started (by kernel_rfl) Try.func5
    (ChangeSpec.witness6 (enc := enc) (C := Try.checked) false ⟨#[], #[.int .i64 0, .int .i64 0], []⟩ 8 (by kernel_rfl) (by kernel_rfl) (by kernel_rfl) (by kernel_rfl)) ?_
  intro W base args ds gs before hval0 hW hcnd _
  have hval : ∀ (j : Nat) t v, Try.f5.params[j]? = some t → args[j]? = some v → Value.okWide Try.prog W .any base t v := hval0
  have hW' := hW
  obtain ⟨p, q, hA0, hV, rfl, hfz, hnd⟩ := hW
  have hA : DataW.TrodAll enc Try.prog W 0 (fun _ => true) true Try.f5.params.toList args.toList ds p := hA0
  rw [Try.params5] at hA hval
  obtain ⟨v0, v1, d0, d1, q0, q1, rfl, rfl, rfl, p0, p1⟩ := trodAll_two hA
  obtain ⟨rfl, rfl⟩ := trodVars_none hV
  obtain ⟨r, rfl, rfl, rfl, wr⟩ := open_int Try.underlying3 (hval 0 3 v0 rfl rfl) p0
  obtain ⟨s, rfl, rfl, rfl, ws⟩ := open_int Try.underlying3 (hval 1 3 v1 rfl rfl) p1
  clear hA0 hval0
  simp only [List.append_nil] at hW'
  refine (bits_law r s (int_wf wr) (int_wf ws) W).mono fun e W' ⟨he, hb⟩ => ?_
  subst he
  exact ⟨_, rfl, post_of_below (pa := []) (pv := []) hW' (fun _ _ _ => trodAll_mk1 (shut_bool Try.underlying4 true)) (fun sp _ => trodAll_mk2 (shut_int Try.underlying3 wr) (shut_int Try.underlying3 ws)) (fun _ _ => rfl) rfl hb (ok_one (by kernel_rfl) rfl (okWide_bool_mk Try.underlying4 true))⟩
/-- The law RightsBits holds of every input. -/
theorem rightsBits_holds : Rows.RightsBitsSaid :=
  OpenClaim.holds_of_wide 5 Try.f5 rfl rfl rfl rfl rfl rfl rfl ⟨rfl, rfl, rfl, rfl, rfl⟩ rfl rfl rfl rfl rfl (by kernel_rfl) Try.func5 (by kernel_rfl)
    (of_decide_eq_true (by kernel_rfl)) (by unfold Func.isWrapper; rw [if_neg (of_decide_eq_false (by kernel_rfl))]; exact ⟨rfl, rfl⟩)
    (fun os started H enc _ => rightsBits_lifted os started H enc)
end Go.Proofs.Ytipokakeaboelaa
