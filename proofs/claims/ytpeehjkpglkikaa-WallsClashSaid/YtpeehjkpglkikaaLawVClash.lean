/- No two walls that are there have more in common than ends, in whatever order they came; what clashes with one is not there: the law WallsClash of package hectarelaw7 answers true at every input; no conditions. -/
import Derived.Test.YtpeehjkpglkikaaRows
import Derived.Test.YtpeehjkpglkikaaPut30
import Derived.Test.YtpeehjkpglkikaaPut29
import Derived.Test.YtpeehjkpglkikaaPut2
import Derived.WalkKit
import Derived.WalkSpells
import Derived.WalkLawsBesides
import Derived.Deep.QuietTactic
import Derived.BigQuiet
import Derived.Lib.Hide
import Derived.Handy
import Derived.Carry
import Derived.ProofKit
import Derived.WideKeyArgs
import Derived.Lib.SmallJoins
namespace Go.Proofs.Ytpeehjkpglkikaa
open Go.RowKit Go.Sort Go.ChangeShapes Go.WideShapes Go.ChangeAt
attribute [local go_sem] rOper rAt rUpon cell_set sg_i64 sg_u64 alloc_cell alloc_frozen
attribute [local go_sem 10000] pt_eql pt_neq wal_eql wal_neq
attribute [local irreducible] rWalk

set_option maxRecDepth 100000 in
set_option maxHeartbeats 1000000 in
theorem wc_big (a : Option Addr) (c n : Nat) (h : 30 < n) (w : World) : Calls Try.prog 4 #[.slice a n c] w fun e w' => e = .returned (.bool true) ∧ Below w.heap.size w w' := by
  have hd : decide ((30 : Int) < (n : Int)) = true := by simp; omega
  go_enter Try.func4, Try.ntmps4
  go_wp2_with fail
  refine (awake_any w).mono ?_
  rintro e w1 ⟨rfl, hb⟩
  go_wp2
  go_ret
  exact ⟨rfl, hb⟩
set_option maxRecDepth 100000 in
set_option maxHeartbeats 4000000 in
theorem wc_main (a : Option Addr) (c n : Nat) (L : List Wl) (hn : L.length = n) (h30 : n ≤ 30) (w : World) (Hr : RowAt cW 5 w a L) : Calls Try.prog 4 #[.slice a n c] w fun e w' => e = .returned (.bool true) ∧ Below w.heap.size w w' := by
  have hd : decide ((30 : Int) < (n : Int)) = false := by simp; omega
  have H1 := Lib.hid hn
  clear hn
  go_enter Try.func4, Try.ntmps4
  go_wp2_with fail
  refine (new_none w).mono ?_
  rintro e w1 ⟨sb, v, rfl, S, hsb, hv, hw⟩
  go_wp2_with fail
  go_loopw [5, 6, 7, 8] (fun vn vi _ _ wr => ∃ (i : Nat) (Ls : List Wl) (vs : Value), vi = .int .i64 i ∧ vn = .int .i64 (Ls.length : Int) ∧ i ≤ n ∧ Ls.length ≤ i ∧ SetAt wr sb vs Ls ∧ Apart Ls ∧ (∀ g, vs.ownBlock = some g → w.heap.size ≤ g) ∧ Below w.heap.size w wr) (fun _ vi _ _ _ => n - (intOf vi).toNat)
  case atStart => exact ⟨0, [], v, rfl, rfl, Nat.zero_le _, Nat.le_refl _, S, List.Pairwise.nil, hv, hw⟩
  case round =>
    clear S hv hw v
    obtain ⟨i, Ls, vs, rfl, rfl, hi, hli, S, hap, hv, hw⟩ := hrel
    by_cases hlt : i < n
    · have hiL : i < L.length := by rw [H1.out]; exact hlt
      obtain ⟨ad, A, ea, eA, Hr2⟩ := Hr.five (j := i) hiL
      have hA := Hr2.ext hw rfl
      generalize L[i] = X at *
      subst ea
      obtain ⟨a1, c1, hv1, R1⟩ := S.rd
      have cc1 : ∀ d os, Calls Try.prog 18 #[.pointer (some ⟨sb, 0, none⟩), .agg #[.int .i64 X.A.x, .int .i64 X.A.y], .agg #[.int .i64 X.B.x, .int .i64 X.B.y]] (grow (redrawn wr d) os) fun e w' => e = .returned (.int .i64 (clashW Ls X.A X.B)) ∧ Below (grow (redrawn wr d) os).heap.size (grow (redrawn wr d) os) w' := fun d os => clash_any sb a1 c1 (Ls).length (Ls) X.A X.B _ (R1.ext (below_regrown wr d os) rfl)
      generalize hz : clashW Ls X.A X.B = z at *
      have hA0 := hA
      obtain ⟨s0, s1, s2, s3, s4⟩ := hA.cells
      have q0 : (i : Int) < (n : Int) := by omega
      clear R1 hv1 hA
      go_wp2_with fail
      refine (wp_region_tail 12 (by kernel_rfl) (by kernel_rfl) (C := fun w' => ∃ p : Regrown, w' = grow (redrawn wr p.d) p.os) (fun w' h => regrown_of_below h) ?_)
      simp only [List.take_succ_cons, List.take_zero, List.drop_succ_cons, List.drop_zero]
      repeat (first | (refine rWalk_skip (Eq.refl false) ?_; simp only [Act.put, List.setIfInBounds_toArray, List.set_cons_succ, List.set_cons_zero]) | (refine rWalk_step (fun K hK => ?_); go_simp; first | (refine hK _ ?_; clear hK K) | (apply Exists.intro; refine ⟨fun _ => ?_, hK _ ?_⟩; (first | with_reducible exact toExt2 cc1 _ _); clear hK K)))
      refine rWalk_nil ?_
      intro w2 hb
      have hA := hA0.ext hb rfl
      have S2 := S.ext hb rfl
      have hw2 := hw.trans (hb.mono hw.size)
      clear hb cc1 s0 s1 s2 s3 s4 S hw hA0
      obtain ⟨t0, t1, t2, t3, t4, t5⟩ := hA.facts
      go_wp2_with fail
      refine (add_any sb vs Ls X (by omega) w2 S2).mono ?_
      rintro e w3 ⟨v3, rfl, S3, hfr, hfs⟩
      have hw3 := hw2.trans (hfr.below (foot_lo hsb hv) hw2.size)
      have hv3 := fresh_lo hfs hv (Nat.le_succ_of_le hw2.size)
      clear hfr hfs t0 t1 t2 t3 t4 t5 hA
      by_cases he : addE Ls X = 0
      · skip
        obtain ⟨hu, hz0⟩ := add_zero he
        have hlen := addL_len he
        have hav := add_have S2.good hap he
        have hap3 := apart_add (X := X) S2.good hap
        rw [he]
        rw [hz] at hz0
        subst hz0
        generalize addL Ls X = L3 at *
        obtain ⟨a3, c3, hv3', R3⟩ := S3.rd
        have cc2 : ∀ d os, Calls Try.prog 18 #[.pointer (some ⟨sb, 0, none⟩), .agg #[.int .i64 X.A.x, .int .i64 X.A.y], .agg #[.int .i64 X.B.x, .int .i64 X.B.y]] (grow (redrawn w3 d) os) fun e w' => e = .returned (.int .i64 (clashW L3 X.A X.B)) ∧ Below (grow (redrawn w3 d) os).heap.size (grow (redrawn w3 d) os) w' := fun d os => clash_any sb a3 c3 (L3).length (L3) X.A X.B _ (R3.ext (below_regrown w3 d os) rfl)
        rw [hav] at cc2
        have hA2 := Hr2.ext hw3 rfl
        obtain ⟨s0, s1, s2, s3, s4⟩ := hA2.cells
        clear R3 hv3'
        go_wp2_with fail
        refine (wp_region_tail 16 (by kernel_rfl) (by kernel_rfl) (C := fun w' => ∃ p : Regrown, w' = grow (redrawn w3 p.d) p.os) (fun w' h => regrown_of_below h) ?_)
        simp only [List.take_succ_cons, List.take_zero, List.drop_succ_cons, List.drop_zero]
        repeat (first | (refine rWalk_skip (Eq.refl false) ?_; simp only [Act.put, List.setIfInBounds_toArray, List.set_cons_succ, List.set_cons_zero]) | (refine rWalk_step (fun K hK => ?_); go_simp; first | (refine hK _ ?_; clear hK K) | (apply Exists.intro; refine ⟨fun _ => ?_, hK _ ?_⟩; (first | with_reducible exact toExt2 cc2 _ _); clear hK K)))
        refine rWalk_nil ?_
        intro w4 hb
        have S4 := S3.ext hb rfl
        have hw4 := hw3.trans (hb.mono hw3.size)
        clear hb cc2 s0 s1 s2 s3 s4 hw3 hA2
        go_wp2
        go_roundw
        case rel => exact ⟨i + 1, L3, v3, by go_num, by rw [hlen]; go_num, by omega, by omega, S4, hap3, hv3, hw4⟩
        case measure => simp [intOf]; omega
      · have hno := addL_no he
        rw [hno] at S3
        have hne : (addE Ls X == 0) = false := by simpa using he
        generalize addE Ls X = zz at *
        clear hz hno he
        go_wp2
        go_roundw
        case rel => exact ⟨i + 1, Ls, v3, by go_num, rfl, by omega, by omega, S3, hap, hv3, hw3⟩
        case measure => simp [intOf]; omega
    · obtain rfl : i = n := by omega
      have HS := Lib.hid S
      have HW := Lib.hid hw
      obtain ⟨a1, c1, hv1, R1⟩ := S.rd
      have ca := all_any sb a1 c1 Ls.length Ls wr R1
      clear R1 hv1
      have q0 : ¬ (i : Int) < (i : Int) := by omega
      go_wp2_with fail
      refine ca.mono ?_
      rintro e w2 ⟨v9, rfl, hr9, hb⟩
      have S2 := HS.out.ext hb rfl
      have hw2 := HW.out.trans (hb.mono HW.out.size)
      obtain ⟨a9, c9, hv9, hrow9, hf9⟩ := hr9.row
      have hz9 : a9 = none → Ls = [] := fun e => by
        rcases hr9.box with ⟨_, h⟩ | ⟨g, _, _, h, _⟩
        · exact h
        · rw [hv9, e] at h; simp at h
      clear hb HS HW ca S hw hr9
      subst hv9
      obtain ⟨m, hm⟩ : ∃ m, Ls.length = m := ⟨_, rfl⟩
      have hgood := S2.good
      have hris := S2.ris
      have HM := Lib.hid hm
      rw [hm] at hli ⊢
      have hm30 : m ≤ 30 := by omega
      clear hm
      have HS := Lib.hid S2
      have HW := Lib.hid hw2
      have HR := Lib.hid hrow9
      clear S2 hw2
      go_wp2_with fail
      go_loopw [10, 11] (fun vi _ wr => ∃ i : Nat, vi = .int .i64 i ∧ i ≤ m ∧ Below w2.heap.size w2 wr) (fun vi _ _ => m - (intOf vi).toNat)
      case atStart => exact ⟨0, rfl, Nat.zero_le _, Below.refl _ _⟩
      case round =>
        obtain ⟨j, rfl, hj, hb2⟩ := hrel
        by_cases hjm : j < m
        · have hjL : j < Ls.length := by rw [HM.out]; exact hjm
          have q1 : (j : Int) < (m : Int) := by omega
          go_wp2_with fail
          go_loopw [11] (fun vk ws => ∃ k : Nat, vk = .int .i64 k ∧ k ≤ j ∧ Below w2.heap.size w2 ws) (fun vk _ => j - (intOf vk).toNat)
          case atStart => exact ⟨0, rfl, Nat.zero_le _, hb2⟩
          case round =>
            obtain ⟨k, rfl, hk, hb3⟩ := hrel
            by_cases hkj : k < j
            · have hkL : k < Ls.length := by rw [HM.out]; omega
              have hmt := apart_iff hap hjL hkL (by omega)
              have hlt := rising_lt hris hkL hjL hkj
              obtain ⟨ad1, A1, ea1, eA1, hA1⟩ := (HR.out.ext hb3 rfl).five (j := j) hjL
              obtain ⟨ad2, A2, ea2, eA2, hA2⟩ := (HR.out.ext hb3 rfl).five (j := k) hkL
              have gX := (hgood _ (List.getElem_mem hjL)).k
              have gY := (hgood _ (List.getElem_mem hkL)).k
              generalize Ls[j] = X at *
              generalize Ls[k] = Y at *
              have cm := rmeet_any X.A X.B Y.A Y.B
              rw [← meet_eq, hmt] at cm
              have cw := rcmpW_any Y X (by omega) (by omega)
              have hd1 : decide (0 ≤ cmpW Y X) = false := by simp; omega
              generalize cmpW Y X = z at *
              clear hmt hlt gX gY
              subst ea1
              simp only [Option.some.injEq] at ea2
              subst ea2
              obtain ⟨s0, s1, s2, s3, s4⟩ := hA1.cells
              obtain ⟨r0, r1, r2, r3, r4⟩ := hA2.cells
              have q2 : (k : Int) < (j : Int) := by omega
              have q3 : (k : Int) < (m : Int) := by omega
              have q4 : k < m := by omega
              clear hA1 hA2
              go_wp2_with fail
              refine (wp_region_tail 33 (by kernel_rfl) (by kernel_rfl) (C := fun w' => ∃ p : Regrown, w' = grow (redrawn wr p.d) p.os) (fun w' h => regrown_of_below h) ?_)
              simp only [List.take_succ_cons, List.take_zero, List.drop_succ_cons, List.drop_zero]
              repeat (first | (refine rWalk_skip (Eq.refl false) ?_; simp only [Act.put, List.setIfInBounds_toArray, List.set_cons_succ, List.set_cons_zero]) | (refine rWalk_step (fun K hK => ?_); go_simp; first | (refine hK _ ?_; clear hK K) | (apply Exists.intro; refine ⟨fun _ => ?_, hK _ ?_⟩; (first | with_reducible exact toExt cm _ | with_reducible exact toExt cw _); clear hK K)))
              refine rWalk_nil ?_
              intro w6 hb6
              have hb36 := hb3.trans (hb6.mono hb3.size)
              clear s0 s1 s2 s3 s4 r0 r1 r2 r3 r4 cm cw hb6 hb3
              go_wp2
              go_roundw
              case rel => exact ⟨k + 1, by go_num, by omega, hb36⟩
              case measure => simp [intOf]; omega
            · obtain rfl : k = j := by omega
              obtain ⟨ad1, A1, ea1, eA1, hA1⟩ := (HR.out.ext hb3 rfl).five (j := k) hjL
              have gX := hgood _ (List.getElem_mem hjL)
              have hko := kind_own hap hgood (List.getElem_mem hjL)
              have S3 := HS.out.ext hb3 rfl
              obtain ⟨a3, c3, hv3, R3⟩ := S3.rd
              obtain ⟨hlA, hlB⟩ := good_lo gX
              generalize Ls[k] = X at *
              have ck : ∀ d os, Calls Try.prog 20 #[.pointer (some ⟨sb, 0, none⟩), .agg #[.int .i64 X.A.x, .int .i64 X.A.y], .agg #[.int .i64 X.B.x, .int .i64 X.B.y]] (grow (redrawn wr d) os) fun e w' => e = .returned (.int .i64 X.K) ∧ Below (grow (redrawn wr d) os).heap.size (grow (redrawn wr d) os) w' := fun d os => by
                have := kind_any sb a3 c3 Ls.length Ls X.A X.B _ (R3.ext (below_regrown wr d os) rfl)
                rwa [hlA, hlB, hko] at this
              clear hko hlA hlB R3 hv3 S3 gX
              subst ea1
              obtain ⟨s0, s1, s2, s3, s4⟩ := hA1.cells
              have q2 : ¬ (k : Int) < (k : Int) := by omega
              clear hA1
              go_wp2_with fail
              refine (wp_region_tail 17 (by kernel_rfl) (by kernel_rfl) (C := fun w' => ∃ p : Regrown, w' = grow (redrawn wr p.d) p.os) (fun w' h => regrown_of_below h) ?_)
              simp only [List.take_succ_cons, List.take_zero, List.drop_succ_cons, List.drop_zero]
              repeat (first | (refine rWalk_skip (Eq.refl false) ?_; simp only [Act.put, List.setIfInBounds_toArray, List.set_cons_succ, List.set_cons_zero]) | (refine rWalk_step (fun K hK => ?_); go_simp; first | (refine hK _ ?_; clear hK K) | (apply Exists.intro; refine ⟨fun _ => ?_, hK _ ?_⟩; (first | with_reducible exact toExt2 ck _ _); clear hK K)))
              refine rWalk_nil ?_
              intro w6 hb6
              have hb36 := hb3.trans (hb6.mono hb3.size)
              clear s0 s1 s2 s3 s4 ck hb6 hb3
              go_wp2
              go_roundw
              case rel => exact ⟨k + 1, by go_num, by omega, hb36⟩
              case measure => simp [intOf]; omega
        · obtain rfl : j = m := by omega
          have q1 : ¬ (j : Int) < (j : Int) := by omega
          have cn := new_set (c := c9) (by rw [HM.out]; omega) hf9 hz9 hris hap hgood wr (HR.out.ext hb2 rfl)
          rw [HM.out] at cn
          go_wp2_with fail
          refine cn.mono ?_
          rintro e w5 ⟨so, vo, rfl, SO, _, _, hb5⟩
          have hb25 := hb2.trans (hb5.mono hb2.size)
          obtain ⟨ao, co, hvo, RO⟩ := SO.rd
          have ca := all_any so ao co Ls.length Ls w5 RO
          clear cn hb5 SO RO hvo
          go_wp2_with fail
          refine ca.mono ?_
          rintro e w6 ⟨v6, rfl, hr6, hb6⟩
          obtain ⟨a6, c6, hv6, hrow6, _⟩ := hr6.row
          have hb26 := hb25.trans (hb6.mono hb25.size)
          have cal := alike_W a6 a9 c6 c9 Ls Ls w6 hrow6 (HR.out.ext hb26 rfl) (by rw [HM.out]; omega)
          rw [HM.out, show decide (Ls = Ls) = true by simp] at cal
          rw [HM.out] at hv6
          subst hv6
          clear ca hr6 hb6 hb25 hrow6
          go_wp2_with fail
          refine cal.mono ?_
          rintro e w7 ⟨rfl, hb7⟩
          have hw7 := HW.out.trans ((hb26.trans (hb7.mono hb26.size)).mono HW.out.size)
          clear cal hb7 hb26
          go_wp2_with fail
          refine (awake_any w7).mono ?_
          rintro e w8 ⟨rfl, hb8⟩
          have hw8 := hw7.trans (hb8.mono hw7.size)
          go_wp2
          go_ret
          exact ⟨rfl, hw8⟩
theorem wc_any (a : Option Addr) (c n : Nat) (L : List Wl) (hn : L.length = n) (w : World) (Hr : RowAt cW 5 w a L) : Calls Try.prog 4 #[.slice a n c] w fun e w' => e = .returned (.bool true) ∧ Below w.heap.size w w' := by
  rcases Nat.lt_or_ge 30 n with h | h
  · exact wc_big a c n h w
  · exact wc_main a c n L hn h w Hr
set_option maxRecDepth 100000 in
theorem wallsClash_lifted (os : Os) (started : os.Started) (H : Type) (enc : TypeId × Value → H) :
    ReturnsInHanded {} Try.checked os 4 .any (Rows.wallsClashSpec.pre6 enc Try.prog Try.f4 Rows.wallsClashRow.domain false) (Rows.wallsClashSpec.post enc Try.prog Try.f4 false true false false) := by
  refine returnsInHanded_of_change (C := Try.checked) Try.own started (by kernel_rfl) Try.func4
    (ChangeSpec.witness6 (enc := enc) (C := Try.checked) false ⟨#[], #[.slice none 0 0], []⟩ 8 (by kernel_rfl) (by kernel_rfl) (by kernel_rfl) (by kernel_rfl)) ?_
  intro W base args ds gs before hval0 hW hcnd _
  have hval : ∀ (j : Nat) t v, Try.f4.params[j]? = some t → args[j]? = some v → Value.okWide Try.prog W .any base t v := hval0
  have hW' := hW
  obtain ⟨p, q, hA0, hV, rfl, hfz, hnd⟩ := hW
  have hA : DataW.TrodAll enc Try.prog W 0 (fun _ => true) true Try.f4.params.toList args.toList ds p := hA0
  rw [Try.params4] at hA hval
  obtain ⟨v0, d0, rfl, rfl, p0⟩ := trodAll_one hA
  obtain ⟨rfl, rfl⟩ := trodVars_none hV
  have p0k := p0
  obtain ⟨a0, n0, cap0, L, rfl, hL, hrow⟩ := open_rowW (hval 0 22 v0 rfl rfl) p0
  clear hA0 hval0
  simp only [List.append_nil] at hW'
  refine (wc_any a0 cap0 n0 L hL W hrow).mono fun e W' ⟨he, hb⟩ => ?_
  subst he
  exact ⟨_, rfl, post_of_below (pa := p) (pv := []) hW' (fun _ _ _ => trodAll_mk1 (shut_bool Try.underlying4 true)) (fun sp hsp => by
    have h := trodAll_mk1 (P := Try.prog) (enc := enc) (w := W') (base := 0) (spare := sp) (held := true) (WideElems.Trod_stays (by kernel_rfl) (by kernel_rfl) (of_decide_eq_true (by kernel_rfl)) p0k (fun x hx => hb.same (by simpa using hW'.lt x (by simpa using hx))) (fun x hx => hsp x (by simpa using hx)))
    exact h) (fun _ _ => rfl) (by simp) hb (ok_one (by kernel_rfl) rfl (okWide_bool_mk Try.underlying4 true))⟩
/-- The law WallsClash holds of every input. -/
theorem wallsClash_holds : Rows.WallsClashSaid :=
  OpenClaim.holds_of_wide 4 Try.f4 rfl rfl rfl rfl rfl rfl rfl ⟨rfl, rfl, rfl, rfl, rfl⟩ rfl rfl rfl rfl rfl (by kernel_rfl) Try.func4 (by kernel_rfl)
    (of_decide_eq_true (by kernel_rfl)) (by unfold Func.isWrapper; rw [if_neg (of_decide_eq_false (by kernel_rfl))]; exact ⟨rfl, rfl⟩)
    (fun os started H enc _ => wallsClash_lifted os started H enc)
end Go.Proofs.Ytpeehjkpglkikaa
