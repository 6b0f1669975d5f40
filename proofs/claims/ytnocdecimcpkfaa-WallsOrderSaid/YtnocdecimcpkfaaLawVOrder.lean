/- Walls have one order; a set tells them so, whichever order they came in; one that is taken out leaves the others: the law WallsOrder of package hectarelaw7 answers true at every input; no conditions. -/
import Derived.Test.YtnocdecimcpkfaaRows
import Derived.Test.YtnocdecimcpkfaaPut29
import Derived.Test.YtnocdecimcpkfaaPut2
import Derived.WalkKit
import Derived.WalkSpells
import Derived.WalkLawsBesides
import Derived.Deep.QuietTactic
import Derived.BigQuiet
import Derived.Lib.Hide
import Derived.Handy
import Derived.OwnWalk
import Derived.Maps.AppendAt
import Derived.Carry
import Derived.ProofKit
import Derived.Lib.SmallJoins
namespace Go.Proofs.Ytnocdecimcpkfaa
open Go.RowKit Go.Sort Go.ChangeShapes Go.WideShapes Go.ChangeAt
attribute [local go_sem] rOper rAt rUpon cell_set sg_i64 sg_u64 alloc_cell alloc_frozen
attribute [local go_sem 10000] pt_eql pt_neq wal_eql wal_neq
attribute [local irreducible] rWalk

theorem RowAt.partW {α : Type} {c : α → List Value} {k : Nat} {w : World} {a : Option Addr} {L : List α} (h : RowAt c k w a L) (lo m cap : Nat) (hcap : L.length ≤ cap) :
    RowAt c k w (if cap = lo then a else a.map fun x => x.add (lo * k)) ((L.drop lo).take m) := fun j x hj => by
  have hj2 : L[lo + j]? = some x := by
    rw [List.getElem?_take] at hj
    split at hj
    · rwa [List.getElem?_drop] at hj
    · cases hj
  obtain ⟨ad, h1, h2, h3⟩ := h (lo + j) x hj2
  have hl := (List.getElem?_eq_some_iff.1 hj2).1
  refine ⟨ad.add (lo * k), ?_, by rw [addr_block]; exact h2, fun i u hu => ?_⟩
  · rw [if_neg (by omega), h1]; rfl
  · rw [show (ad.add (lo * k)).add (j * k) = ad.add ((lo + j) * k) by rw [Go.Deep.add_add, ← Nat.add_mul]]
    exact h3 i u hu
theorem flow_at {P : Program} {ops : Array Oper} {Q : Exit → Act → World → Prop} {k : Nat} {after other : Plan} {C : World → Prop} {a : Act} {w : World} {o : Oper} (hC : ∀ x y, Ext x y → C x → C y) (ho : ops[k]? = some o) (h2 : flow P ops Q other C a w)
    (h : ∀ w', Ext w w' → ∀ K : Act → World → Prop, (∀ a' w2, C w2 → flow P ops Q after C a' w2 → K a' w2) → if Region.wanted o (yielded ops a.tmps) then o.wp P a w' K Q else K (a.put o.dst undef) w') : flow P ops Q (.alt k after other) C a w :=
  ⟨⟨o, ho, fun w' hw' => h w' hw' _ fun _ _ h1 h2 => ⟨C, fun _ h => h, hC, h1, h2⟩⟩, h2⟩
theorem flow_append {ops : Array Oper} {o : Oper} {a : Act} {w : World} {K : Act → World → Prop} {Q : Exit → Act → World → Prop} {E : Prop}
    (hw : Region.wanted o (yielded ops a.tmps) = true) (d x : Operand) (hop : o.op = Op.call { callee := Callee.builtin Builtin.append, args := #[d, x], argTypes := #[22, 22] })
    (B : Nat) (v : Value) (L : List Wl) (hd : a.eval d = v) (hown : WRow w B v L) (g off n c : Nat) (M : List Wl) (hx : a.eval x = .slice (some ⟨g, off, none⟩) n c) (hM : M.length = n) (hrow : RowAt cW 5 w (some ⟨g, off, none⟩) M) (hL : L.length + n ≤ 1000000) (hbase : B ≤ w.heap.size) (d0 : Option Tmp) (hd0 : o.dst = d0)
    (h : ∀ w' v', WRow w' B v' (L ++ M) → Frm w w' (fun k => v.ownBlock = some k) → Fresh v v' w.heap.size → K (a.put d0 v') w') : if Region.wanted o (yielded ops a.tmps) = true then Oper.wp Try.prog o a w K Q else E := by
  subst hd0
  rw [if_pos hw]
  obtain ⟨i0, hi, hz0, hz1, hz2⟩ := info_parts info_wall
  obtain ⟨v', w', hr, h2, h3, _, h4⟩ := run_append_own_at (P := Try.prog) w B 22 o.type 35 i0 _ 5 40 Try.underlying22 hi hz0 hz1 hz2 rfl (by decide) v L.length _ hown ⟨g, off, none⟩ n c (M.flatMap cW) (by rw [flatMap_len cW_len, hM]) (fun j u hu => by rw [Addr.add_lit]; exact (hrow.flat j u hu).2) (fun u hu => by
    obtain ⟨y, _, hy⟩ := List.mem_flatMap.1 hu
    exact cW_one y u hy) (by unfold maxLen; omega) (by omega) hbase
  have hR : WRow w' B v' (L ++ M) := by
    unfold WRow
    rw [List.length_append, List.flatMap_append, hM]
    exact h2
  unfold Oper.wp
  simp [execOp, hop, resolve, invoke, builtin, hd, hx, hr, Result.andThen]
  exact h w' v' hR (Frm.of_grown h3 (p := fun k => v.ownBlock = some k) (fun g e => e)) (fun g e => by
    rcases h4 with h4 | h4
    · exact .inl (h4 ▸ e)
    · right; rw [h4] at e; exact Nat.le_of_eq (Option.some.inj e))
theorem call_all {w0 W : World} {sb : Nat} {v : Value} {M : List Wl} (S : SetAt w0 sb v M) (hb : Below w0.heap.size w0 W) :
    Calls Try.prog 25 #[.pointer (some ⟨sb, 0, none⟩)] W fun e w' => ∃ v', e = .returned v' ∧ WRow w' W.heap.size v' M ∧ Below W.heap.size W w' := by
  obtain ⟨a, c, _, R⟩ := S.rd
  exact all_any sb a c M.length M W (R.ext hb rfl)
theorem made_row (w : World) (B : Nat) (hB : B ≤ w.heap.size) : WRow (w.alloc (.cells #[] 35)) B (.slice (some ⟨w.heap.size, 0, none⟩) 0 0) [] := World.ownsRow_made w #[] 0 hB (Nat.zero_le _) (by simp)
set_option maxRecDepth 100000 in
set_option maxHeartbeats 1000000 in
theorem wo_big (a : Option Addr) (c n : Nat) (at_ : Int) (h : 25 < n) (w : World) : Calls Try.prog 6 #[.slice a n c, .int .i64 at_] w fun e w' => e = .returned (.bool true) ∧ Below w.heap.size w w' := by
  have hd : decide ((25 : Int) < (n : Int)) = true := by simp; omega
  go_enter Try.func6, Try.ntmps6
  go_wp2_with fail
  refine (awake_any w).mono ?_
  rintro e w1 ⟨rfl, hb⟩
  go_wp2
  go_ret
  exact ⟨rfl, hb⟩
set_option maxRecDepth 100000 in
set_option maxHeartbeats 4000000 in
theorem wo_main (a : Option Addr) (c n : Nat) (at_ : Int) (L : List Wl) (hn : L.length = n) (h25 : n ≤ 25) (w : World) (Hr : RowAt cW 5 w a L) : Calls Try.prog 6 #[.slice a n c, .int .i64 at_] w fun e w' => e = .returned (.bool true) ∧ Below w.heap.size w w' := by
  have hd : decide ((25 : Int) < (n : Int)) = false := by simp; omega
  have H1 := Lib.hid hn
  clear hn
  go_enter Try.func6, Try.ntmps6
  go_wp2_with fail
  refine (new_none w).mono ?_
  rintro e w1 ⟨sb, vs, rfl, S, hsb, hvs, hw1⟩
  go_wp2_with fail
  refine (new_none w1).mono ?_
  rintro e w2 ⟨tb, vt, rfl, T, htb, hvt, hb2⟩
  have B : Both w w2 sb tb vs vt (.slice none 0 0) [] [] [] :=
    ⟨S.ext hb2 rfl, T, WRow.nil0 _ _, fun k h1 h2 => by have := foot_lt S k h1; have := foot_lo htb hvt k h2; omega, fun g e => (by cases e), fun g e => (by cases e), foot_lo hsb hvs, fun k h => by have := foot_lo htb hvt k h; have := hw1.size; omega, hw1.trans (hb2.mono hw1.size)⟩
  clear S hsb hvs hw1 T htb hvt hb2
  have HB := Lib.hid B
  clear B
  go_wp2_with fail
  go_loopw [9, 10] (fun vin vi wr => ∃ (i : Nat) (Ls In : List Wl) (vs : Value), vi = .int .i64 i ∧ i ≤ n ∧ Both w wr sb tb vs vt vin Ls [] In ∧ Apart Ls ∧ In.Perm Ls ∧ Ls.length ≤ i) (fun _ vi _ => n - (intOf vi).toNat)
  case atStart => exact ⟨0, [], [], vs, rfl, Nat.zero_le _, HB.out, List.Pairwise.nil, List.Perm.refl _, Nat.le_refl _⟩
  case round =>
    clear HB vs
    obtain ⟨i, Ls, In, vs, rfl, hi, B, hap, hpm, hli⟩ := hrel
    by_cases hlt : i < n
    · have hiL : i < L.length := by rw [H1.out]; exact hlt
      obtain ⟨ad, A, ea, eA, Hr2⟩ := Hr.five (j := i) hiL
      have hA := Hr2.ext B.hw rfl
      generalize L[i] = X at *
      subst ea
      obtain ⟨t0, t1, t2, t3, t4, t5⟩ := hA.facts
      have q0 : (i : Int) < (n : Int) := by omega
      clear hA
      have HB := Lib.hid B
      clear B
      go_wp2_with fail
      refine (add_any sb vs Ls X (by omega) wr HB.out.S).mono ?_
      rintro e w3 ⟨v3, rfl, S3, hfr, hfs⟩
      have B3 := HB.out.addS S3 hfr hfs (Nat.le_succ _)
      clear hfr hfs t0 t1 t2 t3 t4 t5 S3
      by_cases he : addE Ls X = 0
      · have hlen := addL_len he
        have hap3 := apart_add (X := X) HB.out.S.good hap
        have hpm3 : (In ++ [X]).Perm (addL Ls X) := (List.perm_append_singleton X In).trans ((hpm.cons X).trans (addL_perm he).symm)
        have hle : In.length ≤ 1000000 := by have := hpm.length_eq; omega
        rw [he]
        generalize addL Ls X = L3 at *
        have hA := Hr2.ext B3.hw rfl
        obtain ⟨t0, t1, t2, t3, t4, t5⟩ := hA.facts
        have HB3 := Lib.hid B3
        have hown3 := B3.R
        have hsz := B3.hw.size
        have HZ := Lib.hid hsz
        clear B3 hA hsz HB
        go_wp2_with (at_builtin; refine append_wl2 rfl _ _ rfl w.heap.size _ In rfl (hown3.alloc _) w3.heap.size X rfl (Box.new rfl) hle (by have := HZ.out; simp; omega) ?_; intro w5 v5 hown5 hg5 hf5)
        have B5 := (HB3.out.alloc (.cells #[.int .i64 X.A.x, .int .i64 X.A.y, .int .i64 X.B.x, .int .i64 X.B.y, .int .i64 X.K] 35)).app hown5 hg5 hf5
        clear t0 t1 t2 t3 t4 t5 hg5 hf5 hown5 hown3 HB3
        go_wp2
        go_roundw
        case rel => exact ⟨i + 1, L3, In ++ [X], v3, by go_num, by omega, B5, hap3, hpm3, by omega⟩
        case measure => simp [intOf]; omega
      · have hno := addL_no he
        rw [hno] at B3
        have hne : (addE Ls X == 0) = false := by simpa using he
        generalize addE Ls X = zz at *
        clear hno he HB
        go_wp2
        go_roundw
        case rel => exact ⟨i + 1, Ls, In, v3, by go_num, by omega, B3, hap, hpm, by omega⟩
        case measure => simp [intOf]; omega
    · obtain rfl : i = n := by omega
      obtain ⟨ai, ci, hvi, _, _⟩ := B.R.row
      subst hvi
      have q0 : ¬ (i : Int) < (i : Int) := by omega
      obtain ⟨m, hm⟩ : ∃ m, In.length = m := ⟨_, rfl⟩
      have hlm : Ls.length = m := by rw [← hm]; exact hpm.length_eq.symm
      have hm25 : m ≤ 25 := by omega
      have hgI : ∀ x ∈ In, GoodW x := fun x hx => B.S.good x (hpm.mem_iff.1 hx)
      have hapI : Apart In := apart_perm hpm.symm hap
      have HM := Lib.hid hm
      have HL := Lib.hid hlm
      rw [hm] at B ⊢
      clear hm hlm hli
      have HB := Lib.hid B
      clear B
      go_wp2_with fail
      go_loopw [11] (fun vi wr => ∃ (j : Nat) (Lt : List Wl) (vt : Value), vi = .int .i64 ((j : Int) - 1) ∧ j ≤ m ∧ Both w wr sb tb vs vt (.slice ai m ci) Ls Lt In ∧ Lt.Perm (In.drop j)) (fun vi _ => (intOf vi + 1).toNat)
      case atStart => exact ⟨m, [], vt, by first | rfl | go_num, Nat.le_refl _, HB.out, by rw [List.drop_of_length_le (by rw [HM.out]; exact Nat.le_refl _)]⟩
      case round =>
        clear HB
        obtain ⟨j, Lt, vt2, rfl, hj, B, hpt⟩ := hrel
        rcases j with _ | j
        · rw [show (((0 : Nat) : Int) - 1) = -1 by omega]
          have hpt2 : Lt.Perm Ls := hpt.trans hpm
          obtain ⟨a1, c1, hv1, R1⟩ := B.S.rd
          have ca := all_any sb a1 c1 Ls.length Ls wr R1
          have HB := Lib.hid B
          clear R1 hv1 hpt B
          go_wp2_with fail
          refine ca.mono ?_
          rintro e w2 ⟨v9, rfl, hr9, hb⟩
          have B2 := HB.out.ext hb
          obtain ⟨a9, c9, hv9, hrow9, hf9⟩ := hr9.row
          have hfar : ∀ g, v9.ownBlock = some g → ¬ Foot sb vs g := fun g e h => by have := foot_lt HB.out.S g h; have := (hr9.lt g e).1; omega
          have hr9' := hr9.base (Nat.zero_le _)
          clear hb ca HB hr9
          rw [HL.out] at hv9
          subst hv9
          have hris := B2.S.ris
          have hgood := B2.S.good
          have HR := Lib.hid hrow9
          have HR9 := Lib.hid hr9'
          have HFAR := Lib.hid hfar
          clear hr9' hfar
          have HB := Lib.hid B2
          clear B2 hrow9
          go_wp2_with fail
          go_loopw [13] (fun vi wr => ∃ i : Nat, vi = .int .i64 ((i : Int) + 1) ∧ (i = 0 ∨ i + 1 ≤ m) ∧ Below w2.heap.size w2 wr) (fun vi _ => m - (intOf vi).toNat)
          case atStart => exact ⟨0, by first | rfl | simp, .inl rfl, Below.refl _ _⟩
          case round =>
            obtain ⟨k, rfl, hk, hb3⟩ := hrel
            by_cases hkm : k + 1 < m
            · have hk0 : k < Ls.length := by rw [HL.out]; omega
              have hk1 : k + 1 < Ls.length := by rw [HL.out]; exact hkm
              obtain ⟨ad1, A1, ea1, eA1, hA1⟩ := (HR.out.ext hb3 rfl).five (j := k) hk0
              obtain ⟨ad2, A2, ea2, eA2, hA2⟩ := (HR.out.ext hb3 rfl).five (j := k + 1) hk1
              have hlt2 := rising_lt hris hk0 hk1 (Nat.lt_succ_self k)
              have hbd := cmpW_bd Ls[k] Ls[k + 1]
              have hng := cmpW_neg Ls[k] Ls[k + 1]
              generalize Ls[k] = X at *
              generalize Ls[k + 1] = Y at *
              have cx := cmpW_any X Y
              have cy := cmpW_any Y X
              rw [show cmpW X Y = -1 by omega] at cx
              rw [show cmpW Y X = 1 by omega] at cy
              clear hlt2 hbd hng
              subst ea1
              simp only [Option.some.injEq] at ea2
              subst ea2
              obtain ⟨s0, s1, s2, s3, s4⟩ := hA1.cells
              obtain ⟨r0, r1, r2, r3, r4⟩ := hA2.cells
              have q1 : IntKind.i64.wrap ((k : Int) + 1 - 1) = k := by rw [IntKind.wrap_i64]; omega
              have q1b : IntKind.i64.wrap (k : Int) = k := by rw [IntKind.wrap_i64]; omega
              have q2 : (k : Int) < (m : Int) := by omega
              have q3 : (k : Int) + 1 < (m : Int) := by omega
              have q4 : ((k : Int) + 1).toNat = k + 1 := by omega
              have q5 : k < m := by omega
              have q6 : (0 : Int) ≤ (k : Int) + 1 := by omega
              clear hA1 hA2
              go_wp2_with fail
              refine (wp_region_tail 23 (by kernel_rfl) (by kernel_rfl) (C := fun w' => ∃ p : Regrown, w' = grow (redrawn wr p.d) p.os) (fun w' h => regrown_of_below h) ?_)
              simp only [List.take_succ_cons, List.take_zero, List.drop_succ_cons, List.drop_zero]
              repeat (first | (refine rWalk_skip (Eq.refl false) ?_; simp only [Act.put, List.setIfInBounds_toArray, List.set_cons_succ, List.set_cons_zero]) | (refine rWalk_step (fun K hK => ?_); go_simp; first | (refine hK _ ?_; clear hK K) | (apply Exists.intro; refine ⟨fun _ => ?_, hK _ ?_⟩; (first | with_reducible exact toExt cx _ | with_reducible exact toExt cy _); clear hK K)))
              refine rWalk_nil ?_
              intro w6 hb6
              have hb36 := hb3.trans (hb6.mono hb3.size)
              clear s0 s1 s2 s3 s4 r0 r1 r2 r3 r4 cx cy hb6 hb3
              go_wp2
              go_roundw
              case rel => exact ⟨k + 1, by go_num, .inr (by omega), hb36⟩
              case measure => simp [intOf]; omega
            · have q3 : ¬ ((k : Int) + 1 < (m : Int)) := by omega
              have hLt : Lt = Ls := perm_eq HB.out.T.ris hris hpt2
              subst hLt
              have B3 := HB.out.ext hb3
              obtain ⟨a2, c2, hv2, R2⟩ := B3.T.rd
              have ca2 := all_any tb a2 c2 Lt.length Lt wr R2
              clear hv2 R2
              go_wp2_with fail
              refine ca2.mono ?_
              rintro e w6 ⟨v8, rfl, hr8, hb6⟩
              obtain ⟨a8, c8, hv8, hrow8, _⟩ := hr8.row
              have hb36 := hb3.trans (hb6.mono hb3.size)
              have cal := alike_W a9 a8 c9 c8 Lt Lt w6 (HR.out.ext hb36 rfl) hrow8 (by rw [HL.out]; omega)
              rw [HL.out, show decide (Lt = Lt) = true by simp] at cal
              rw [HL.out] at hv8
              subst hv8
              have hrow8' := hrow8
              clear ca2 hr8 hb6 hrow8 hrow8' hb3
              have hmm : ((m : Int) != (m : Int)) = false := by simp
              go_wp2_with fail
              refine cal.mono ?_
              rintro e w7 ⟨rfl, hb7⟩
              have hb27 := hb36.trans (hb7.mono hb36.size)
              clear cal hb7 hb36 B3
              have B7 := HB.out.ext hb27
              by_cases hm0 : m = 0
              · have hm0' : ((m : Int) == 0) = true := by simp; omega
                subst hm0
                go_wp2_with fail
                refine (awake_any w7).mono ?_
                rintro e w8 ⟨rfl, hb8⟩
                have hw8 := B7.hw.trans (hb8.mono B7.hw.size)
                go_wp2
                go_ret
                exact ⟨rfl, hw8⟩
              · have hm0' : ((m : Int) == 0) = false := by simp; omega
                have hmz : ¬ (m : Int) = 0 := by omega
                have e0 := Int.emod_nonneg at_ hmz
                have e1 := Int.emod_lt_of_pos at_ (show (0 : Int) < m by omega)
                have cr := round_W (i := at_) (n := (m : Int)) (by omega) (by omega)
                obtain ⟨kk, hkk⟩ : ∃ kk : Nat, at_ % (m : Int) = (kk : Int) := ⟨(at_ % (m : Int)).toNat, by omega⟩
                rw [hkk] at cr e0 e1
                clear hkk
                go_wp2_with fail
                refine (cr w7).mono ?_
                rintro e w8 ⟨rfl, hb8⟩
                have hb28 := hb27.trans (hb8.mono hb27.size)
                have B8 := HB.out.ext hb28
                have hkL : kk < Lt.length := by rw [HL.out]; omega
                obtain ⟨ad1, A1, ea1, eA1, hA1⟩ := (HR.out.ext hb28 rfl).five (j := kk) hkL
                have gX := hgood _ (List.getElem_mem hkL)
                obtain ⟨hre, hrl⟩ := pos_own hris hap hgood hkL
                generalize Lt[kk] = X at *
                have hab : X.A ≠ X.B := fun e => by have := gX.ab; rw [e, cmpP_eq0.2 rfl] at this; omega
                obtain ⟨hlA, hlB⟩ := good_lo gX
                have hsw := lo_sw hab
                have hre2 : remE Lt (lo2 X.B X.A) (hi2 X.B X.A) = 0 := by rw [hsw.1, hsw.2, hlA, hlB]; exact hre
                have hrl2 : remL Lt (lo2 X.B X.A) (hi2 X.B X.A) = Lt.take kk ++ Lt.drop (kk + 1) := by rw [hsw.1, hsw.2, hlA, hlB]; exact hrl
                clear hre hrl hsw hlA hlB
                clear cr B7
                subst ea1
                obtain ⟨s0, s1, s2, s3, s4⟩ := hA1.cells
                have q4 : kk < m := by omega
                clear hA1
                go_wp2_with fail
                refine (wp_region_tail 11 (by kernel_rfl) (by kernel_rfl) (C := fun w' => ∃ p : Regrown, w' = grow (redrawn w8 p.d) p.os) (fun w' h => regrown_of_below h) ?_)
                simp only [List.take_succ_cons, List.take_zero, List.drop_succ_cons, List.drop_zero]
                repeat (first | (refine rWalk_skip (Eq.refl false) ?_; simp only [Act.put, List.setIfInBounds_toArray, List.set_cons_succ, List.set_cons_zero]) | (refine rWalk_step (fun K hK => ?_); go_simp; first | (refine hK _ ?_; clear hK K) | (apply Exists.intro; refine ⟨fun _ => ?_, hK _ ?_⟩; (first | fail); clear hK K)))
                refine rWalk_nil ?_
                intro w9 hb9
                have hb29 := hb28.trans (hb9.mono hb28.size)
                have B9 := HB.out.ext hb29
                have hr9a := HR9.out.ext hb29 rfl
                clear s0 s1 s2 s3 s4 hb9 B8 hb28 hb27 hb8
                go_wp2_with fail
                refine (rem_any sb vs Lt X.B X.A w9 B9.S).mono ?_
                rintro e w10 ⟨v10, rfl, S10, hfr, hfs⟩
                rw [hre2]
                rw [hrl2] at S10
                have hr10 := hfr.row hr9a HFAR.out
                have hw10 : Below w.heap.size w w10 := B9.hw.trans (hfr.below B9.slo B9.hw.size)
                clear hre2 hrl2 hfr hfs B9 hr9a hb29
                obtain ⟨g9, hg9, hmc, hcm⟩ : ∃ g9, ad1 = ⟨g9, 0, none⟩ ∧ m ≤ c9 ∧ c9 ≤ maxLen := by
                  rcases hr10.box with ⟨h, _⟩ | ⟨g, cap, tl, h, _, _, h1, h2, _⟩
                  · simp at h
                  · simp only [Value.slice.injEq, Option.some.injEq] at h
                    obtain ⟨r1, r2, r3⟩ := h
                    exact ⟨g, r1, by rw [r2, r3]; exact h1, by rw [r3]; exact h2⟩
                subst hg9
                obtain ⟨a10, c10, hv10', hrow10, _⟩ := hr10.row
                simp only [Value.slice.injEq] at hv10'
                obtain ⟨rfl, hvm, rfl⟩ := hv10'
                clear hvm
                have hT1 : (Lt.take kk).length = kk := by rw [List.length_take, HL.out]; omega
                have hT2 : (Lt.drop (kk + 1)).length = m - (kk + 1) := by rw [List.length_drop, HL.out]
                have hTa : ∀ W, Below w10.heap.size w10 W → RowAt cW 5 W (some ⟨g9, 0, none⟩) (Lt.take kk) := fun W hW => (hrow10.ext hW rfl).take kk
                have z1 : (kk : Int) ≤ (c9 : Int) := by omega
                have z2 : kk ≤ c9 := by omega
                have z3 : IntKind.i64.wrap ((kk : Int) + 1) = (kk : Int) + 1 := by rw [IntKind.wrap_i64]; omega
                have z4 : (0 : Int) ≤ (kk : Int) + 1 := by omega
                have z5 : ((kk : Int) + 1).toNat = kk + 1 := by omega
                have z6 : (kk : Int) + 1 ≤ (m : Int) := by omega
                have z7 : (0 : Int) ≤ (kk : Int) := by omega
                have hlen10 : (Lt.take kk ++ Lt.drop (kk + 1)).length = m - 1 := by have := HL.out; rw [List.length_append, List.length_take, List.length_drop]; omega
                go_wp2_with fail
                have hcB : ∀ w', (∃ p : Regrown, w' = grow (redrawn w10 p.d) p.os) → Below w10.heap.size w10 w' := fun w' h => by obtain ⟨p, rfl⟩ := h; exact below_regrown _ _ _
                obtain ⟨off, hoff, hdr⟩ : ∃ off, (if c9 = kk + 1 then some (⟨g9, 0, none⟩ : Addr) else some ⟨g9, (kk + 1) * 5, none⟩) = some ⟨g9, off, none⟩ ∧ RowAt cW 5 w10 (some ⟨g9, off, none⟩) (Lt.drop (kk + 1)) := by
                  have h := RowAt.partW hrow10 (kk + 1) (m - (kk + 1)) c9 (by rw [HL.out]; exact hmc)
                  rw [List.take_of_length_le (by rw [hT2]; exact Nat.le_refl _)] at h
                  by_cases e : c9 = kk + 1
                  · rw [if_pos e] at h ⊢; exact ⟨0, rfl, h⟩
                  · rw [if_neg e] at h ⊢; exact ⟨(kk + 1) * 5, rfl, by rw [Option.map_some, Addr.add_lit, Nat.zero_add] at h; exact h⟩
                have HOFF := Lib.hid hoff
                clear hoff
                refine wp_region_flow (.run 0 (.run 1 (.run 2 (.run 3 (.run 6 (.run 7 (.run 8 (.run 10 (.run 11 (.run 12 (.run 13 (.alt 4 (.alt 5 (.alt 9 (.alt 14 (.alt 15 (.run 16 (.run 17 (.alt 18 (.run 19 (.run 20 (.done))) .stop))) .stop) .stop) .stop) .stop) (.alt 5 (.alt 4 (.alt 9 (.alt 14 (.alt 15 (.run 16 (.run 17 (.alt 18 (.run 19 (.run 20 (.done))) .stop))) .stop) .stop) .stop) .stop) .stop))))))))))))) rfl (by kernel_rfl) (fun _ x _ _ _ h => by cases x <;> exact h) (C := fun w' => ∃ p : Regrown, w' = grow (redrawn w10 p.d) p.os) (fun _ h => regrown_of_below h) hcB ?_
                have hC : ∀ x y, Ext x y → (∃ p : Regrown, x = grow (redrawn w10 p.d) p.os) → (∃ p : Regrown, y = grow (redrawn w10 p.d) p.os) := fun x y h1 h2 => regrown_of_below ((hcB x h2).trans (h1.mono (hcB x h2).size))
                iterate 11 (refine flow_run rfl (fun K hK => ?_); go_simp; first | (refine hK _ ?_; clear hK K) | (apply Exists.intro; refine ⟨fun _ => ?_, hK _ ?_⟩; rotate_left; clear hK K))
                rw [HOFF.out]
                refine flow_at hC rfl ?x5 (fun wq hwq K hK => ?x4)
                case x4 =>
                  go_simp
                  refine (call_all S10 hwq).mono ?_
                  rintro e wr ⟨v11, rfl, hr11, hb11⟩
                  obtain ⟨a11, c11, hv11, _, _⟩ := hr11.row
                  rw [hlen10] at hv11
                  subst hv11
                  have hbr : Below w10.heap.size w10 wr := Below.trans hwq (hb11.mono hwq.size)
                  go_simp
                  refine hK _ _ (regrown_of_below hbr) ?_
                  clear hK K
                  refine flow_at hC rfl trivial (fun wp hwp K hK => ?_)
                  have hbp : Below w10.heap.size w10 wp := hbr.trans (hwp.mono hbr.size)
                  have hrM := made_row wp w10.heap.size hbp.size
                  have hrA := ((hr11.ext hwp rfl).base (Nat.zero_le _)).ext ((Below.refl _ wp).alloc (Nat.le_refl _) (.cells #[] 35)) rfl
                  have hne : ∀ g, Value.ownBlock (.slice a11 (m - 1) c11) = some g → ¬ Value.ownBlock (.slice (some ⟨wp.heap.size, 0, none⟩) 0 0) = some g := fun g e h => by
                    have := (hr11.lt g e).2
                    have := hwp.size
                    have : wp.heap.size = g := by simpa [Value.ownBlock] using h
                    omega
                  go_simp
                  refine hK _ _ (regrown_of_below (hbp.alloc hbp.size _)) ?_
                  clear hK K
                  have hbW := hbp.alloc hbp.size (.cells #[] 35)
                  refine flow_at hC rfl trivial (fun w12 hw12 K hK => ?_)
                  have hb12 : Below w10.heap.size w10 w12 := hbW.trans (hw12.mono hbW.size)
                  have hrA12 := hrA.ext hw12 rfl
                  refine flow_append (by rfl) _ _ (by rfl) w10.heap.size _ [] (by rfl) (hrM.ext hw12 rfl) g9 0 kk c9 (Lt.take kk) (by rfl) hT1 ((hrow10.ext hb12 rfl).take kk) (by simp; omega) hb12.size (some 149) (by rfl) ?_
                  intro w13 v12 hr12 hf12 hs12
                  have hb13 : Below w10.heap.size w10 w13 := hb12.trans (hf12.below (fun k e => (hrM.lt k e).1) hb12.size)
                  refine hK _ _ (regrown_of_below hb13) ?_
                  clear hK K
                  rw [List.nil_append] at hr12
                  have hrA13 := hf12.row hrA12 hne
                  have hne2 : ∀ g, Value.ownBlock (.slice a11 (m - 1) c11) = some g → ¬ v12.ownBlock = some g := fun g e h => by
                    rcases hs12 g h with h | h
                    · exact hne g e h
                    · have := (hrA12.lt g e).2; omega
                  simp only [Act.put, List.setIfInBounds_toArray, List.set_cons_succ, List.set_cons_zero]
                  refine flow_at hC rfl trivial (fun w14 hw14 K hK => ?_)
                  have hb14 : Below w10.heap.size w10 w14 := hb13.trans (hw14.mono hb13.size)
                  have hrA14 := hrA13.ext hw14 rfl
                  have hr14 := hr12.ext hw14 rfl
                  refine flow_append (by rfl) _ _ (by rfl) w10.heap.size v12 (Lt.take kk) (by rfl) hr14 g9 off (m - (kk + 1)) (c9 - (kk + 1)) (Lt.drop (kk + 1)) (by rfl) hT2 (hdr.ext hb14 rfl) (by rw [hT1]; omega) hb14.size (some 154) (by rfl) ?_
                  intro w15 v14 hr15 hf15 hs15
                  have hb15 : Below w10.heap.size w10 w15 := hb14.trans (hf15.below (fun k e => (hr14.lt k e).1) hb14.size)
                  refine hK _ _ (regrown_of_below hb15) ?_
                  clear hK K
                  have hrA15 := hf15.row hrA14 hne2
                  obtain ⟨a14, c14, hv14, hrow14, _⟩ := hr15.row
                  rw [hlen10] at hv14
                  subst hv14
                  obtain ⟨a11b, c11b, hv11, hrow11, _⟩ := hrA15.row
                  simp only [Value.slice.injEq] at hv11
                  obtain ⟨rfl, hzz, rfl⟩ := hv11
                  clear hzz
                  simp only [Act.put, List.setIfInBounds_toArray, List.set_cons_succ, List.set_cons_zero]
                  refine flow_at hC rfl trivial (fun w16 hw16 K hK => ?_)
                  have hb16 : Below w10.heap.size w10 w16 := hb15.trans (hw16.mono hb15.size)
                  have cal := alike_W a11 a14 c11 c14 (Lt.take kk ++ Lt.drop (kk + 1)) (Lt.take kk ++ Lt.drop (kk + 1)) w16 (hrow11.ext hw16 rfl) (hrow14.ext hw16 rfl) (by rw [hlen10]; omega)
                  rw [hlen10, decide_eq_true rfl] at cal
                  have HCAL := Lib.hid cal
                  clear cal hne hne2 hs12 hs15 hf12 hf15 hrM hrA hrA12 hrA13 hrA14 hrA15 hr14 hr12 hr15 hrow11 hrow14 hdr hrow10 hT1 hT2 hr11
                  go_simp
                  refine HCAL.out.mono ?_
                  rintro e w17 ⟨rfl, hb17⟩
                  have hc17 : Below w10.heap.size w10 w17 := hb16.trans (hb17.mono hb16.size)
                  go_simp
                  refine hK _ _ (regrown_of_below hc17) ?_
                  clear hK K HCAL
                  iterate 2 (refine flow_run rfl (fun K hK => ?_); go_simp; first | (refine hK _ ?_; clear hK K) | (apply Exists.intro; refine ⟨fun _ => ?_, hK _ ?_⟩; rotate_left; clear hK K))
                  refine flow_at hC rfl trivial (fun w18 hw18 K hK => ?_)
                  have hb18 : Below w10.heap.size w10 w18 := hc17.trans (hw18.mono hc17.size)
                  go_simp
                  refine (awake_any w18).mono ?_
                  rintro e w19 ⟨rfl, hb19⟩
                  have hc19 : Below w10.heap.size w10 w19 := hb18.trans (hb19.mono hb18.size)
                  go_simp
                  refine hK _ _ (regrown_of_below hc19) ?_
                  clear hK K
                  iterate 2 (refine flow_run rfl (fun K hK => ?_); go_simp; first | (refine hK _ ?_; clear hK K) | (apply Exists.intro; refine ⟨fun _ => ?_, hK _ ?_⟩; rotate_left; clear hK K))
                  intro wz hwz
                  have hbz : Below w.heap.size w wz := hw10.trans ((hc19.trans (hwz.mono hc19.size)).mono hw10.size)
                  go_wp2
                  go_ret
                  exact ⟨rfl, hbz⟩
                case x5 =>
                  refine flow_at hC rfl trivial (fun wp hwp K hK => ?_)
                  have hrM0 := made_row wp w10.heap.size (Below.size hwp)
                  go_simp
                  have hbp : Below w10.heap.size w10 (wp.alloc (.cells #[] 35)) := Below.alloc hwp (Below.size hwp) _
                  refine hK _ _ (regrown_of_below hbp) ?_
                  clear hK K
                  refine flow_at hC rfl trivial (fun wq hwq K hK => ?_)
                  have hbq := hbp.trans (Below.mono hwq hbp.size)
                  go_simp
                  refine (call_all S10 hbq).mono ?_
                  rintro e wr ⟨v11, rfl, hr11, hb11⟩
                  obtain ⟨a11, c11, hv11, _, _⟩ := hr11.row
                  rw [hlen10] at hv11
                  subst hv11
                  have hrM := (hrM0.ext hwq rfl).ext hb11 rfl
                  have hrA := hr11.base (Nat.zero_le _)
                  have hbr : Below w10.heap.size w10 wr := Below.trans hbq (hb11.mono hbq.size)
                  have hne : ∀ g, Value.ownBlock (.slice a11 (m - 1) c11) = some g → ¬ Value.ownBlock (.slice (some ⟨wp.heap.size, 0, none⟩) 0 0) = some g := fun g e h => by
                    have := (hr11.lt g e).1
                    have := Below.size hwq
                    have : wp.heap.size = g := by simpa [Value.ownBlock] using h
                    simp at *
                    omega
                  go_simp
                  refine hK _ _ (regrown_of_below hbr) ?_
                  clear hK K
                  have hbW := hbr
                  refine flow_at hC rfl trivial (fun w12 hw12 K hK => ?_)
                  have hb12 : Below w10.heap.size w10 w12 := hbW.trans (hw12.mono hbW.size)
                  have hrA12 := hrA.ext hw12 rfl
                  refine flow_append (by rfl) _ _ (by rfl) w10.heap.size _ [] (by rfl) (hrM.ext hw12 rfl) g9 0 kk c9 (Lt.take kk) (by rfl) hT1 ((hrow10.ext hb12 rfl).take kk) (by simp; omega) hb12.size (some 149) (by rfl) ?_
                  intro w13 v12 hr12 hf12 hs12
                  have hb13 : Below w10.heap.size w10 w13 := hb12.trans (hf12.below (fun k e => (hrM.lt k e).1) hb12.size)
                  refine hK _ _ (regrown_of_below hb13) ?_
                  clear hK K
                  rw [List.nil_append] at hr12
                  have hrA13 := hf12.row hrA12 hne
                  have hne2 : ∀ g, Value.ownBlock (.slice a11 (m - 1) c11) = some g → ¬ v12.ownBlock = some g := fun g e h => by
                    rcases hs12 g h with h | h
                    · exact hne g e h
                    · have := (hrA12.lt g e).2; omega
                  simp only [Act.put, List.setIfInBounds_toArray, List.set_cons_succ, List.set_cons_zero]
                  refine flow_at hC rfl trivial (fun w14 hw14 K hK => ?_)
                  have hb14 : Below w10.heap.size w10 w14 := hb13.trans (hw14.mono hb13.size)
                  have hrA14 := hrA13.ext hw14 rfl
                  have hr14 := hr12.ext hw14 rfl
                  refine flow_append (by rfl) _ _ (by rfl) w10.heap.size v12 (Lt.take kk) (by rfl) hr14 g9 off (m - (kk + 1)) (c9 - (kk + 1)) (Lt.drop (kk + 1)) (by rfl) hT2 (hdr.ext hb14 rfl) (by rw [hT1]; omega) hb14.size (some 154) (by rfl) ?_
                  intro w15 v14 hr15 hf15 hs15
                  have hb15 : Below w10.heap.size w10 w15 := hb14.trans (hf15.below (fun k e => (hr14.lt k e).1) hb14.size)
                  refine hK _ _ (regrown_of_below hb15) ?_
                  clear hK K
                  have hrA15 := hf15.row hrA14 hne2
                  obtain ⟨a14, c14, hv14, hrow14, _⟩ := hr15.row
                  rw [hlen10] at hv14
                  subst hv14
                  obtain ⟨a11b, c11b, hv11, hrow11, _⟩ := hrA15.row
                  simp only [Value.slice.injEq] at hv11
                  obtain ⟨rfl, hzz, rfl⟩ := hv11
                  clear hzz
                  simp only [Act.put, List.setIfInBounds_toArray, List.set_cons_succ, List.set_cons_zero]
                  refine flow_at hC rfl trivial (fun w16 hw16 K hK => ?_)
                  have hb16 : Below w10.heap.size w10 w16 := hb15.trans (hw16.mono hb15.size)
                  have cal := alike_W a11 a14 c11 c14 (Lt.take kk ++ Lt.drop (kk + 1)) (Lt.take kk ++ Lt.drop (kk + 1)) w16 (hrow11.ext hw16 rfl) (hrow14.ext hw16 rfl) (by rw [hlen10]; omega)
                  rw [hlen10, decide_eq_true rfl] at cal
                  have HCAL := Lib.hid cal
                  clear cal hne hne2 hs12 hs15 hf12 hf15 hrM hrA hrA12 hrA13 hrA14 hrA15 hr14 hr12 hr15 hrow11 hrow14 hdr hrow10 hT1 hT2 hr11
                  go_simp
                  refine HCAL.out.mono ?_
                  rintro e w17 ⟨rfl, hb17⟩
                  have hc17 : Below w10.heap.size w10 w17 := hb16.trans (hb17.mono hb16.size)
                  go_simp
                  refine hK _ _ (regrown_of_below hc17) ?_
                  clear hK K HCAL
                  iterate 2 (refine flow_run rfl (fun K hK => ?_); go_simp; first | (refine hK _ ?_; clear hK K) | (apply Exists.intro; refine ⟨fun _ => ?_, hK _ ?_⟩; rotate_left; clear hK K))
                  refine flow_at hC rfl trivial (fun w18 hw18 K hK => ?_)
                  have hb18 : Below w10.heap.size w10 w18 := hc17.trans (hw18.mono hc17.size)
                  go_simp
                  refine (awake_any w18).mono ?_
                  rintro e w19 ⟨rfl, hb19⟩
                  have hc19 : Below w10.heap.size w10 w19 := hb18.trans (hb19.mono hb18.size)
                  go_simp
                  refine hK _ _ (regrown_of_below hc19) ?_
                  clear hK K
                  iterate 2 (refine flow_run rfl (fun K hK => ?_); go_simp; first | (refine hK _ ?_; clear hK K) | (apply Exists.intro; refine ⟨fun _ => ?_, hK _ ?_⟩; rotate_left; clear hK K))
                  intro wz hwz
                  have hbz : Below w.heap.size w wz := hw10.trans ((hc19.trans (hwz.mono hc19.size)).mono hw10.size)
                  go_wp2
                  go_ret
                  exact ⟨rfl, hbz⟩
        · rw [show (((j + 1 : Nat) : Int) - 1) = (j : Int) by omega]
          have hjI : j < In.length := by rw [HM.out]; omega
          obtain ⟨he, hp⟩ := back_add hapI hgI hjI hpt
          obtain ⟨a', c', hv', hr', _⟩ := B.R.row
          simp only [Value.slice.injEq] at hv'
          obtain ⟨rfl, hml, rfl⟩ := hv'
          clear hml
          obtain ⟨ad, A, ea, eA, hA⟩ := hr'.five (j := j) hjI
          generalize In[j] = X at *
          subst ea
          obtain ⟨t0, t1, t2, t3, t4, t5⟩ := hA.facts
          have q0 : (0 : Int) ≤ (j : Int) := by omega
          have q1 : (j : Int) < (m : Int) := by omega
          have q2 : j < m := by omega
          have hlT : Lt.length ≤ 25 := by rw [hpt.length_eq, List.length_drop, HM.out]; omega
          clear hA hr' hpt
          have HB := Lib.hid B
          clear B
          go_wp2_with fail
          refine (add_any tb vt2 Lt X (by omega) wr HB.out.T).mono ?_
          rintro e w3 ⟨v3, rfl, T3, hfr, hfs⟩
          have B3 := HB.out.addT T3 hfr hfs (Nat.le_succ _)
          rw [he]
          generalize addL Lt X = L3 at *
          clear hfr hfs t0 t1 t2 t3 t4 t5 T3 HB he
          go_wp2
          go_roundw
          case rel => exact ⟨j, L3, v3, by first | rfl | go_num, by omega, B3, hp⟩
          case measure => simp [intOf]
theorem wo_any (a : Option Addr) (c n : Nat) (L : List Wl) (hn : L.length = n) (w : World) (at_ : Int) (Hr : RowAt cW 5 w a L) : Calls Try.prog 6 #[.slice a n c, .int .i64 at_] w fun e w' => e = .returned (.bool true) ∧ Below w.heap.size w w' := by
  rcases Nat.lt_or_ge 25 n with h | h
  · exact wo_big a c n at_ h w
  · exact wo_main a c n at_ L hn h w Hr
set_option maxRecDepth 100000 in
theorem wallsOrder_lifted (os : Os) (started : os.Started) (H : Type) (enc : TypeId × Value → H) :
    ReturnsInHanded {} Try.checked os 6 .any (Rows.wallsOrderSpec.pre6 enc Try.prog Try.f6 Rows.wallsOrderRow.domain false) (Rows.wallsOrderSpec.post enc Try.prog Try.f6 false true false false) := by
  refine returnsInHanded_of_change (C := Try.checked) Try.own started (by kernel_rfl) Try.func6
    (ChangeSpec.witness6 (enc := enc) (C := Try.checked) false ⟨#[], #[.slice none 0 0, .int .i64 0], []⟩ 8 (by kernel_rfl) (by kernel_rfl) (by kernel_rfl) (by kernel_rfl)) ?_
  intro W base args ds gs before hval0 hW hcnd _
  have hval : ∀ (j : Nat) t v, Try.f6.params[j]? = some t → args[j]? = some v → Value.okWide Try.prog W .any base t v := hval0
  have hW' := hW
  obtain ⟨p, q, hA0, hV, rfl, hfz, hnd⟩ := hW
  have hA : DataW.TrodAll enc Try.prog W 0 (fun _ => true) true Try.f6.params.toList args.toList ds p := hA0
  rw [Try.params6] at hA hval
  obtain ⟨v0, v1, d0, d1, q0, q1, rfl, rfl, rfl, p0, p1⟩ := trodAll_two hA
  obtain ⟨rfl, rfl⟩ := trodVars_none hV
  have p0k := p0
  obtain ⟨a0, n0, cap0, L, rfl, hL, hrow⟩ := open_rowW (hval 0 22 v0 rfl rfl) p0
  obtain ⟨at_, rfl, rfl, rfl, wat⟩ := open_int Try.underlying3 (hval 1 3 v1 rfl rfl) p1
  clear hA0 hval0
  simp only [List.append_nil] at hW'
  refine (wo_any a0 cap0 n0 L hL W at_ hrow).mono fun e W' ⟨he, hb⟩ => ?_
  subst he
  exact ⟨_, rfl, post_of_below (pa := q0 ++ []) (pv := []) hW' (fun _ _ _ => trodAll_mk1 (shut_bool Try.underlying4 true)) (fun sp hsp => by
    have h := trodAll_mk2 (P := Try.prog) (enc := enc) (w := W') (base := 0) (spare := sp) (held := true) (WideElems.Trod_stays (by kernel_rfl) (by kernel_rfl) (of_decide_eq_true (by kernel_rfl)) p0k (fun x hx => hb.same (by simpa using hW'.lt x (by simpa using hx))) (fun x hx => hsp x (by simpa using hx))) (shut_int Try.underlying3 wat)
    exact h) (fun _ _ => rfl) (by simp) hb (ok_one (by kernel_rfl) rfl (okWide_bool_mk Try.underlying4 true))⟩
/-- The law WallsOrder holds of every input. -/
theorem wallsOrder_holds : Rows.WallsOrderSaid :=
  OpenClaim.holds_of_wide 6 Try.f6 rfl rfl rfl rfl rfl rfl rfl ⟨rfl, rfl, rfl, rfl, rfl⟩ rfl rfl rfl rfl rfl (by kernel_rfl) Try.func6 (by kernel_rfl)
    (of_decide_eq_true (by kernel_rfl)) (by unfold Func.isWrapper; rw [if_neg (of_decide_eq_false (by kernel_rfl))]; exact ⟨rfl, rfl⟩)
    (fun os started H enc _ => wallsOrder_lifted os started H enc)
end Go.Proofs.Ytnocdecimcpkfaa
