/- Put together: DocH, DocD. -/
import Derived.Test.YtnocdecimcpkfaaRows
import Derived.Test.YtnocdecimcpkfaaPut25
import Derived.Test.YtnocdecimcpkfaaPut27
import Derived.Test.YtnocdecimcpkfaaPut1
import Derived.WalkKit
import Derived.WalkSpells
import Derived.WalkLawsBesides
import Derived.Laws.Externs
import Derived.Deep.QuietTactic
import Derived.BigQuiet
import Derived.Lib.Hide
import Derived.Handy
import Derived.OwnWalk
import Derived.LoopN
import Derived.RegionTactic
namespace Go.Proofs.Ytnocdecimcpkfaa
open Go.RowKit Go.Sort
attribute [local go_sem] rOper rAt rUpon cell_set sg_i64 sg_u64 alloc_cell alloc_frozen
attribute [local go_sem 10000] pt_eql pt_neq wal_eql wal_neq
attribute [local irreducible] rWalk

/-- Rows to which all came. -/
inductive AddsOk : List Wl → List Wl → Prop where
  | nil : AddsOk [] []
  | snoc {I S S' : List Wl} {x : Wl} : AddsOk I S → AddAt S x 0 S' → AddsOk (I ++ [x]) S'
def TwiceD (L : List Wl) : Prop := ∃ (i k : Nat) (hi : i < L.length) (hk : k < i), L[i].A = L[k].A ∧ L[i].B = L[k].B
/-- What NewWalls answers. -/
def NewAt (L : List Wl) (r : Int) (L' : List Wl) : Prop :=
  (L.any unm = true ∧ r = 2) ∨ (L.any unm = false ∧ ((TwiceD L ∧ r = 5) ∨ (¬ TwiceD L ∧ ((r = 0 ∧ AddsOk L L') ∨ (r ≠ 0 ∧ ∃ (k : Nat) (h : k < L.length) (S : List Wl), AddsOk (L.take k) S ∧ r = addDE S L[k])))))
theorem AddsOk.len {I S : List Wl} (h : AddsOk I S) : S.length = I.length := by
  induction h with
  | nil => rfl
  | snoc _ ha ih =>
    obtain ⟨_, ⟨h0, _⟩ | ⟨_, k, hp, rfl⟩⟩ := ha
    · exact absurd rfl h0
    · have := hp.1
      simp only [List.length_append, List.length_take, List.length_cons, List.length_drop, List.length_nil]
      omega
theorem AddsOk.sub {I S : List Wl} (h : AddsOk I S) : ∀ x ∈ S, x ∈ I := by
  induction h with
  | nil => exact fun x h => h
  | snoc _ ha ih =>
    obtain ⟨_, ⟨h0, _⟩ | ⟨_, k, hp, rfl⟩⟩ := ha
    · exact absurd rfl h0
    · intro x hx
      rcases List.mem_append.1 hx with hx | hx
      · exact List.mem_append_left _ (ih x (List.mem_of_mem_take hx))
      · rcases List.mem_cons.1 hx with rfl | hx
        · exact List.mem_append_right _ List.mem_cons_self
        · exact List.mem_append_left _ (ih x (List.mem_of_mem_drop hx))
def NewPost (L : List Wl) (w : World) (e : Ending) (w' : World) : Prop :=
  ∃ r L', NewAt L r L' ∧ Below w.heap.size w w' ∧ ((r ≠ 0 ∧ e = .returned (.tuple #[.pointer none, .int .i64 r])) ∨ (r = 0 ∧ ∃ db v, e = .returned (.tuple #[.pointer (some ⟨db, 0, none⟩), .int .i64 0]) ∧ DocAt w' db v L' ∧ w.heap.size ≤ db ∧ ∀ g, v.ownBlock = some g → w.heap.size ≤ g))
set_option maxRecDepth 100000 in
set_option maxHeartbeats 4000000 in
theorem rnew_any (a : Option Addr) (c n : Nat) (L : List Wl) (hn : L.length = n) (hle : n ≤ 999999) (w : World) (Hr : RowAt cW 5 w a L) :
    Calls Try.prog 9 #[.slice a n c] w (NewPost L w) := by
  have HM := Lib.hid hn
  have HR := Lib.hid Hr
  clear hn Hr
  go_enter Try.func9, Try.ntmps9
  go_wp2_with fail
  refine at_world fun W1 hW => ?_
  have BS : Box W1 w.heap.size [.slice none 0 0] 49 := by rw [hW]; exact Box.new rfl
  have hw : Below w.heap.size w W1 := by rw [hW]; go_grown
  clear hW
  go_loopw [5] (fun vi wr => ∃ k : Nat, k ≤ n ∧ vi = .int .i64 k ∧ Hid (∀ (j : Nat) (h : j < L.length), j < k → unm L[j] = false) ∧ Below w.heap.size w wr ∧ Box wr w.heap.size [.slice none 0 0] 49) (fun vi _ => n - (intOf vi).toNat)
  case atStart => exact ⟨0, Nat.zero_le _, rfl, Lib.hid (fun j h hj => by omega), hw, BS⟩
  case round =>
    clear BS hw
    obtain ⟨k, hk, rfl, HA, hwr, BS⟩ := hrel
    by_cases hkn : k < n
    · have hkL : k < L.length := by rw [HM.out]; exact hkn
      obtain ⟨aj, A, ea, eA, hA5⟩ := (HR.out.ext hwr rfl).five (j := k) hkL
      have HY : Hid (L[k] = L[k]) := Lib.hid rfl
      generalize hY : L[k] = X at hA5 HY
      clear HY
      have HY := Lib.hid hY
      clear hY
      obtain ⟨s0, s1, s2, s3, s4⟩ := hA5.cells
      have cm := rmw_any X.A X.B X.K
      have HU : Hid (unm X = (!mkOk X.A X.B X.K || !weqI (mkW X.A X.B X.K).A.x (mkW X.A X.B X.K).A.y (mkW X.A X.B X.K).B.x (mkW X.A X.B X.K).B.y (mkW X.A X.B X.K).K X.A.x X.A.y X.B.x X.B.y X.K)) := Lib.hid (by rw [weqI_dec]; rfl)
      generalize mkW X.A X.B X.K = V at cm HU
      generalize hmk : mkOk X.A X.B X.K = b at cm HU
      clear hmk
      have q3 : (k : Int) < (n : Int) := by omega
      have q4 : (0 : Int) ≤ (k : Int) := by omega
      subst ea
      have HA5 := Lib.hid hA5
      clear hA5
      go_wp2_with fail
      have hcB : ∀ w', (∃ p : Regrown, w' = grow (redrawn wr p.d) p.os) → Below wr.heap.size wr w' := fun w' h => by obtain ⟨p, rfl⟩ := h; exact below_regrown _ _ _
      refine FT.wp_region_flow 21 (.run 0 (.run 1 (.run 2 (.run 3 (.run 4 (.run 5 (.run 6 (.run 7 (.run 8 (.run 9 (.run 10 (.run 11 (.run 12 (.run 13 (.run 14 (.alt 15 (.run 16 (.run 17 (.run 18 (.alt 19 (.alt 20 (.tail) .stop) .stop)))) (.alt 19 (.alt 15 (.run 16 (.run 17 (.run 18 (.alt 20 (.tail) .stop)))) .stop) .stop))))))))))))))))) rfl (by kernel_rfl) (fun _ x _ _ _ h => by cases x <;> exact h) (C := fun w' => ∃ p : Regrown, w' = grow (redrawn wr p.d) p.os) (fun _ h => regrown_of_below h) hcB ?_
      have hC : ∀ x y, Ext x y → (∃ p : Regrown, x = grow (redrawn wr p.d) p.os) → (∃ p : Regrown, y = grow (redrawn wr p.d) p.os) := fun x y h1 h2 => regrown_of_below ((hcB x h2).trans (h1.mono (hcB x h2).size))
      iterate 15 (refine FT.flow_run rfl (fun K hK => ?_); go_simp; first | (refine hK _ ?_; clear hK K) | (apply Exists.intro; refine ⟨fun _ => ?_, hK _ ?_⟩; rotate_left; clear hK K))
      refine FT.flow_at hC rfl ?y19 (fun w1 hw1 K hK => ?y15)
      case y15 =>
        go_simp
        refine (cm w1).mono ?_
        rintro e w2 ⟨rfl, hb2⟩
        have hb3 := Below.trans hw1 (hb2.mono (Below.size hw1))
        go_simp
        refine hK _ _ (regrown_of_below hb3) ?_
        clear hK K
        iterate 3 (refine FT.flow_run rfl (fun K hK => ?_); go_simp; first | (refine hK _ ?_; clear hK K) | (apply Exists.intro; refine ⟨fun _ => ?_, hK _ ?_⟩; rotate_left; clear hK K))
        refine FT.flow_at hC rfl trivial (fun w4 hw4 K hK => ?_)
        go_simp
        have hb4 := hb3.trans (hw4.mono hb3.size)
        have hb5 := hb4.alloc hb4.size (.cells #[.int .i64 0, .int .i64 0, .int .i64 0, .int .i64 0, .int .i64 0] 35)
        obtain ⟨bv, hbv0⟩ : ∃ bv, w4.heap.size = bv := ⟨_, rfl⟩
        have hbv : wr.heap.size ≤ bv := by rw [← hbv0]; exact hb4.size
        have BV0 : Box (w4.alloc (.cells #[.int .i64 0, .int .i64 0, .int .i64 0, .int .i64 0, .int .i64 0] 35)) bv [.int .i64 0, .int .i64 0, .int .i64 0, .int .i64 0, .int .i64 0] 35 := by rw [← hbv0]; exact Box.new rfl
        refine hK _ _ (regrown_of_below hb5) ?_
        clear hK K
        rw [hbv0]
        clear hbv0
        refine FT.flow_at hC rfl trivial (fun w6 hw6 K hK => ?_)
        have hb6 := hb5.trans (hw6.mono hb5.size)
        have BV6 := BV0.ext hw6 rfl
        obtain ⟨v0, v1, v2, v3⟩ := BV6.facts
        go_simp
        have HB7 : Below wr.heap.size wr (((((w6.setCell ⟨bv, 0, none⟩ (.int .i64 V.A.x)).setCell ⟨bv, 1, none⟩ (.int .i64 V.A.y)).setCell ⟨bv, 2, none⟩ (.int .i64 V.B.x)).setCell ⟨bv, 3, none⟩ (.int .i64 V.B.y)).setCell ⟨bv, 4, none⟩ (.int .i64 V.K)) := by have hl := hb6.size; go_grown
        have BV7 : Box (((((w6.setCell ⟨bv, 0, none⟩ (.int .i64 V.A.x)).setCell ⟨bv, 1, none⟩ (.int .i64 V.A.y)).setCell ⟨bv, 2, none⟩ (.int .i64 V.B.x)).setCell ⟨bv, 3, none⟩ (.int .i64 V.B.y)).setCell ⟨bv, 4, none⟩ (.int .i64 V.K)) bv [.int .i64 V.A.x, .int .i64 V.A.y, .int .i64 V.B.x, .int .i64 V.B.y, .int .i64 V.K] 35 := (((((BV6.set 0 (.int .i64 V.A.x)).set 1 (.int .i64 V.A.y)).set 2 (.int .i64 V.B.x)).set 3 (.int .i64 V.B.y)).set 4 (.int .i64 V.K))
        refine hK _ _ (regrown_of_below HB7) ?_
        clear hK K v0 v1 v2 v3
        generalize (((((w6.setCell ⟨bv, 0, none⟩ (.int .i64 V.A.x)).setCell ⟨bv, 1, none⟩ (.int .i64 V.A.y)).setCell ⟨bv, 2, none⟩ (.int .i64 V.B.x)).setCell ⟨bv, 3, none⟩ (.int .i64 V.B.y)).setCell ⟨bv, 4, none⟩ (.int .i64 V.K)) = w7 at *
        intro wz hwz
        have hbz := HB7.trans (hwz.mono HB7.size)
        have BVz := BV7.ext hwz rfl
        clear HB7 BV7 hwz BV6
        replace BS := BS.ext hbz rfl
        replace hwr := hwr.trans (hbz.mono hwr.size)
        have hA5 := HA5.out.ext hbz rfl
        simp only [List.drop_succ_cons, List.drop_zero]
        obtain ⟨v0, v1, v2, v3⟩ := BVz.facts
        clear s0 s1 s2 s3 s4 hbz hcB hC cm
        cases b with
        | false =>
          have HE : Hid (unm X = true) := Lib.hid (by rw [HU.out]; rfl)
          go_wp2_with fail
          obtain ⟨s0, s1, s2, s3, s4⟩ := hA5.cells
          have gV := BVz.cells
          clear v0 v1 v2 v3 hA5
          refine (wp_region_tail 9 (by kernel_rfl) (by kernel_rfl) (C := fun w' => ∃ p : Regrown, w' = grow (redrawn wz p.d) p.os) (fun w' h => regrown_of_below h) ?_)
          simp only [List.take_succ_cons, List.take_zero, List.drop_succ_cons, List.drop_zero]
          repeat (first | (refine rWalk_skip (Eq.refl false) ?_; simp only [Act.put, List.setIfInBounds_toArray, List.set_cons_succ, List.set_cons_zero]) | (refine rWalk_step (fun K hK => ?_); go_simp; first | (refine hK _ ?_; clear hK K) | (apply Exists.intro; refine ⟨fun _ => ?_, hK _ ?_⟩; (first | fail); clear hK K)))
          refine rWalk_nil ?_
          intro w9 hb9
          have HP := Lib.hid (hwr.trans (hb9.mono hwr.size))
          have HBS := Lib.hid (BS.ext hb9 rfl)
          clear hwr BS hb9 gV s0 s1 s2 s3 s4 BVz
          have HN : Hid (NewAt L 2 []) := Lib.hid (.inl ⟨List.any_eq_true.2 ⟨_, List.getElem_mem hkL, by rw [HY.out]; exact HE.out⟩, rfl⟩)
          clear HBS
          go_wp2
          go_ret2
          exact ⟨2, [], HN.out, HP.out, .inl ⟨by decide, rfl⟩⟩
        | true =>
          cases eq : weqI V.A.x V.A.y V.B.x V.B.y V.K X.A.x X.A.y X.B.x X.B.y X.K with
          | false =>
            have HE : Hid (unm X = true) := Lib.hid (by rw [HU.out, eq]; rfl)
            go_wp2_with fail
            obtain ⟨s0, s1, s2, s3, s4⟩ := hA5.cells
            have gV := BVz.cells
            clear v0 v1 v2 v3 hA5
            refine (wp_region_tail 9 (by kernel_rfl) (by kernel_rfl) (C := fun w' => ∃ p : Regrown, w' = grow (redrawn wz p.d) p.os) (fun w' h => regrown_of_below h) ?_)
            simp only [List.take_succ_cons, List.take_zero, List.drop_succ_cons, List.drop_zero]
            repeat (first | (refine rWalk_skip (Eq.refl false) ?_; simp only [Act.put, List.setIfInBounds_toArray, List.set_cons_succ, List.set_cons_zero]) | (refine rWalk_step (fun K hK => ?_); go_simp; first | (refine hK _ ?_; clear hK K) | (apply Exists.intro; refine ⟨fun _ => ?_, hK _ ?_⟩; (first | fail); clear hK K)))
            refine rWalk_nil ?_
            intro w9 hb9
            have HP := Lib.hid (hwr.trans (hb9.mono hwr.size))
            have HBS := Lib.hid (BS.ext hb9 rfl)
            clear hwr BS hb9 gV s0 s1 s2 s3 s4 BVz
            have HN : Hid (NewAt L 2 []) := Lib.hid (.inl ⟨List.any_eq_true.2 ⟨_, List.getElem_mem hkL, by rw [HY.out]; exact HE.out⟩, rfl⟩)
            clear HBS
            go_wp2
            go_ret2
            exact ⟨2, [], HN.out, HP.out, .inl ⟨by decide, rfl⟩⟩
          | true =>
            have HE : Hid (unm X = false) := Lib.hid (by rw [HU.out, eq]; rfl)
            go_wp2_with fail
            obtain ⟨s0, s1, s2, s3, s4⟩ := hA5.cells
            have gV := BVz.cells
            clear v0 v1 v2 v3 hA5
            refine (wp_region_tail 9 (by kernel_rfl) (by kernel_rfl) (C := fun w' => ∃ p : Regrown, w' = grow (redrawn wz p.d) p.os) (fun w' h => regrown_of_below h) ?_)
            simp only [List.take_succ_cons, List.take_zero, List.drop_succ_cons, List.drop_zero]
            repeat (first | (refine rWalk_skip (Eq.refl false) ?_; simp only [Act.put, List.setIfInBounds_toArray, List.set_cons_succ, List.set_cons_zero]) | (refine rWalk_step (fun K hK => ?_); go_simp; first | (refine hK _ ?_; clear hK K) | (apply Exists.intro; refine ⟨fun _ => ?_, hK _ ?_⟩; (first | fail); clear hK K)))
            refine rWalk_nil ?_
            intro w9 hb9
            have HP := Lib.hid (hwr.trans (hb9.mono hwr.size))
            have HBS := Lib.hid (BS.ext hb9 rfl)
            clear hwr BS hb9 gV s0 s1 s2 s3 s4 BVz
            have HA2 : Hid (∀ (j : Nat) (h : j < L.length), j < k + 1 → unm L[j] = false) := Lib.hid (fun j h hj => by
              by_cases e : j = k
              · subst e; rw [HY.out]; exact HE.out
              · exact HA.out j h (by omega))
            clear HA HE HU HY
            go_wp2
            go_roundw
            case rel => exact ⟨k + 1, hkn, by go_num, HA2, HP.out, HBS.out⟩
            case measure => simp [intOf]; omega
      case y19 =>
        refine FT.flow_at hC rfl trivial (fun w4 hw4 K hK => ?_)
        go_simp
        have hb5 : Below wr.heap.size wr (w4.alloc (.cells #[.int .i64 0, .int .i64 0, .int .i64 0, .int .i64 0, .int .i64 0] 35)) := Below.alloc hw4 (Below.size hw4) (.cells #[.int .i64 0, .int .i64 0, .int .i64 0, .int .i64 0, .int .i64 0] 35)
        obtain ⟨bv, hbv0⟩ : ∃ bv, w4.heap.size = bv := ⟨_, rfl⟩
        have hbv : wr.heap.size ≤ bv := by rw [← hbv0]; exact Below.size hw4
        have BV0 : Box (w4.alloc (.cells #[.int .i64 0, .int .i64 0, .int .i64 0, .int .i64 0, .int .i64 0] 35)) bv [.int .i64 0, .int .i64 0, .int .i64 0, .int .i64 0, .int .i64 0] 35 := by rw [← hbv0]; exact Box.new rfl
        refine hK _ _ (regrown_of_below hb5) ?_
        clear hK K
        rw [hbv0]
        clear hbv0
        refine FT.flow_at hC rfl trivial (fun w1 hw1 K hK => ?_)
        go_simp
        refine (cm w1).mono ?_
        rintro e w2 ⟨rfl, hb2⟩
        have hb1 := hb5.trans (Below.mono hw1 hb5.size)
        have hb3 := hb1.trans (hb2.mono hb1.size)
        have BV3 := (BV0.ext hw1 rfl).ext hb2 rfl
        go_simp
        refine hK _ _ (regrown_of_below hb3) ?_
        clear hK K
        iterate 3 (refine FT.flow_run rfl (fun K hK => ?_); go_simp; first | (refine hK _ ?_; clear hK K) | (apply Exists.intro; refine ⟨fun _ => ?_, hK _ ?_⟩; rotate_left; clear hK K))
        refine FT.flow_at hC rfl trivial (fun w6 hw6 K hK => ?_)
        have hb6 := hb3.trans (hw6.mono hb3.size)
        have BV6 := BV3.ext hw6 rfl
        obtain ⟨v0, v1, v2, v3⟩ := BV6.facts
        go_simp
        have HB7 : Below wr.heap.size wr (((((w6.setCell ⟨bv, 0, none⟩ (.int .i64 V.A.x)).setCell ⟨bv, 1, none⟩ (.int .i64 V.A.y)).setCell ⟨bv, 2, none⟩ (.int .i64 V.B.x)).setCell ⟨bv, 3, none⟩ (.int .i64 V.B.y)).setCell ⟨bv, 4, none⟩ (.int .i64 V.K)) := by have hl := hb6.size; go_grown
        have BV7 : Box (((((w6.setCell ⟨bv, 0, none⟩ (.int .i64 V.A.x)).setCell ⟨bv, 1, none⟩ (.int .i64 V.A.y)).setCell ⟨bv, 2, none⟩ (.int .i64 V.B.x)).setCell ⟨bv, 3, none⟩ (.int .i64 V.B.y)).setCell ⟨bv, 4, none⟩ (.int .i64 V.K)) bv [.int .i64 V.A.x, .int .i64 V.A.y, .int .i64 V.B.x, .int .i64 V.B.y, .int .i64 V.K] 35 := (((((BV6.set 0 (.int .i64 V.A.x)).set 1 (.int .i64 V.A.y)).set 2 (.int .i64 V.B.x)).set 3 (.int .i64 V.B.y)).set 4 (.int .i64 V.K))
        refine hK _ _ (regrown_of_below HB7) ?_
        clear hK K v0 v1 v2 v3
        generalize (((((w6.setCell ⟨bv, 0, none⟩ (.int .i64 V.A.x)).setCell ⟨bv, 1, none⟩ (.int .i64 V.A.y)).setCell ⟨bv, 2, none⟩ (.int .i64 V.B.x)).setCell ⟨bv, 3, none⟩ (.int .i64 V.B.y)).setCell ⟨bv, 4, none⟩ (.int .i64 V.K)) = w7 at *
        intro wz hwz
        have hbz := HB7.trans (hwz.mono HB7.size)
        have BVz := BV7.ext hwz rfl
        clear HB7 BV7 hwz BV6
        replace BS := BS.ext hbz rfl
        replace hwr := hwr.trans (hbz.mono hwr.size)
        have hA5 := HA5.out.ext hbz rfl
        simp only [List.drop_succ_cons, List.drop_zero]
        obtain ⟨v0, v1, v2, v3⟩ := BVz.facts
        clear s0 s1 s2 s3 s4 hbz hcB hC cm
        cases b with
        | false =>
          have HE : Hid (unm X = true) := Lib.hid (by rw [HU.out]; rfl)
          go_wp2_with fail
          obtain ⟨s0, s1, s2, s3, s4⟩ := hA5.cells
          have gV := BVz.cells
          clear v0 v1 v2 v3 hA5
          refine (wp_region_tail 9 (by kernel_rfl) (by kernel_rfl) (C := fun w' => ∃ p : Regrown, w' = grow (redrawn wz p.d) p.os) (fun w' h => regrown_of_below h) ?_)
          simp only [List.take_succ_cons, List.take_zero, List.drop_succ_cons, List.drop_zero]
          repeat (first | (refine rWalk_skip (Eq.refl false) ?_; simp only [Act.put, List.setIfInBounds_toArray, List.set_cons_succ, List.set_cons_zero]) | (refine rWalk_step (fun K hK => ?_); go_simp; first | (refine hK _ ?_; clear hK K) | (apply Exists.intro; refine ⟨fun _ => ?_, hK _ ?_⟩; (first | fail); clear hK K)))
          refine rWalk_nil ?_
          intro w9 hb9
          have HP := Lib.hid (hwr.trans (hb9.mono hwr.size))
          have HBS := Lib.hid (BS.ext hb9 rfl)
          clear hwr BS hb9 gV s0 s1 s2 s3 s4 BVz
          have HN : Hid (NewAt L 2 []) := Lib.hid (.inl ⟨List.any_eq_true.2 ⟨_, List.getElem_mem hkL, by rw [HY.out]; exact HE.out⟩, rfl⟩)
          clear HBS
          go_wp2
          go_ret2
          exact ⟨2, [], HN.out, HP.out, .inl ⟨by decide, rfl⟩⟩
        | true =>
          cases eq : weqI V.A.x V.A.y V.B.x V.B.y V.K X.A.x X.A.y X.B.x X.B.y X.K with
          | false =>
            have HE : Hid (unm X = true) := Lib.hid (by rw [HU.out, eq]; rfl)
            go_wp2_with fail
            obtain ⟨s0, s1, s2, s3, s4⟩ := hA5.cells
            have gV := BVz.cells
            clear v0 v1 v2 v3 hA5
            refine (wp_region_tail 9 (by kernel_rfl) (by kernel_rfl) (C := fun w' => ∃ p : Regrown, w' = grow (redrawn wz p.d) p.os) (fun w' h => regrown_of_below h) ?_)
            simp only [List.take_succ_cons, List.take_zero, List.drop_succ_cons, List.drop_zero]
            repeat (first | (refine rWalk_skip (Eq.refl false) ?_; simp only [Act.put, List.setIfInBounds_toArray, List.set_cons_succ, List.set_cons_zero]) | (refine rWalk_step (fun K hK => ?_); go_simp; first | (refine hK _ ?_; clear hK K) | (apply Exists.intro; refine ⟨fun _ => ?_, hK _ ?_⟩; (first | fail); clear hK K)))
            refine rWalk_nil ?_
            intro w9 hb9
            have HP := Lib.hid (hwr.trans (hb9.mono hwr.size))
            have HBS := Lib.hid (BS.ext hb9 rfl)
            clear hwr BS hb9 gV s0 s1 s2 s3 s4 BVz
            have HN : Hid (NewAt L 2 []) := Lib.hid (.inl ⟨List.any_eq_true.2 ⟨_, List.getElem_mem hkL, by rw [HY.out]; exact HE.out⟩, rfl⟩)
            clear HBS
            go_wp2
            go_ret2
            exact ⟨2, [], HN.out, HP.out, .inl ⟨by decide, rfl⟩⟩
          | true =>
            have HE : Hid (unm X = false) := Lib.hid (by rw [HU.out, eq]; rfl)
            go_wp2_with fail
            obtain ⟨s0, s1, s2, s3, s4⟩ := hA5.cells
            have gV := BVz.cells
            clear v0 v1 v2 v3 hA5
            refine (wp_region_tail 9 (by kernel_rfl) (by kernel_rfl) (C := fun w' => ∃ p : Regrown, w' = grow (redrawn wz p.d) p.os) (fun w' h => regrown_of_below h) ?_)
            simp only [List.take_succ_cons, List.take_zero, List.drop_succ_cons, List.drop_zero]
            repeat (first | (refine rWalk_skip (Eq.refl false) ?_; simp only [Act.put, List.setIfInBounds_toArray, List.set_cons_succ, List.set_cons_zero]) | (refine rWalk_step (fun K hK => ?_); go_simp; first | (refine hK _ ?_; clear hK K) | (apply Exists.intro; refine ⟨fun _ => ?_, hK _ ?_⟩; (first | fail); clear hK K)))
            refine rWalk_nil ?_
            intro w9 hb9
            have HP := Lib.hid (hwr.trans (hb9.mono hwr.size))
            have HBS := Lib.hid (BS.ext hb9 rfl)
            clear hwr BS hb9 gV s0 s1 s2 s3 s4 BVz
            have HA2 : Hid (∀ (j : Nat) (h : j < L.length), j < k + 1 → unm L[j] = false) := Lib.hid (fun j h hj => by
              by_cases e : j = k
              · subst e; rw [HY.out]; exact HE.out
              · exact HA.out j h (by omega))
            clear HA HE HU HY
            go_wp2
            go_roundw
            case rel => exact ⟨k + 1, hkn, by go_num, HA2, HP.out, HBS.out⟩
            case measure => simp [intOf]; omega
    · obtain rfl : k = n := by omega
      have HU : Hid (∀ (j : Nat) (h : j < L.length), unm L[j] = false) := Lib.hid (fun j h => HA.out j h (by have := HM.out; omega))
      have HNU : Hid (L.any unm = false) := Lib.hid (by
        rw [List.any_eq_false]
        intro x hx
        obtain ⟨j, hj, rfl⟩ := List.mem_iff_getElem.1 hx
        rw [HU.out j hj]; simp)
      have HBS := Lib.hid BS
      have HQ := Lib.hid hwr
      clear HA BS hwr
      go_wp2_with fail
      go_loopw [8] (fun vi wr => ∃ i : Nat, i ≤ k ∧ vi = .int .i64 i ∧ Hid (∀ (x y : Nat) (hx : x < L.length) (hy : y < x), x < i → ¬ (L[x].A = L[y].A ∧ L[x].B = L[y].B)) ∧ Below w.heap.size w wr ∧ Box wr w.heap.size [.slice none 0 0] 49) (fun vi _ => k - (intOf vi).toNat)
      case atStart => exact ⟨0, Nat.zero_le _, rfl, Lib.hid (fun x y hx hy h => by omega), HQ.out, HBS.out⟩
      case round =>
        clear HBS HQ
        obtain ⟨i, hi, rfl, HT, hwr, BS⟩ := hrel
        by_cases hik : i < k
        · have q0 : (i : Int) < (k : Int) := by omega
          have HBS := Lib.hid BS
          have HQ := Lib.hid hwr
          clear BS hwr
          go_wp2_with fail
          go_loopw [9] (fun vj wr => ∃ j : Nat, j ≤ i ∧ vj = .int .i64 j ∧ Hid (∀ (y : Nat) (hx : i < L.length) (hy : y < i), y < j → ¬ (L[i].A = L[y].A ∧ L[i].B = L[y].B)) ∧ Below w.heap.size w wr ∧ Box wr w.heap.size [.slice none 0 0] 49) (fun vj _ => i - (intOf vj).toNat)
          case atStart => exact ⟨0, Nat.zero_le _, rfl, Lib.hid (fun y hx hy h => by omega), HQ.out, HBS.out⟩
          case round =>
            clear HBS HQ
            obtain ⟨j, hj, rfl, HJ, hwr, BS⟩ := hrel
            by_cases hji : j < i
            · have hiL : i < L.length := by rw [HM.out]; exact hik
              have hjL : j < L.length := by omega
              obtain ⟨aj, A, ea, eA, hA5⟩ := (HR.out.ext hwr rfl).five (j := i) hiL
              obtain ⟨aj2, A2, ea2, eA2, hB5⟩ := (HR.out.ext hwr rfl).five (j := j) hjL
              have HX : Hid (L[i] = L[i]) := Lib.hid rfl
              generalize hX : L[i] = X at hA5 HX
              clear HX
              have HX := Lib.hid hX
              clear hX
              have HY : Hid (L[j] = L[j]) := Lib.hid rfl
              generalize hY : L[j] = Y at hB5 HY
              clear HY
              have HY := Lib.hid hY
              clear hY
              subst ea
              simp only [Option.some.injEq] at ea2
              subst ea2
              obtain ⟨s0, s1, s2, s3, s4⟩ := hA5.cells
              obtain ⟨r0, r1, r2, r3, r4⟩ := hB5.cells
              have q1 : (j : Int) < (k : Int) := by omega
              have q2 : (j : Int) < (i : Int) := by omega
              have q3 : j < k := by omega
              clear hA5 hB5
              have HBS := Lib.hid BS
              have HQ := Lib.hid hwr
              cases e1 : peqI X.A.x X.A.y Y.A.x Y.A.y with
              | false =>
                have HE : Hid (¬ (X.A = Y.A ∧ X.B = Y.B)) := Lib.hid (fun h => by rw [peqI_dec] at e1; simp [h.1] at e1)
                have HJ2 : Hid (∀ (y : Nat) (hx : i < L.length) (hy : y < i), y < j + 1 → ¬ (L[i].A = L[y].A ∧ L[i].B = L[y].B)) := Lib.hid (fun y hx hy h => by
                  by_cases e : y = j
                  · subst e; rw [HX.out, HY.out]; exact HE.out
                  · exact HJ.out y hx hy (by omega))
                clear HX HY HJ HE BS hwr
                go_wp2_with fail
                refine (wp_region_tail 23 (by kernel_rfl) (by kernel_rfl) (C := fun w' => ∃ p : Regrown, w' = grow (redrawn wr p.d) p.os) (fun w' h => regrown_of_below h) ?_)
                simp only [List.take_succ_cons, List.take_zero, List.drop_succ_cons, List.drop_zero]
                repeat (first | (refine rWalk_skip (Eq.refl false) ?_; simp only [Act.put, List.setIfInBounds_toArray, List.set_cons_succ, List.set_cons_zero]) | (refine rWalk_step (fun K hK => ?_); go_simp; first | (refine hK _ ?_; clear hK K) | (apply Exists.intro; refine ⟨fun _ => ?_, hK _ ?_⟩; (first | fail); clear hK K)))
                refine rWalk_nil ?_
                intro w9 hb9
                have HP := Lib.hid (HQ.out.trans (hb9.mono HQ.out.size))
                have HB2 := Lib.hid (HBS.out.ext hb9 rfl)
                clear s0 s1 s2 s3 s4 r0 r1 r2 r3 r4 hb9 HQ HBS
                go_wp2
                go_roundw
                case rel => exact ⟨j + 1, hji, by go_num, HJ2, HP.out, HB2.out⟩
                case measure => simp [intOf]; omega
              | true =>
                cases e2 : peqI X.B.x X.B.y Y.B.x Y.B.y with
                | false =>
                  have HE : Hid (¬ (X.A = Y.A ∧ X.B = Y.B)) := Lib.hid (fun h => by rw [peqI_dec] at e2; simp [h.2] at e2)
                  have HJ2 : Hid (∀ (y : Nat) (hx : i < L.length) (hy : y < i), y < j + 1 → ¬ (L[i].A = L[y].A ∧ L[i].B = L[y].B)) := Lib.hid (fun y hx hy h => by
                    by_cases e : y = j
                    · subst e; rw [HX.out, HY.out]; exact HE.out
                    · exact HJ.out y hx hy (by omega))
                  clear HX HY HJ HE BS hwr
                  go_wp2_with fail
                  refine (wp_region_tail 23 (by kernel_rfl) (by kernel_rfl) (C := fun w' => ∃ p : Regrown, w' = grow (redrawn wr p.d) p.os) (fun w' h => regrown_of_below h) ?_)
                  simp only [List.take_succ_cons, List.take_zero, List.drop_succ_cons, List.drop_zero]
                  repeat (first | (refine rWalk_skip (Eq.refl false) ?_; simp only [Act.put, List.setIfInBounds_toArray, List.set_cons_succ, List.set_cons_zero]) | (refine rWalk_step (fun K hK => ?_); go_simp; first | (refine hK _ ?_; clear hK K) | (apply Exists.intro; refine ⟨fun _ => ?_, hK _ ?_⟩; (first | fail); clear hK K)))
                  refine rWalk_nil ?_
                  intro w9 hb9
                  have HP := Lib.hid (HQ.out.trans (hb9.mono HQ.out.size))
                  have HB2 := Lib.hid (HBS.out.ext hb9 rfl)
                  clear s0 s1 s2 s3 s4 r0 r1 r2 r3 r4 hb9 HQ HBS
                  go_wp2
                  go_roundw
                  case rel => exact ⟨j + 1, hji, by go_num, HJ2, HP.out, HB2.out⟩
                  case measure => simp [intOf]; omega
                | true =>
                  have HN : Hid (NewAt L 5 []) := Lib.hid (.inr ⟨HNU.out, .inl ⟨⟨i, j, hiL, hji, by
                    rw [peqI_dec] at e1 e2
                    have h1 : X.A = Y.A := by simpa using e1
                    have h2 : X.B = Y.B := by simpa using e2
                    rw [HX.out, HY.out]; exact ⟨h1, h2⟩⟩, rfl⟩⟩)
                  clear HX HY HJ BS hwr
                  go_wp2_with fail
                  refine (wp_region_tail 23 (by kernel_rfl) (by kernel_rfl) (C := fun w' => ∃ p : Regrown, w' = grow (redrawn wr p.d) p.os) (fun w' h => regrown_of_below h) ?_)
                  simp only [List.take_succ_cons, List.take_zero, List.drop_succ_cons, List.drop_zero]
                  repeat (first | (refine rWalk_skip (Eq.refl false) ?_; simp only [Act.put, List.setIfInBounds_toArray, List.set_cons_succ, List.set_cons_zero]) | (refine rWalk_step (fun K hK => ?_); go_simp; first | (refine hK _ ?_; clear hK K) | (apply Exists.intro; refine ⟨fun _ => ?_, hK _ ?_⟩; (first | fail); clear hK K)))
                  refine rWalk_nil ?_
                  intro w9 hb9
                  have HP := Lib.hid (HQ.out.trans (hb9.mono HQ.out.size))
                  clear s0 s1 s2 s3 s4 r0 r1 r2 r3 r4 hb9 HQ HBS
                  go_wp2
                  go_ret2
                  exact ⟨5, [], HN.out, HP.out, .inl ⟨by decide, rfl⟩⟩
            · have hji2 : j = i := by omega
              have HT2 : Hid (∀ (x y : Nat) (hx : x < L.length) (hy : y < x), x < i + 1 → ¬ (L[x].A = L[y].A ∧ L[x].B = L[y].B)) := Lib.hid (fun x y hx hy h => by
                by_cases e : x = i
                · subst e; exact HJ.out y hx hy (by omega)
                · exact HT.out x y hx hy (by omega))
              have HBS := Lib.hid BS
              have HQ := Lib.hid hwr
              have q2 : ¬ (j : Int) < (i : Int) := by omega
              clear BS hwr HJ HT hji2
              go_wp2
              go_roundw
              case rel => exact ⟨i + 1, hik, by go_num, HT2, HQ.out, HBS.out⟩
              case measure => simp [intOf]; omega
        · obtain rfl : i = k := by omega
          have HNT : Hid (¬ TwiceD L) := Lib.hid (fun ⟨x, y, hx, hy, h⟩ => HT.out x y hx hy (by have := HM.out; omega) h)
          have HS0 : Hid (DocAt wr w.heap.size (.slice none 0 0) []) := Lib.hid ⟨BS, WRow.nil0 _ _, (by simp [Value.ownBlock]), Nat.zero_le _⟩
          have HQ := Lib.hid hwr
          clear BS hwr HT
          go_wp2_with fail
          go_loopw [10] (fun vi wr => ∃ (j : Nat) (v : Value) (S : List Wl), j ≤ i ∧ vi = .int .i64 j ∧ AddsOk (L.take j) S ∧ DocAt wr w.heap.size v S ∧ (∀ g, v.ownBlock = some g → w.heap.size ≤ g) ∧ Below w.heap.size w wr) (fun vi _ => i - (intOf vi).toNat)
          case atStart => exact ⟨0, _, [], Nat.zero_le _, rfl, AddsOk.nil, HS0.out, fun g e => by simp [Value.ownBlock] at e, HQ.out⟩
          case round =>
            clear HS0 HQ
            obtain ⟨j, v, S, hj, rfl, hads, hD, hge, hwr⟩ := hrel
            by_cases hji : j < i
            · have hjL : j < L.length := by rw [HM.out]; exact hji
              obtain ⟨aj, A, ea, eA, hA5⟩ := (HR.out.ext hwr rfl).five (j := j) hjL
              have HLS : Hid (S.length < 1000000) := Lib.hid (by rw [hads.len, List.length_take]; omega)
              have HKS : Hid (∀ x ∈ S, 0 ≤ x.K ∧ x.K ≤ 2) := Lib.hid (fun x hx => by
                have h1 := List.mem_of_mem_take (hads.sub x hx)
                obtain ⟨m, hm, rfl⟩ := List.mem_iff_getElem.1 h1
                have := (mkOk_good (HU.out m hm)).k
                omega)
              have HAD := Lib.hid hads
              have HD := Lib.hid hD
              have HGE := Lib.hid hge
              have HX : Hid (L[j] = L[j]) := Lib.hid rfl
              generalize hX : L[j] = X at hA5 HX
              clear HX
              have HX := Lib.hid hX
              clear hX hads hD hge
              subst ea
              obtain ⟨u0, u1, u2, u3, u4, u5⟩ := hA5.facts
              have q2 : (j : Int) < (i : Int) := by omega
              have HQ := Lib.hid hwr
              clear hA5 hwr
              go_wp2_with fail
              refine (radd_any w.heap.size v S X HLS.out HKS.out wr HD.out).mono ?_
              rintro e w2 ⟨r, v', S', rfl, ha, hD', hf, hg⟩
              have hw2 : Below w.heap.size w w2 := HQ.out.trans (hf.below (fun q e => by omega) HQ.out.size)
              have HGE2 : Hid (∀ g, v'.ownBlock = some g → w.heap.size ≤ g) := Lib.hid (fun g e => by
                rcases hg g e with h | h
                · exact HGE.out g h
                · exact Nat.le_trans HQ.out.size h)
              have HA2 := Lib.hid ha
              have HD2 := Lib.hid hD'
              have HW2 := Lib.hid hw2
              clear u0 u1 u2 u3 u4 u5 ha hD' hf hg hw2
              by_cases hr : r = 0
              · subst hr
                have HAD2 : Hid (AddsOk (L.take (j + 1)) S') := Lib.hid (by rw [List.take_succ_eq_append_getElem hjL, HX.out]; exact HAD.out.snoc HA2.out)
                clear HX
                go_wp2
                go_roundw
                case rel => exact ⟨j + 1, v', S', hji, by go_num, HAD2.out, HD2.out, HGE2.out, HW2.out⟩
                case measure => simp [intOf]; omega
              · have hr1 : (r != 0) = true := by simpa using hr
                have HN : Hid (NewAt L r []) := Lib.hid (.inr ⟨HNU.out, .inr ⟨HNT.out, .inr ⟨hr, j, hjL, S, HAD.out, by rw [HX.out]; exact HA2.out.1⟩⟩⟩)
                have HR0 := Lib.hid hr
                clear HX hr
                go_wp2
                go_ret2
                exact ⟨r, [], HN.out, HW2.out, .inl ⟨HR0.out, rfl⟩⟩
            · obtain rfl : j = i := by omega
              have HN : Hid (NewAt L 0 S) := Lib.hid (.inr ⟨HNU.out, .inr ⟨HNT.out, .inl ⟨rfl, by rw [List.take_of_length_le (by rw [HM.out]; exact Nat.le_refl _)] at hads; exact hads⟩⟩⟩)
              have HD := Lib.hid hD
              have HGE := Lib.hid hge
              have HQ := Lib.hid hwr
              clear hads hD hge hwr
              go_wp2
              go_ret2
              exact ⟨0, S, HN.out, HQ.out, .inr ⟨rfl, _, v, rfl, HD.out, Nat.le_refl _, HGE.out⟩⟩
end Go.Proofs.Ytnocdecimcpkfaa

namespace Go.Proofs.Ytnocdecimcpkfaa
open Go.RowKit Go.Sort
attribute [local go_sem] rOper rAt rUpon cell_set sg_i64 sg_u64 alloc_cell alloc_frozen
attribute [local go_sem 10000] pt_eql pt_neq wal_eql wal_neq
attribute [local irreducible] rWalk

def onD (p : Pt) (x : Wl) : Bool := !decide (p = x.A) && (!decide (p = x.B) && onR p x.A x.B)
theorem onD_eq (p : Pt) (x : Wl) : onD p x = (!peqI p.x p.y x.A.x x.A.y && (!peqI p.x p.y x.B.x x.B.y && onR p x.A x.B)) := by rw [peqI_dec, peqI_dec]; rfl
set_option maxHeartbeats 2000000 in
theorem ron_set_any (db : Nat) (a0 : Option Addr) (c n : Nat) (L : List Wl) (p : Pt) (w : World) (D : DocRd w db a0 c n L) :
    Calls Try.prog 15 #[.pointer (some ⟨db, 0, none⟩), .agg #[.int .i64 p.x, .int .i64 p.y]] w fun e w' => e = .returned (onV (L.find? (onD p))) ∧ Below w.heap.size w w' := by
  have hdb := D.box.lt
  have HM := Lib.hid D.len
  have hn : n ≤ 1000000 := D.len ▸ D.le
  have HD := Lib.hid D
  clear D
  go_enter Try.func15, Try.ntmps15
  go_wp2_with fail
  refine at_world fun W1 hW => ?_
  have BP : Box W1 w.heap.size [.int .i64 p.x, .int .i64 p.y] 33 := by rw [hW]; exact (Box.new rfl).old _
  have BR : Box W1 (w.heap.size + 1) [.int .i64 0, .int .i64 0, .int .i64 0, .int .i64 0, .int .i64 0] 35 := by rw [hW]; exact Box.new (by simp)
  have hw : Below w.heap.size w W1 := by rw [hW]; go_grown
  clear hW
  go_loopw [6] (fun vi wr => ∃ k : Nat, k ≤ n ∧ vi = .int .i64 k ∧ Hid ((L.take k).find? (onD p) = none) ∧ Below w.heap.size w wr ∧ Box wr w.heap.size [.int .i64 p.x, .int .i64 p.y] 33 ∧ Box wr (w.heap.size + 1) [.int .i64 0, .int .i64 0, .int .i64 0, .int .i64 0, .int .i64 0] 35) (fun vi _ => n - (intOf vi).toNat)
  case atStart => exact ⟨0, Nat.zero_le _, rfl, Lib.hid rfl, hw, BP, BR⟩
  case round =>
    clear BP BR hw
    obtain ⟨k, hk, rfl, HI, hwr, BP, BR⟩ := hrel
    have BD := (HD.out.ext hwr rfl).box
    by_cases hlt : k < n
    · have hkL : k < L.length := by rw [HM.out]; exact hlt
      obtain ⟨ad, A, ea, eA, hA⟩ := (HD.out.ext hwr rfl).row.five (j := k) hkL
      have HX : Hid (L[k] = L[k]) := Lib.hid rfl
      generalize hX : L[k] = X at hA HX
      clear HX
      have HX := Lib.hid hX
      clear hX
      obtain ⟨u0, u1, u2, u3, u4, u5⟩ := hA.facts
      obtain ⟨y0, y1, y2, y3⟩ := BP.facts
      obtain ⟨d0, d1, d2, d3⟩ := BD.facts
      obtain ⟨z0, z1, z2, z3⟩ := BR.facts
      subst ea
      have c1 := ron_any p X.A X.B
      cases e1 : peqI p.x p.y X.A.x X.A.y with
      | true =>
        have HE : Hid (onD p X = false) := Lib.hid (by rw [onD_eq, e1]; rfl)
        have HF : Hid ((L.take (k + 1)).find? (onD p) = none) := Lib.hid (find_next hkL HI.out (by rw [HX.out]; exact HE.out))
        clear HE HX HI
        have HP := Lib.hid BP
        have HR := Lib.hid BR
        clear BP BR BD
        go_wp2
        go_roundw
        case rel => exact ⟨k + 1, hlt, by go_num, HF, by have hl := hwr.size; go_grown, HP.out.old _, HR.out.old _⟩
        case measure => simp [intOf]; omega
      | false =>
        cases e2 : peqI p.x p.y X.B.x X.B.y with
        | true =>
          have HE : Hid (onD p X = false) := Lib.hid (by rw [onD_eq, e1, e2]; rfl)
          have HF : Hid ((L.take (k + 1)).find? (onD p) = none) := Lib.hid (find_next hkL HI.out (by rw [HX.out]; exact HE.out))
          clear HE HX HI
          have HP := Lib.hid BP
          have HR := Lib.hid BR
          clear BP BR BD
          go_wp2
          go_roundw
          case rel => exact ⟨k + 1, hlt, by go_num, HF, by have hl := hwr.size; go_grown, HP.out.old _, HR.out.old _⟩
          case measure => simp [intOf]; omega
        | false =>
          cases e4 : onR p X.A X.B with
          | false =>
            have HE : Hid (onD p X = false) := Lib.hid (by rw [onD_eq, e1, e2, e4]; rfl)
            rw [e4] at c1
            clear e4
            have HF : Hid ((L.take (k + 1)).find? (onD p) = none) := Lib.hid (find_next hkL HI.out (by rw [HX.out]; exact HE.out))
            clear HE HX HI
            have HP := Lib.hid BP
            have HR := Lib.hid BR
            have HW := Lib.hid hwr
            go_wp2_with fail
            refine at_call fun W2 hW => ?_
            have BP2 : Box W2 w.heap.size [.int .i64 p.x, .int .i64 p.y] 33 := by rw [hW]; exact HP.out.old _
            have BR2 : Box W2 (w.heap.size + 1) [.int .i64 0, .int .i64 0, .int .i64 0, .int .i64 0, .int .i64 0] 35 := by rw [hW]; exact HR.out.old _
            have BX2 : Box W2 wr.heap.size [.int .i64 X.A.x, .int .i64 X.A.y, .int .i64 X.B.x, .int .i64 X.B.y, .int .i64 X.K] 35 := by rw [hW]; exact Box.new rfl
            have hw2 : Below w.heap.size w W2 := by have hl := hwr.size; rw [hW]; go_grown
            clear hW BP BR hwr y0 y1 y2 y3 z0 z1 z2 z3 u0 u1 u2 u3 u4 u5 hA d0 d1 d2 d3 BD
            refine (c1 W2).mono ?_
            rintro e w3 ⟨rfl, hb⟩
            have l1 : w.heap.size + 1 < wr.heap.size := HR.out.lt
            replace BP2 := BP2.ext hb rfl
            replace BR2 := BR2.ext hb rfl
            replace BX2 := BX2.ext hb rfl
            replace hw2 := hw2.trans (hb.mono hw2.size)
            clear hb
            obtain ⟨y0, y1, y2, y3⟩ := BP2.facts
            obtain ⟨z0, z1, z2, z3⟩ := BR2.facts
            obtain ⟨u0, u1, u2, u3⟩ := BX2.facts
            go_wp2
            go_roundw
            case rel => exact ⟨k + 1, hlt, by go_num, HF, hw2, BP2, BR2⟩
            case measure => simp [intOf]; omega
          | true =>
            have HE : Hid (onD p X = true) := Lib.hid (by rw [onD_eq, e1, e2, e4]; rfl)
            rw [e4] at c1
            clear e4
            have HP := Lib.hid BP
            have HR := Lib.hid BR
            have HW := Lib.hid hwr
            go_wp2_with fail
            refine at_call fun W2 hW => ?_
            have BP2 : Box W2 w.heap.size [.int .i64 p.x, .int .i64 p.y] 33 := by rw [hW]; exact HP.out.old _
            have BR2 : Box W2 (w.heap.size + 1) [.int .i64 0, .int .i64 0, .int .i64 0, .int .i64 0, .int .i64 0] 35 := by rw [hW]; exact HR.out.old _
            have BX2 : Box W2 wr.heap.size [.int .i64 X.A.x, .int .i64 X.A.y, .int .i64 X.B.x, .int .i64 X.B.y, .int .i64 X.K] 35 := by rw [hW]; exact Box.new rfl
            have hw2 : Below w.heap.size w W2 := by have hl := hwr.size; rw [hW]; go_grown
            clear hW BP BR hwr y0 y1 y2 y3 z0 z1 z2 z3 u0 u1 u2 u3 u4 u5 hA d0 d1 d2 d3 BD
            refine (c1 W2).mono ?_
            rintro e w3 ⟨rfl, hb⟩
            have l1 : w.heap.size + 1 < wr.heap.size := HR.out.lt
            replace BP2 := BP2.ext hb rfl
            replace BR2 := BR2.ext hb rfl
            replace BX2 := BX2.ext hb rfl
            replace hw2 := hw2.trans (hb.mono hw2.size)
            clear hb
            obtain ⟨y0, y1, y2, y3⟩ := BP2.facts
            obtain ⟨z0, z1, z2, z3⟩ := BR2.facts
            obtain ⟨u0, u1, u2, u3⟩ := BX2.facts
            have HF : Hid (L.find? (onD p) = some X) := Lib.hid (by rw [← HX.out]; exact find_at hkL HI.out (by rw [HX.out]; exact HE.out))
            clear HE HX HI
            go_wp2_with fail
            refine bodyPost_ret (v := .tuple #[.agg #[.int .i64 X.A.x, .int .i64 X.A.y, .int .i64 X.B.x, .int .i64 X.B.y, .int .i64 X.K], .bool true]) (by simp [results, Try.results15, go_sem, z0]) rfl ⟨?_, by have hl := hw2.size; go_grown⟩
            rw [HF.out]
            rfl
    · obtain rfl : k = n := by omega
      have HF : Hid (L.find? (onD p) = none) := Lib.hid (find_all (by rw [HM.out]; exact HI.out))
      clear HI
      obtain ⟨z0, z1, z2, z3⟩ := BR.facts
      obtain ⟨d0, d1, d2, d3⟩ := BD.facts
      go_wp2_with fail
      refine bodyPost_ret (v := .tuple #[.agg #[.int .i64 0, .int .i64 0, .int .i64 0, .int .i64 0, .int .i64 0], .bool false]) (by simp [results, Try.results15, go_sem, z0]) rfl ⟨?_, by have hl := hwr.size; go_grown⟩
      rw [HF.out]; rfl
set_option maxHeartbeats 2000000 in
theorem rends_any (db : Nat) (a0 : Option Addr) (c n : Nat) (L : List Wl) (p : Pt) (w : World) (D : DocRd w db a0 c n L) :
    Calls Try.prog 24 #[.pointer (some ⟨db, 0, none⟩), .agg #[.int .i64 p.x, .int .i64 p.y]] w fun e w' => ∃ v', e = .returned v' ∧ WRow w' w.heap.size v' (L.filter (endW p)) ∧ Below w.heap.size w w' := by
  have hdb := D.box.lt
  have HM := Lib.hid D.len
  have hn : n ≤ 1000000 := D.len ▸ D.le
  have HD := Lib.hid D
  clear D
  go_enter Try.func24, Try.ntmps24
  go_wp2_with fail
  refine at_world fun W1 hW => ?_
  have BP : Box W1 w.heap.size [.int .i64 p.x, .int .i64 p.y] 33 := by rw [hW]; exact Box.new rfl
  have hw : Below w.heap.size w W1 := by rw [hW]; go_grown
  clear hW
  go_loopw [5, 6] (fun vl vi wr => ∃ k : Nat, k ≤ n ∧ vi = .int .i64 k ∧ WRow wr (w.heap.size + 1) vl ((L.take k).filter (endW p)) ∧ Below w.heap.size w wr ∧ Box wr w.heap.size [.int .i64 p.x, .int .i64 p.y] 33) (fun _ vi _ => n - (intOf vi).toNat)
  case atStart => exact ⟨0, Nat.zero_le _, rfl, WRow.nil0 _ _, hw, BP⟩
  case round =>
    clear BP hw
    obtain ⟨k, hk, rfl, hown, hwr, BP⟩ := hrel
    have BD := (HD.out.ext hwr rfl).box
    by_cases hlt : k < n
    · have hkL : k < L.length := by rw [HM.out]; exact hlt
      obtain ⟨ad, A, ea, eA, hA⟩ := (HD.out.ext hwr rfl).row.five (j := k) hkL
      have HX : Hid (L[k] = L[k]) := Lib.hid rfl
      generalize hX : L[k] = X at hA HX
      clear HX
      have HX := Lib.hid hX
      clear hX
      obtain ⟨u0, u1, u2, u3, u4, u5⟩ := hA.facts
      obtain ⟨y0, y1, y2, y3⟩ := BP.facts
      obtain ⟨d0, d1, d2, d3⟩ := BD.facts
      have hle : ((L.take k).filter (endW p)).length ≤ 1000000 := Nat.le_trans (List.length_filter_le _ _) (by rw [List.length_take]; omega)
      subst ea
      cases e1 : peqI X.A.x X.A.y p.x p.y with
      | true =>
        have HE : Hid (endW p X = true) := Lib.hid (by rw [endW_eq, e1]; rfl)
        have HF := Lib.hid (show (L.take (k + 1)).filter (endW p) = (L.take k).filter (endW p) ++ [X] by rw [List.take_succ_eq_append_getElem hkL, HX.out, List.filter_append, List.filter_cons_of_pos HE.out]; rfl)
        have HO := Lib.hid hwr
        have HB := Lib.hid (show w.heap.size + 1 ≤ wr.heap.size from BP.lt)
        have hlt0 := fun q hq => (hown.lt q hq).1
        have HN := Lib.hid hown.ne
        have HP := Lib.hid BP
        have e3 := cW_ex X
        clear HE HX BP hwr BD
        go_wp2
        go_quiet (fail)
        go_wp2_with (at_builtin; refine append_wl rfl _ _ rfl (w.heap.size + 1) _ ((L.take k).filter (endW p)) rfl (hown.drew.alloc _) wr.heap.size X rfl (Box.new (by simp)) hle (by have := HB.out; simp; omega) ?_; intro w4 v4 hown4 hg4 hn4)
        have hbd : Below wr.heap.size wr (wr.drewN nq) := ⟨rfl, rfl, rfl, Nat.le_refl _, fun _ _ => rfl⟩
        have BP4 := ((HP.out.ext hbd rfl).old _).grownBy hg4 (fun e => HN.out e.symm)
        have hb1 : w.heap.size ≤ wr.heap.size := by have := HB.out; omega
        have hw4 := ((HO.out.trans (hbd.mono hb1)).alloc (by simp; omega) (.cells #[.int .i64 X.A.x, .int .i64 X.A.y, .int .i64 X.B.x, .int .i64 X.B.y, .int .i64 X.K] 35)).grown hg4 (by simp; omega) (fun q hq => by have := hlt0 q hq; omega)
        clear hg4 hlt0 y0 y1 y2 y3 u0 u1 u2 u3 u4 u5 hA d0 d1 d2 d3
        go_wp2
        go_roundw
        case rel => exact ⟨k + 1, hlt, by go_num, by rw [HF.out]; exact hown4, hw4, BP4⟩
        case measure => simp [intOf]; omega
      | false =>
        cases e2 : peqI X.B.x X.B.y p.x p.y with
        | true =>
          have HE : Hid (endW p X = true) := Lib.hid (by rw [endW_eq, e1, e2]; rfl)
          have HF := Lib.hid (show (L.take (k + 1)).filter (endW p) = (L.take k).filter (endW p) ++ [X] by rw [List.take_succ_eq_append_getElem hkL, HX.out, List.filter_append, List.filter_cons_of_pos HE.out]; rfl)
          have HO := Lib.hid hwr
          have HB := Lib.hid (show w.heap.size + 1 ≤ wr.heap.size from BP.lt)
          have hlt0 := fun q hq => (hown.lt q hq).1
          have HN := Lib.hid hown.ne
          have HP := Lib.hid BP
          have e3 := cW_ex X
          clear HE HX BP hwr BD
          go_wp2
          go_quiet (fail)
          go_wp2_with (at_builtin; refine append_wl rfl _ _ rfl (w.heap.size + 1) _ ((L.take k).filter (endW p)) rfl (hown.drew.alloc _) wr.heap.size X rfl (Box.new (by simp)) hle (by have := HB.out; simp; omega) ?_; intro w4 v4 hown4 hg4 hn4)
          have hbd : Below wr.heap.size wr (wr.drewN nq) := ⟨rfl, rfl, rfl, Nat.le_refl _, fun _ _ => rfl⟩
          have BP4 := ((HP.out.ext hbd rfl).old _).grownBy hg4 (fun e => HN.out e.symm)
          have hb1 : w.heap.size ≤ wr.heap.size := by have := HB.out; omega
          have hw4 := ((HO.out.trans (hbd.mono hb1)).alloc (by simp; omega) (.cells #[.int .i64 X.A.x, .int .i64 X.A.y, .int .i64 X.B.x, .int .i64 X.B.y, .int .i64 X.K] 35)).grown hg4 (by simp; omega) (fun q hq => by have := hlt0 q hq; omega)
          clear hg4 hlt0 y0 y1 y2 y3 u0 u1 u2 u3 u4 u5 hA d0 d1 d2 d3
          go_wp2
          go_roundw
          case rel => exact ⟨k + 1, hlt, by go_num, by rw [HF.out]; exact hown4, hw4, BP4⟩
          case measure => simp [intOf]; omega
        | false =>
          have HE : Hid (¬ endW p X = true) := Lib.hid (by rw [endW_eq, e1, e2]; simp)
          have hf : Hid ((L.take (k + 1)).filter (endW p) = (L.take k).filter (endW p)) := Lib.hid (by rw [List.take_succ_eq_append_getElem hkL, HX.out, List.filter_append, List.filter_cons_of_neg HE.out]; simp)
          have HP := Lib.hid BP
          have HO := Lib.hid hwr
          clear HE HX BP BD hwr
          go_wp2
          go_quiet (fail)
          go_wp2
          go_roundw
          have hbd : Below wr.heap.size wr (wr.drewN nq) := ⟨rfl, rfl, rfl, Nat.le_refl _, fun _ _ => rfl⟩
          case rel => exact ⟨k + 1, hlt, by go_num, by rw [hf.out]; exact hown, HO.out.trans (hbd.mono HO.out.size), HP.out.ext hbd rfl⟩
          case measure => simp [intOf]; omega
    · obtain rfl : k = n := by omega
      have hT : (L.take k).filter (endW p) = L.filter (endW p) := by rw [List.take_of_length_le (by rw [HM.out]; omega)]
      rw [hT] at hown
      obtain ⟨d0, d1, d2, d3⟩ := BD.facts
      go_wp2
      go_ret
      exact ⟨_, rfl, hown.base (Nat.le_succ _), hwr⟩
end Go.Proofs.Ytnocdecimcpkfaa
