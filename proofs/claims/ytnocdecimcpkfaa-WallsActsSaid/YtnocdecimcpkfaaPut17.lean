/- Put together: WalD, WalE. -/
import Derived.Test.YtnocdecimcpkfaaRows
import Derived.Test.YtnocdecimcpkfaaPut16
import Derived.Test.YtnocdecimcpkfaaPut1
import Derived.WalkKit
import Derived.WalkSpells
import Derived.WalkLawsBesides
import Derived.Laws.Externs
import Derived.Deep.QuietTactic
import Derived.BigQuiet
import Derived.Lib.Hide
import Derived.Handy
import Derived.LoopN
import Derived.RegionTactic
namespace Go.Proofs.Ytnocdecimcpkfaa
open Go.RowKit Go.Sort
attribute [local go_sem] rOper rAt rUpon cell_set sg_i64 sg_u64 alloc_cell alloc_frozen
attribute [local go_sem 10000] pt_eql pt_neq wal_eql wal_neq
attribute [local irreducible] rWalk

def bsb (f : Wl → Int) (L : List Wl) (m : Nat) : Bool := match L[m]? with | some x => f x == 0 | none => false
theorem toExt2 {P : Program} {f : FuncId} {args : Array Value} {v : Value} {W : World} (c : ∀ d os, Calls P f args (grow (redrawn W d) os) fun e w' => e = .returned v ∧ Below (grow (redrawn W d) os).heap.size (grow (redrawn W d) os) w') : ∀ d os, Calls P f args (grow (redrawn W d) os) fun e w' => e = .returned v ∧ Ext (grow (redrawn W d) os) w' := c
def Five (w : World) (A : Addr) (p : Wl) : Prop := A.block < w.heap.size ∧ w.cell? A = some (.int .i64 p.A.x) ∧ w.cell? ⟨A.block, A.off + 1, none⟩ = some (.int .i64 p.A.y) ∧ w.cell? ⟨A.block, A.off + 2, none⟩ = some (.int .i64 p.B.x) ∧ w.cell? ⟨A.block, A.off + 3, none⟩ = some (.int .i64 p.B.y) ∧ w.cell? ⟨A.block, A.off + 4, none⟩ = some (.int .i64 p.K)
theorem RowAt.five {w : World} {a : Option Addr} {L : List Wl} (h : RowAt cW 5 w a L) {j : Nat} (hj : j < L.length) : ∃ ad A, a = some ad ∧ ad.add (j * 5) = A ∧ Five w A L[j] := by
  obtain ⟨ad, A, h1, h2, _, h4, h5⟩ := h.wal hj
  exact ⟨ad, A, h1, h2, h4, h5⟩
theorem Five.ext {w w' : World} {A : Addr} {p : Wl} {n : Nat} (h : Five w A p) (hb : Below n w w') (hn : n = w.heap.size) : Five w' A p := by
  obtain ⟨h0, h1, h2, h3, h4, h5⟩ := h
  have e : ∀ q : Addr, q.block = A.block → w'.cell? q = w.cell? q := fun q hq => hb.cell (by rw [hq, hn]; exact h0)
  exact ⟨Nat.lt_of_lt_of_le h0 hb.size, (e A rfl).trans h1, (e ⟨A.block, A.off + 1, none⟩ rfl).trans h2, (e ⟨A.block, A.off + 2, none⟩ rfl).trans h3, (e ⟨A.block, A.off + 3, none⟩ rfl).trans h4, (e ⟨A.block, A.off + 4, none⟩ rfl).trans h5⟩
theorem Five.facts {w : World} {A : Addr} {p : Wl} (h : Five w A p) : (A.block = w.heap.size) = False ∧ w.cell? A = some (.int .i64 p.A.x) ∧ w.cell? ⟨A.block, A.off + 1, none⟩ = some (.int .i64 p.A.y) ∧ w.cell? ⟨A.block, A.off + 2, none⟩ = some (.int .i64 p.B.x) ∧ w.cell? ⟨A.block, A.off + 3, none⟩ = some (.int .i64 p.B.y) ∧ w.cell? ⟨A.block, A.off + 4, none⟩ = some (.int .i64 p.K) := ⟨by simp; have := h.1; omega, h.2⟩
theorem Five.cells {w : World} {A : Addr} {p : Wl} (h : Five w A p) : (∀ d os, (grow (redrawn w d) os).cell? A = some (.int .i64 p.A.x)) ∧ (∀ d os, (grow (redrawn w d) os).cell? ⟨A.block, A.off + 1, none⟩ = some (.int .i64 p.A.y)) ∧ (∀ d os, (grow (redrawn w d) os).cell? ⟨A.block, A.off + 2, none⟩ = some (.int .i64 p.B.x)) ∧ (∀ d os, (grow (redrawn w d) os).cell? ⟨A.block, A.off + 3, none⟩ = some (.int .i64 p.B.y)) ∧ (∀ d os, (grow (redrawn w d) os).cell? ⟨A.block, A.off + 4, none⟩ = some (.int .i64 p.K)) := by
  have e := fun d os => (h.ext (below_regrown w d os) rfl).2
  exact ⟨fun d os => (e d os).1, fun d os => (e d os).2.1, fun d os => (e d os).2.2.1, fun d os => (e d os).2.2.2.1, fun d os => (e d os).2.2.2.2⟩
set_option maxHeartbeats 1000000 in
theorem bsW_any (a : Option Addr) (c : Nat) (L : List Wl) (hL : L.length ≤ 1000000) (T : Wl) (m : Nat) (hm : ∀ (k : Nat) (hk : k < L.length), cmpW L[k] T < 0 ↔ k < m) (hmn : m ≤ L.length) (w : World) (h : RowAt cW 5 w a L) :
    Calls Try.prog 63 #[.slice a L.length c, .agg #[.int .i64 T.A.x, .int .i64 T.A.y, .int .i64 T.B.x, .int .i64 T.B.y, .int .i64 T.K], .func (.func 30) #[] #[]] w fun e w' => e = .returned (.tuple #[.int .i64 m, .bool (bsb (fun x => cmpW x T) L m)]) ∧ Below w.heap.size w w' := by
  obtain ⟨n, hn1⟩ : ∃ n, L.length = n := ⟨_, rfl⟩
  have hn : n ≤ 1000000 := hn1 ▸ hL
  have hmn' : m ≤ n := hn1 ▸ hmn
  have H1 := Lib.hid hn1
  have HM := Lib.hid hm
  rw [hn1]
  clear hL hmn hm hn1
  have hnl : n ≤ n := Nat.le_refl n
  go_enter Try.func63, Try.ntmps63
  go_wp2_with fail
  refine at_world fun W1 hW => ?_
  have BT : Box W1 w.heap.size [.int .i64 T.A.x, .int .i64 T.A.y, .int .i64 T.B.x, .int .i64 T.B.y, .int .i64 T.K] 35 := by rw [hW]; exact Box.new rfl
  have hw : Below w.heap.size w W1 := by rw [hW]; go_grown
  clear hW
  go_loopw [9, 10, 11] (fun vi vj vh wr => ∃ i j : Nat, vi = .int .i64 i ∧ vj = .int .i64 j ∧ i ≤ m ∧ m ≤ j ∧ j ≤ n ∧ Below w.heap.size w wr ∧ Box wr w.heap.size [.int .i64 T.A.x, .int .i64 T.A.y, .int .i64 T.B.x, .int .i64 T.B.y, .int .i64 T.K] 35) (fun vi vj _ _ => (intOf vj).toNat - (intOf vi).toNat)
  case atStart => exact ⟨0, n, rfl, rfl, Nat.zero_le _, hmn', hnl, hw, BT⟩
  case round =>
    clear BT hw
    obtain ⟨i, j, rfl, rfl, h1, h2, h3, hwr, BT⟩ := hrel
    by_cases hij : i < j
    · have hh : i < (i + j) / 2 + 1 ∧ (i + j) / 2 < j := by omega
      obtain ⟨q, hq⟩ : ∃ q, (i + j) / 2 = q := ⟨_, rfl⟩
      rw [hq] at hh
      obtain ⟨hh1, hh2⟩ := hh
      have hqn : q < n := by omega
      have hqi : ((i : Int) + (j : Int)) / 2 = (q : Int) := by omega
      have hmq := HM.out q (by rw [H1.out]; exact hqn)
      obtain ⟨ad, A, ea, eA, hA⟩ := (h.ext hwr rfl).five (j := q) (by rw [H1.out]; exact hqn)
      have cc := cmpW_any (L[q]'(by rw [H1.out]; exact hqn)) T
      have gT := BT.cells
      obtain ⟨s0, s1, s2, s3, s4⟩ := hA.cells
      generalize L[q]'(by rw [H1.out]; exact hqn) = X at *
      generalize cmpW X T = z at *
      have HQ := Lib.hid hmq
      have H12 := Lib.hid (And.intro (And.intro h1 h2) (And.intro hh1 hh2))
      clear hmq h1 h2 hq hh1 hh2
      subst ea
      by_cases hz : z < 0
      · have hd : decide (z < 0) = true := by simpa using hz
        have HZ := Lib.hid (HQ.out.1 hz)
        clear hz
        go_wp2_with fail
        refine (wp_region_tail 7 (by kernel_rfl) (by kernel_rfl) (C := fun w' => ∃ p : Regrown, w' = grow (redrawn wr p.d) p.os) (fun w' h => regrown_of_below h) ?_)
        simp only [List.take_succ_cons, List.take_zero, List.drop_succ_cons, List.drop_zero]
        repeat (first | (refine rWalk_skip (Eq.refl false) ?_; simp only [Act.put, List.setIfInBounds_toArray, List.set_cons_succ, List.set_cons_zero]) | (refine rWalk_step (fun K hK => ?_); go_simp; first | (refine hK _ ?_; clear hK K) | (apply Exists.intro; refine ⟨fun _ => ?_, hK _ ?_⟩; (first | with_reducible exact toExt cc _); clear hK K)))
        refine rWalk_nil ?_
        intro w2 hb
        have hw2 := hwr.trans (hb.mono hwr.size)
        have BT2 := BT.ext hb rfl
        clear gT s0 s1 s2 s3 s4 hA
        go_wp2
        go_roundw
        case rel => exact ⟨q + 1, j, by go_num, rfl, HZ.out, H12.out.1.2, h3, hw2, BT2⟩
        case measure => simp [intOf]; have := H12.out.2.1; have := H12.out.2.2; omega
      · have hd : decide (z < 0) = false := by simpa using hz
        have HZ := Lib.hid (show m ≤ q from Nat.le_of_not_lt fun e => hz (HQ.out.2 e))
        clear hz
        go_wp2_with fail
        refine (wp_region_tail 7 (by kernel_rfl) (by kernel_rfl) (C := fun w' => ∃ p : Regrown, w' = grow (redrawn wr p.d) p.os) (fun w' h => regrown_of_below h) ?_)
        simp only [List.take_succ_cons, List.take_zero, List.drop_succ_cons, List.drop_zero]
        repeat (first | (refine rWalk_skip (Eq.refl false) ?_; simp only [Act.put, List.setIfInBounds_toArray, List.set_cons_succ, List.set_cons_zero]) | (refine rWalk_step (fun K hK => ?_); go_simp; first | (refine hK _ ?_; clear hK K) | (apply Exists.intro; refine ⟨fun _ => ?_, hK _ ?_⟩; (first | with_reducible exact toExt cc _); clear hK K)))
        refine rWalk_nil ?_
        intro w2 hb
        have hw2 := hwr.trans (hb.mono hwr.size)
        have BT2 := BT.ext hb rfl
        clear gT s0 s1 s2 s3 s4 hA
        go_wp2
        go_roundw
        case rel => exact ⟨i, q, rfl, rfl, H12.out.1.1, HZ.out, by omega, hw2, BT2⟩
        case measure => simp [intOf]; have := H12.out.2.1; have := H12.out.2.2; omega
    · obtain rfl : i = m := by omega
      obtain rfl : j = i := by omega
      have gT := BT.cells
      by_cases hlt : j < n
      · obtain ⟨ad, A, ea, eA, hA⟩ := (h.ext hwr rfl).five (j := j) (by rw [H1.out]; exact hlt)
        have cc := cmpW_any (L[j]'(by rw [H1.out]; exact hlt)) T
        have HB : Hid (bsb (fun x => cmpW x T) L j = (cmpW (L[j]'(by rw [H1.out]; exact hlt)) T == 0)) := Lib.hid (by unfold bsb; rw [List.getElem?_eq_getElem (by rw [H1.out]; exact hlt)])
        generalize L[j]'(by rw [H1.out]; exact hlt) = X at *
        generalize cmpW X T = z at *
        obtain ⟨s0, s1, s2, s3, s4⟩ := hA.cells
        subst ea
        go_wp2_with fail
        refine (wp_region_tail 15 (by kernel_rfl) (by kernel_rfl) (C := fun w' => ∃ p : Regrown, w' = grow (redrawn wr p.d) p.os) (fun w' h => regrown_of_below h) ?_)
        simp only [List.take_succ_cons, List.take_zero, List.drop_succ_cons, List.drop_zero]
        repeat (first | (refine rWalk_skip (Eq.refl false) ?_; simp only [Act.put, List.setIfInBounds_toArray, List.set_cons_succ, List.set_cons_zero]) | (refine rWalk_step (fun K hK => ?_); go_simp; first | (refine hK _ ?_; clear hK K) | (apply Exists.intro; refine ⟨fun _ => ?_, hK _ ?_⟩; (first | with_reducible exact toExt cc _); clear hK K)))
        refine rWalk_nil ?_
        intro w2 hb
        have hw2 := hwr.trans (hb.mono hwr.size)
        clear gT s0 s1 s2 s3 s4 hA
        go_wp2_with fail
        refine bodyPost_ret (v := .tuple #[.int .i64 j, .bool (z == 0)]) (by simp [results, Try.results63, go_sem]) rfl ⟨by rw [HB.out], hw2⟩
      · have HB : Hid (bsb (fun x => cmpW x T) L j = false) := Lib.hid (by unfold bsb; rw [List.getElem?_eq_none (by rw [H1.out]; omega)])
        go_wp2_with fail
        refine (wp_region_tail 15 (by kernel_rfl) (by kernel_rfl) (C := fun w' => ∃ p : Regrown, w' = grow (redrawn wr p.d) p.os) (fun w' h => regrown_of_below h) ?_)
        simp only [List.take_succ_cons, List.take_zero, List.drop_succ_cons, List.drop_zero]
        repeat (first | (refine rWalk_skip (Eq.refl false) ?_; simp only [Act.put, List.setIfInBounds_toArray, List.set_cons_succ, List.set_cons_zero]) | (refine rWalk_step (fun K hK => ?_); go_simp; first | (refine hK _ ?_; clear hK K) | (apply Exists.intro; refine ⟨fun _ => ?_, hK _ ?_⟩; (first | fail); clear hK K)))
        refine rWalk_nil ?_
        intro w2 hb
        have hw2 := hwr.trans (hb.mono hwr.size)
        clear gT
        go_wp2_with fail
        refine bodyPost_ret (v := .tuple #[.int .i64 j, .bool false]) (by simp [results, Try.results63, go_sem]) rfl ⟨by rw [HB.out], hw2⟩
def bgn (X : Wl) (p : Pt) : Int := if decide (0 < cmpP X.A p) then 1 else -1
theorem bgn_0 (X : Wl) (p : Pt) (h : decide (0 < cmpP X.A p) = false) (w : World) :
    Calls Try.prog 67 #[.agg #[.int .i64 X.A.x, .int .i64 X.A.y, .int .i64 X.B.x, .int .i64 X.B.y, .int .i64 X.K], .agg #[.int .i64 p.x, .int .i64 p.y]] w fun e w' => e = .returned (.int .i64 (bgn X p)) ∧ Below w.heap.size w w' := by
  have c1 := cmp_pt X.A p
  rw [show bgn X p = -1 by unfold bgn; rw [h]; rfl]
  generalize cmpP X.A p = z at *
  go_enter Try.func67, Try.ntmps67
  go_wp2_with fail
  refine at_call fun W1 hW => ?_
  have Bx : Box W1 (w.heap.size) [.int .i64 X.A.x, .int .i64 X.A.y, .int .i64 X.B.x, .int .i64 X.B.y, .int .i64 X.K] 35 := by rw [hW]; exact (Box.new rfl).old _
  have Bp : Box W1 (w.heap.size + 1) [.int .i64 p.x, .int .i64 p.y] 33 := by rw [hW]; exact Box.new (by simp)
  have hw : Below w.heap.size w W1 := by rw [hW]; go_grown
  clear hW
  refine (c1 _).mono ?_
  rintro e w2 ⟨rfl, hb⟩
  replace Bx := Bx.ext hb rfl
  replace Bp := Bp.ext hb rfl
  replace hw := hw.trans (hb.mono hw.size)
  clear hb
  obtain ⟨xx, yx, zx, vx⟩ := Bx.facts
  obtain ⟨xp, yp, zp, vp⟩ := Bp.facts
  go_wp2
  go_ret
  exact ⟨rfl, by have hl := hw.size; go_grown⟩

theorem bgn_1 (X : Wl) (p : Pt) (h : decide (0 < cmpP X.A p) = true) (w : World) :
    Calls Try.prog 67 #[.agg #[.int .i64 X.A.x, .int .i64 X.A.y, .int .i64 X.B.x, .int .i64 X.B.y, .int .i64 X.K], .agg #[.int .i64 p.x, .int .i64 p.y]] w fun e w' => e = .returned (.int .i64 (bgn X p)) ∧ Below w.heap.size w w' := by
  have c1 := cmp_pt X.A p
  rw [show bgn X p = 1 by unfold bgn; rw [h]; rfl]
  generalize cmpP X.A p = z at *
  go_enter Try.func67, Try.ntmps67
  go_wp2_with fail
  refine at_call fun W1 hW => ?_
  have Bx : Box W1 (w.heap.size) [.int .i64 X.A.x, .int .i64 X.A.y, .int .i64 X.B.x, .int .i64 X.B.y, .int .i64 X.K] 35 := by rw [hW]; exact (Box.new rfl).old _
  have Bp : Box W1 (w.heap.size + 1) [.int .i64 p.x, .int .i64 p.y] 33 := by rw [hW]; exact Box.new (by simp)
  have hw : Below w.heap.size w W1 := by rw [hW]; go_grown
  clear hW
  refine (c1 _).mono ?_
  rintro e w2 ⟨rfl, hb⟩
  replace Bx := Bx.ext hb rfl
  replace Bp := Bp.ext hb rfl
  replace hw := hw.trans (hb.mono hw.size)
  clear hb
  obtain ⟨xx, yx, zx, vx⟩ := Bx.facts
  obtain ⟨xp, yp, zp, vp⟩ := Bp.facts
  go_wp2
  go_ret
  exact ⟨rfl, by have hl := hw.size; go_grown⟩

theorem bgn_any (X : Wl) (p : Pt) (w : World) :
    Calls Try.prog 67 #[.agg #[.int .i64 X.A.x, .int .i64 X.A.y, .int .i64 X.B.x, .int .i64 X.B.y, .int .i64 X.K], .agg #[.int .i64 p.x, .int .i64 p.y]] w fun e w' => e = .returned (.int .i64 (bgn X p)) ∧ Below w.heap.size w w' := by
  cases h : decide (0 < cmpP X.A p) with
  | false => exact bgn_0 X p h w
  | true => exact bgn_1 X p h w
set_option maxHeartbeats 1000000 in
theorem bsP_any (a : Option Addr) (c : Nat) (L : List Wl) (hL : L.length ≤ 1000000) (p : Pt) (m : Nat) (hm : ∀ (k : Nat) (hk : k < L.length), bgn L[k] p < 0 ↔ k < m) (hmn : m ≤ L.length) (w : World) (h : RowAt cW 5 w a L) :
    Calls Try.prog 66 #[.slice a L.length c, .agg #[.int .i64 p.x, .int .i64 p.y], .func (.func 67) #[] #[]] w fun e w' => e = .returned (.tuple #[.int .i64 m, .bool (bsb (fun x => bgn x p) L m)]) ∧ Below w.heap.size w w' := by
  obtain ⟨n, hn1⟩ : ∃ n, L.length = n := ⟨_, rfl⟩
  have hn : n ≤ 1000000 := hn1 ▸ hL
  have hmn' : m ≤ n := hn1 ▸ hmn
  have H1 := Lib.hid hn1
  have HM := Lib.hid hm
  rw [hn1]
  clear hL hmn hm hn1
  have hnl : n ≤ n := Nat.le_refl n
  go_enter Try.func66, Try.ntmps66
  go_wp2_with fail
  refine at_world fun W1 hW => ?_
  have BT : Box W1 w.heap.size [.int .i64 p.x, .int .i64 p.y] 33 := by rw [hW]; exact Box.new rfl
  have hw : Below w.heap.size w W1 := by rw [hW]; go_grown
  clear hW
  go_loopw [9, 10, 11] (fun vi vj vh wr => ∃ i j : Nat, vi = .int .i64 i ∧ vj = .int .i64 j ∧ i ≤ m ∧ m ≤ j ∧ j ≤ n ∧ Below w.heap.size w wr ∧ Box wr w.heap.size [.int .i64 p.x, .int .i64 p.y] 33) (fun vi vj _ _ => (intOf vj).toNat - (intOf vi).toNat)
  case atStart => exact ⟨0, n, rfl, rfl, Nat.zero_le _, hmn', hnl, hw, BT⟩
  case round =>
    clear BT hw
    obtain ⟨i, j, rfl, rfl, h1, h2, h3, hwr, BT⟩ := hrel
    by_cases hij : i < j
    · have hh : i < (i + j) / 2 + 1 ∧ (i + j) / 2 < j := by omega
      obtain ⟨q, hq⟩ : ∃ q, (i + j) / 2 = q := ⟨_, rfl⟩
      rw [hq] at hh
      obtain ⟨hh1, hh2⟩ := hh
      have hqn : q < n := by omega
      have hqi : ((i : Int) + (j : Int)) / 2 = (q : Int) := by omega
      have hmq := HM.out q (by rw [H1.out]; exact hqn)
      obtain ⟨ad, A, ea, eA, hA⟩ := (h.ext hwr rfl).five (j := q) (by rw [H1.out]; exact hqn)
      have cc := bgn_any (L[q]'(by rw [H1.out]; exact hqn)) p
      have gT := BT.cells
      obtain ⟨s0, s1, s2, s3, s4⟩ := hA.cells
      generalize L[q]'(by rw [H1.out]; exact hqn) = X at *
      generalize bgn X p = z at *
      have HQ := Lib.hid hmq
      have H12 := Lib.hid (And.intro (And.intro h1 h2) (And.intro hh1 hh2))
      clear hmq h1 h2 hq hh1 hh2
      subst ea
      by_cases hz : z < 0
      · have hd : decide (z < 0) = true := by simpa using hz
        have HZ := Lib.hid (HQ.out.1 hz)
        clear hz
        go_wp2_with fail
        refine (wp_region_tail 7 (by kernel_rfl) (by kernel_rfl) (C := fun w' => ∃ p : Regrown, w' = grow (redrawn wr p.d) p.os) (fun w' h => regrown_of_below h) ?_)
        simp only [List.take_succ_cons, List.take_zero, List.drop_succ_cons, List.drop_zero]
        repeat (first | (refine rWalk_skip (Eq.refl false) ?_; simp only [Act.put, List.setIfInBounds_toArray, List.set_cons_succ, List.set_cons_zero]) | (refine rWalk_step (fun K hK => ?_); go_simp; first | (refine hK _ ?_; clear hK K) | (apply Exists.intro; refine ⟨fun _ => ?_, hK _ ?_⟩; (first | with_reducible exact toExt cc _); clear hK K)))
        refine rWalk_nil ?_
        intro w2 hb
        have hw2 := hwr.trans (hb.mono hwr.size)
        have BT2 := BT.ext hb rfl
        clear gT s0 s1 s2 s3 s4 hA
        go_wp2
        go_roundw
        case rel => exact ⟨q + 1, j, by go_num, rfl, HZ.out, H12.out.1.2, h3, hw2, BT2⟩
        case measure => simp [intOf]; have := H12.out.2.1; have := H12.out.2.2; omega
      · have hd : decide (z < 0) = false := by simpa using hz
        have HZ := Lib.hid (show m ≤ q from Nat.le_of_not_lt fun e => hz (HQ.out.2 e))
        clear hz
        go_wp2_with fail
        refine (wp_region_tail 7 (by kernel_rfl) (by kernel_rfl) (C := fun w' => ∃ p : Regrown, w' = grow (redrawn wr p.d) p.os) (fun w' h => regrown_of_below h) ?_)
        simp only [List.take_succ_cons, List.take_zero, List.drop_succ_cons, List.drop_zero]
        repeat (first | (refine rWalk_skip (Eq.refl false) ?_; simp only [Act.put, List.setIfInBounds_toArray, List.set_cons_succ, List.set_cons_zero]) | (refine rWalk_step (fun K hK => ?_); go_simp; first | (refine hK _ ?_; clear hK K) | (apply Exists.intro; refine ⟨fun _ => ?_, hK _ ?_⟩; (first | with_reducible exact toExt cc _); clear hK K)))
        refine rWalk_nil ?_
        intro w2 hb
        have hw2 := hwr.trans (hb.mono hwr.size)
        have BT2 := BT.ext hb rfl
        clear gT s0 s1 s2 s3 s4 hA
        go_wp2
        go_roundw
        case rel => exact ⟨i, q, rfl, rfl, H12.out.1.1, HZ.out, by omega, hw2, BT2⟩
        case measure => simp [intOf]; have := H12.out.2.1; have := H12.out.2.2; omega
    · obtain rfl : i = m := by omega
      obtain rfl : j = i := by omega
      have gT := BT.cells
      by_cases hlt : j < n
      · obtain ⟨ad, A, ea, eA, hA⟩ := (h.ext hwr rfl).five (j := j) (by rw [H1.out]; exact hlt)
        have cc := bgn_any (L[j]'(by rw [H1.out]; exact hlt)) p
        have HB : Hid (bsb (fun x => bgn x p) L j = (bgn (L[j]'(by rw [H1.out]; exact hlt)) p == 0)) := Lib.hid (by unfold bsb; rw [List.getElem?_eq_getElem (by rw [H1.out]; exact hlt)])
        generalize L[j]'(by rw [H1.out]; exact hlt) = X at *
        generalize bgn X p = z at *
        obtain ⟨s0, s1, s2, s3, s4⟩ := hA.cells
        subst ea
        go_wp2_with fail
        refine (wp_region_tail 15 (by kernel_rfl) (by kernel_rfl) (C := fun w' => ∃ p : Regrown, w' = grow (redrawn wr p.d) p.os) (fun w' h => regrown_of_below h) ?_)
        simp only [List.take_succ_cons, List.take_zero, List.drop_succ_cons, List.drop_zero]
        repeat (first | (refine rWalk_skip (Eq.refl false) ?_; simp only [Act.put, List.setIfInBounds_toArray, List.set_cons_succ, List.set_cons_zero]) | (refine rWalk_step (fun K hK => ?_); go_simp; first | (refine hK _ ?_; clear hK K) | (apply Exists.intro; refine ⟨fun _ => ?_, hK _ ?_⟩; (first | with_reducible exact toExt cc _); clear hK K)))
        refine rWalk_nil ?_
        intro w2 hb
        have hw2 := hwr.trans (hb.mono hwr.size)
        clear gT s0 s1 s2 s3 s4 hA
        go_wp2_with fail
        refine bodyPost_ret (v := .tuple #[.int .i64 j, .bool (z == 0)]) (by simp [results, Try.results66, go_sem]) rfl ⟨by rw [HB.out], hw2⟩
      · have HB : Hid (bsb (fun x => bgn x p) L j = false) := Lib.hid (by unfold bsb; rw [List.getElem?_eq_none (by rw [H1.out]; omega)])
        go_wp2_with fail
        refine (wp_region_tail 15 (by kernel_rfl) (by kernel_rfl) (C := fun w' => ∃ p : Regrown, w' = grow (redrawn wr p.d) p.os) (fun w' h => regrown_of_below h) ?_)
        simp only [List.take_succ_cons, List.take_zero, List.drop_succ_cons, List.drop_zero]
        repeat (first | (refine rWalk_skip (Eq.refl false) ?_; simp only [Act.put, List.setIfInBounds_toArray, List.set_cons_succ, List.set_cons_zero]) | (refine rWalk_step (fun K hK => ?_); go_simp; first | (refine hK _ ?_; clear hK K) | (apply Exists.intro; refine ⟨fun _ => ?_, hK _ ?_⟩; (first | fail); clear hK K)))
        refine rWalk_nil ?_
        intro w2 hb
        have hw2 := hwr.trans (hb.mono hwr.size)
        clear gT
        go_wp2_with fail
        refine bodyPost_ret (v := .tuple #[.int .i64 j, .bool false]) (by simp [results, Try.results66, go_sem]) rfl ⟨by rw [HB.out], hw2⟩
end Go.Proofs.Ytnocdecimcpkfaa

namespace Go.Proofs.Ytnocdecimcpkfaa
open Go.RowKit Go.Sort
attribute [local go_sem] rOper rAt rUpon cell_set sg_i64 sg_u64 alloc_cell alloc_frozen
attribute [local go_sem 10000] pt_eql pt_neq wal_eql wal_neq
attribute [local irreducible] rWalk

def bar1 (X V : Wl) : Bool := !bsd X V.A V.B && decide (meetS X.A X.B V.A V.B ≠ 0)
theorem bar1_0 (X V : Wl) (bv : Nat) (h : bsd X V.A V.B = true) (w : World) (Hv : Box w bv [.int .i64 V.A.x, .int .i64 V.A.y, .int .i64 V.B.x, .int .i64 V.B.y, .int .i64 V.K] 35) :
    Calls Try.prog 72 #[.agg #[.int .i64 X.A.x, .int .i64 X.A.y, .int .i64 X.B.x, .int .i64 X.B.y, .int .i64 X.K], .pointer (some ⟨bv, 0, none⟩)] w fun e w' => e = .returned (.bool (bar1 X V)) ∧ Below w.heap.size w w' := by
  have c1 := bsd_any X V.A V.B
  have c2 := meet_any X.A X.B V.A V.B
  have HE : Hid (bar1 X V = false) := Lib.hid (by unfold bar1; rw [h]; rfl)
  rw [h] at c1
  clear h
  generalize meetS X.A X.B V.A V.B = z at *
  go_enter Try.func72, Try.ntmps72
  obtain ⟨xh, yh, zh, vh⟩ := Hv.facts
  go_wp2_with fail
  clear xh yh zh vh
  refine at_call fun W1 hW => ?_
  have Bx : Box W1 (w.heap.size) [.int .i64 X.A.x, .int .i64 X.A.y, .int .i64 X.B.x, .int .i64 X.B.y, .int .i64 X.K] 35 := by rw [hW]; exact Box.new rfl
  have hw : Below w.heap.size w W1 := by rw [hW]; go_grown
  clear hW
  have BV : Box W1 bv [.int .i64 V.A.x, .int .i64 V.A.y, .int .i64 V.B.x, .int .i64 V.B.y, .int .i64 V.K] 35 := Hv.ext hw rfl
  obtain ⟨xx, yx, zx, vx⟩ := Bx.facts
  obtain ⟨xV, yV, zV, vV⟩ := BV.facts
  refine (c1 _).mono ?_
  rintro e w2 ⟨rfl, hb⟩
  clear xx yx zx vx xV yV zV vV
  replace Bx := Bx.ext hb rfl
  replace BV := BV.ext hb rfl
  replace hw := hw.trans (hb.mono hw.size)
  clear hb
  obtain ⟨xx, yx, zx, vx⟩ := Bx.facts
  obtain ⟨xV, yV, zV, vV⟩ := BV.facts
  go_wp2
  go_ret
  exact ⟨ret_bool (by rw [HE.out]), by have hl := hw.size; go_grown⟩

theorem bar1_1 (X V : Wl) (bv : Nat) (h : bsd X V.A V.B = false) (w : World) (Hv : Box w bv [.int .i64 V.A.x, .int .i64 V.A.y, .int .i64 V.B.x, .int .i64 V.B.y, .int .i64 V.K] 35) :
    Calls Try.prog 72 #[.agg #[.int .i64 X.A.x, .int .i64 X.A.y, .int .i64 X.B.x, .int .i64 X.B.y, .int .i64 X.K], .pointer (some ⟨bv, 0, none⟩)] w fun e w' => e = .returned (.bool (bar1 X V)) ∧ Below w.heap.size w w' := by
  have c1 := bsd_any X V.A V.B
  have c2 := meet_any X.A X.B V.A V.B
  have HE : Hid (bar1 X V = (meetS X.A X.B V.A V.B != 0)) := Lib.hid (by unfold bar1; rw [h]; rw [Bool.not_false, Bool.true_and, Bool.eq_iff_iff]; simp)
  rw [h] at c1
  clear h
  generalize meetS X.A X.B V.A V.B = z at *
  go_enter Try.func72, Try.ntmps72
  obtain ⟨xh, yh, zh, vh⟩ := Hv.facts
  go_wp2_with fail
  clear xh yh zh vh
  refine at_call fun W1 hW => ?_
  have Bx : Box W1 (w.heap.size) [.int .i64 X.A.x, .int .i64 X.A.y, .int .i64 X.B.x, .int .i64 X.B.y, .int .i64 X.K] 35 := by rw [hW]; exact Box.new rfl
  have hw : Below w.heap.size w W1 := by rw [hW]; go_grown
  clear hW
  have BV : Box W1 bv [.int .i64 V.A.x, .int .i64 V.A.y, .int .i64 V.B.x, .int .i64 V.B.y, .int .i64 V.K] 35 := Hv.ext hw rfl
  obtain ⟨xx, yx, zx, vx⟩ := Bx.facts
  obtain ⟨xV, yV, zV, vV⟩ := BV.facts
  refine (c1 _).mono ?_
  rintro e w2 ⟨rfl, hb⟩
  clear xx yx zx vx xV yV zV vV
  replace Bx := Bx.ext hb rfl
  replace BV := BV.ext hb rfl
  replace hw := hw.trans (hb.mono hw.size)
  clear hb
  obtain ⟨xx, yx, zx, vx⟩ := Bx.facts
  obtain ⟨xV, yV, zV, vV⟩ := BV.facts
  go_wp2_with fail
  refine (c2 _).mono ?_
  rintro e w3 ⟨rfl, hb⟩
  clear xx yx zx vx xV yV zV vV
  replace Bx := Bx.ext hb rfl
  replace BV := BV.ext hb rfl
  replace hw := hw.trans (hb.mono hw.size)
  clear hb
  obtain ⟨xx, yx, zx, vx⟩ := Bx.facts
  obtain ⟨xV, yV, zV, vV⟩ := BV.facts
  go_wp2
  go_ret
  exact ⟨ret_bool (by rw [HE.out]), by have hl := hw.size; go_grown⟩

theorem bar1_any (X V : Wl) (bv : Nat) (w : World) (Hv : Box w bv [.int .i64 V.A.x, .int .i64 V.A.y, .int .i64 V.B.x, .int .i64 V.B.y, .int .i64 V.K] 35) :
    Calls Try.prog 72 #[.agg #[.int .i64 X.A.x, .int .i64 X.A.y, .int .i64 X.B.x, .int .i64 X.B.y, .int .i64 X.K], .pointer (some ⟨bv, 0, none⟩)] w fun e w' => e = .returned (.bool (bar1 X V)) ∧ Below w.heap.size w w' := by
  cases h : bsd X V.A V.B with
  | true => exact bar1_0 X V bv h w Hv
  | false => exact bar1_1 X V bv h w Hv
theorem bar1_enter : ∀ args w, (callFunc 72 args).run Try.prog w = .ok (.enter 72 args) w := enters_of Try.func72 (by kernel_rfl) rfl
theorem bar1_pred (V : Wl) (bv : Nat) (w : World) (Hv : Box w bv [.int .i64 V.A.x, .int .i64 V.A.y, .int .i64 V.B.x, .int .i64 V.B.y, .int .i64 V.K] 35) : PredBelow Try.prog 72 #[.pointer (some ⟨bv, 0, none⟩)] (fun x => .agg (cW x).toArray) (fun x => bar1 x V) w := fun W x hb =>
  (bar1_any x V bv W (Hv.ext hb rfl)).mono fun _ _ ⟨he, hx⟩ => ⟨he, hb.trans (hx.mono hb.size)⟩
theorem bars_any (V : Wl) (a : Option Addr) (c n : Nat) (L : List Wl) (hn : L.length = n) (hL : L.length ≤ 1000000) (hf : Flat a) (w : World) (h : RowAt cW 5 w a L) :
    Calls Try.prog 50 #[.slice a n c, .agg #[.int .i64 V.A.x, .int .i64 V.A.y, .int .i64 V.B.x, .int .i64 V.B.y, .int .i64 V.K]] w fun e w' => e = .returned (.bool (L.any fun x => bar1 x V)) ∧ Below w.heap.size w w' := by
  go_enter Try.func50, Try.ntmps50
  go_wp2_with fail
  refine at_call fun W1 hW => ?_
  have Bv : Box W1 (w.heap.size) [.int .i64 V.A.x, .int .i64 V.A.y, .int .i64 V.B.x, .int .i64 V.B.y, .int .i64 V.K] 35 := by rw [hW]; exact Box.new rfl
  have hw : Below w.heap.size w W1 := by rw [hW]; go_grown
  clear hW
  have c1 := conW_any (fun x => bar1 x V) _ _ bar1_enter a c L hL _ (h.ext hw rfl) hf (bar1_pred V _ _ Bv)
  rw [hn] at c1
  refine (c1).mono ?_
  rintro e w2 ⟨rfl, hb⟩
  replace Bv := Bv.ext hb rfl
  replace hw := hw.trans (hb.mono hw.size)
  clear hb
  obtain ⟨xv, yv, zv, vv⟩ := Bv.facts
  go_wp2
  go_ret
  exact ⟨rfl, by have hl := hw.size; go_grown⟩

theorem begun_nil (p : Pt) (w : World) :
    Calls Try.prog 44 #[.pointer none, .agg #[.int .i64 p.x, .int .i64 p.y]] w fun e w' => e = .returned (.slice none 0 0) ∧ Below w.heap.size w w' := by
  go_enter Try.func44, Try.ntmps44
  go_wp2_with fail
  go_returns
  exact ⟨rfl, by go_grown⟩

theorem begun_some (sb : Nat) (a : Option Addr) (c n : Nat) (L : List Wl) (hn : L.length = n) (hL : L.length ≤ 1000000) (hnc : n ≤ c) (p : Pt) (m : Nat) (hm : ∀ (k : Nat) (hk : k < L.length), bgn L[k] p < 0 ↔ k < m) (hmn : m ≤ L.length) (w : World) (Bs : Box w sb [.slice a n c] 64) (h : RowAt cW 5 w a L) :
    Calls Try.prog 44 #[.pointer (some ⟨sb, 0, none⟩), .agg #[.int .i64 p.x, .int .i64 p.y]] w fun e w' => e = .returned (.slice a m c) ∧ Below w.heap.size w w' := by
  go_enter Try.func44, Try.ntmps44
  go_wp2_with fail
  refine at_world fun W1 hW => ?_
  have Bp : Box W1 (w.heap.size) [.int .i64 p.x, .int .i64 p.y] 33 := by rw [hW]; exact Box.new rfl
  have hw : Below w.heap.size w W1 := by rw [hW]; go_grown
  clear hW
  have BS : Box W1 (sb) [.slice a n c] 64 := Bs.ext hw rfl
  have cc : ∀ d os, Calls Try.prog 66 #[.slice a n c, .agg #[.int .i64 p.x, .int .i64 p.y], .func (.func 67) #[] #[]] (grow (redrawn W1 d) os) fun e w' => e = .returned (.tuple #[.int .i64 m, .bool (bsb (fun x => bgn x p) L m)]) ∧ Below (grow (redrawn W1 d) os).heap.size (grow (redrawn W1 d) os) w' := fun d os => by
    have := bsP_any a c L hL p m hm hmn _ ((h.ext hw rfl).ext (below_regrown W1 d os) rfl)
    rwa [hn] at this
  generalize bsb (fun x => bgn x p) L m = bb at *
  have gp := Bp.cells
  have gS := BS.cells
  refine wp_region_tail 10 (by kernel_rfl) (by kernel_rfl) (C := fun w' => ∃ p : Regrown, w' = grow (redrawn W1 p.d) p.os) (fun w' h => regrown_of_below h) ?_
  simp only [List.take_succ_cons, List.take_zero, List.drop_succ_cons, List.drop_zero]
  repeat (first | (refine rWalk_skip (Eq.refl false) ?_; simp only [Act.put, List.setIfInBounds_toArray, List.set_cons_succ, List.set_cons_zero]) | (refine rWalk_step (fun K hK => ?_); go_simp; first | (refine hK _ ?_; clear hK K) | (apply Exists.intro; refine ⟨fun _ => ?_, hK _ ?_⟩; (first | with_reducible exact toExt2 cc _ _); clear hK K)))
  refine rWalk_nil ?_
  intro w2 hb
  clear gp gS
  replace Bp := Bp.ext hb rfl
  replace BS := BS.ext hb rfl
  replace hw := hw.trans (hb.mono hw.size)
  have hmn2 : m ≤ n := by rw [← hn]; exact hmn
  have hnc2 := hnc
  obtain ⟨xp, yp, zp, vp⟩ := Bp.facts
  obtain ⟨xS, yS, zS, vS⟩ := BS.facts
  go_wp2
  go_ret
  exact ⟨rfl, by have hl := hw.size; go_grown⟩

def fnd (L : List Wl) (m : Nat) (p q : Pt) : Bool := match L[m]? with | some x => decide (x.A = p) && decide (x.B = q) | none => false
theorem find_nil (a b : Pt) (w : World) :
    Calls Try.prog 38 #[.pointer none, .agg #[.int .i64 a.x, .int .i64 a.y], .agg #[.int .i64 b.x, .int .i64 b.y]] w fun e w' => e = .returned (.tuple #[.int .i64 0, .bool false]) ∧ Below w.heap.size w w' := by
  go_enter Try.func38, Try.ntmps38
  go_wp2_with fail
  refine bodyPost_ret (v := .tuple #[.int .i64 0, .bool false]) (by simp [results, Try.results38, go_sem]) rfl ⟨rfl, by go_grown⟩

set_option maxHeartbeats 2000000 in
theorem find_some (sb : Nat) (a0 : Option Addr) (c n : Nat) (L : List Wl) (hn : L.length = n) (hL : L.length ≤ 1000000) (a b : Pt) (m : Nat) (hm : ∀ (k : Nat) (hk : k < L.length), cmpW L[k] ⟨lo2 a b, hi2 a b, 0⟩ < 0 ↔ k < m) (hmn : m ≤ L.length) (w : World) (Bs : Box w sb [.slice a0 n c] 64) (h : RowAt cW 5 w a0 L) :
    Calls Try.prog 38 #[.pointer (some ⟨sb, 0, none⟩), .agg #[.int .i64 a.x, .int .i64 a.y], .agg #[.int .i64 b.x, .int .i64 b.y]] w fun e w' => e = .returned (.tuple #[.int .i64 m, .bool (fnd L m (lo2 a b) (hi2 a b))]) ∧ Below w.heap.size w w' := by
  have c1 := lsf_any a b
  generalize lo2 a b = p at *
  generalize hi2 a b = q at *
  go_enter Try.func38, Try.ntmps38
  have hsb := Bs.lt
  go_wp2_with fail
  refine at_call fun W1 hW => ?_
  have Ba : Box W1 (w.heap.size) [.int .i64 a.x, .int .i64 a.y] 33 := by rw [hW]; exact ((Box.new rfl).old _).old _
  have Bb : Box W1 (w.heap.size + 1) [.int .i64 b.x, .int .i64 b.y] 33 := by rw [hW]; exact (Box.new (by simp)).old _
  have Bv : Box W1 (w.heap.size + 1 + 1) [.int .i64 0, .int .i64 0, .int .i64 0, .int .i64 0, .int .i64 0] 35 := by rw [hW]; exact Box.new (by simp)
  have hw : Below w.heap.size w W1 := by rw [hW]; go_grown
  clear hW
  refine (c1 _).mono ?_
  rintro e w2 ⟨rfl, hb⟩
  replace Ba := Ba.ext hb rfl
  replace Bb := Bb.ext hb rfl
  replace Bv := Bv.ext hb rfl
  replace hw := hw.trans (hb.mono hw.size)
  clear hb
  have BS : Box w2 (sb) [.slice a0 n c] 64 := Bs.ext hw rfl
  obtain ⟨xa, ya, za, va⟩ := Ba.facts
  obtain ⟨xb, yb, zb, vb⟩ := Bb.facts
  obtain ⟨xv, yv, zv, vv⟩ := Bv.facts
  obtain ⟨xS, yS, zS, vS⟩ := BS.facts
  go_wp2_with fail
  refine at_world fun W3 hW => ?_
  have Ca : Box W3 (w.heap.size) [.int .i64 a.x, .int .i64 a.y] 33 := by rw [hW]; exact ((((Ba.set_ne ⟨w.heap.size + 1 + 1, 0, none⟩ (.int .i64 p.x) (by first | assumption | (show (w.heap.size + 1 + 1 : Nat) ≠ _; omega))).set_ne ⟨w.heap.size + 1 + 1, 1, none⟩ (.int .i64 p.y) (by first | assumption | (show (w.heap.size + 1 + 1 : Nat) ≠ _; omega))).set_ne ⟨w.heap.size + 1 + 1, 2, none⟩ (.int .i64 q.x) (by first | assumption | (show (w.heap.size + 1 + 1 : Nat) ≠ _; omega))).set_ne ⟨w.heap.size + 1 + 1, 3, none⟩ (.int .i64 q.y) (by first | assumption | (show (w.heap.size + 1 + 1 : Nat) ≠ _; omega)))
  have Cb : Box W3 (w.heap.size + 1) [.int .i64 b.x, .int .i64 b.y] 33 := by rw [hW]; exact ((((Bb.set_ne ⟨w.heap.size + 1 + 1, 0, none⟩ (.int .i64 p.x) (by first | assumption | (show (w.heap.size + 1 + 1 : Nat) ≠ _; omega))).set_ne ⟨w.heap.size + 1 + 1, 1, none⟩ (.int .i64 p.y) (by first | assumption | (show (w.heap.size + 1 + 1 : Nat) ≠ _; omega))).set_ne ⟨w.heap.size + 1 + 1, 2, none⟩ (.int .i64 q.x) (by first | assumption | (show (w.heap.size + 1 + 1 : Nat) ≠ _; omega))).set_ne ⟨w.heap.size + 1 + 1, 3, none⟩ (.int .i64 q.y) (by first | assumption | (show (w.heap.size + 1 + 1 : Nat) ≠ _; omega)))
  have Cv : Box W3 (w.heap.size + 1 + 1) [.int .i64 p.x, .int .i64 p.y, .int .i64 q.x, .int .i64 q.y, .int .i64 0] 35 := by rw [hW]; exact ((((Bv.set 0 (.int .i64 p.x)).set 1 (.int .i64 p.y)).set 2 (.int .i64 q.x)).set 3 (.int .i64 q.y))
  have CS : Box W3 (sb) [.slice a0 n c] 64 := by rw [hW]; exact ((((BS.set_ne ⟨w.heap.size + 1 + 1, 0, none⟩ (.int .i64 p.x) (by first | assumption | (show (w.heap.size + 1 + 1 : Nat) ≠ _; omega))).set_ne ⟨w.heap.size + 1 + 1, 1, none⟩ (.int .i64 p.y) (by first | assumption | (show (w.heap.size + 1 + 1 : Nat) ≠ _; omega))).set_ne ⟨w.heap.size + 1 + 1, 2, none⟩ (.int .i64 q.x) (by first | assumption | (show (w.heap.size + 1 + 1 : Nat) ≠ _; omega))).set_ne ⟨w.heap.size + 1 + 1, 3, none⟩ (.int .i64 q.y) (by first | assumption | (show (w.heap.size + 1 + 1 : Nat) ≠ _; omega)))
  replace hw : Below w.heap.size w W3 := by have hl := hw.size; rw [hW]; go_grown
  clear xa ya za va xb yb zb vb xv yv zv vv xS yS zS vS
  clear hW Ba Bb Bv BS
  have Ba := Ca
  have Bb := Cb
  have Bv := Cv
  have BS := CS
  clear Ca Cb Cv CS
  have cc : ∀ d os, Calls Try.prog 63 #[.slice a0 n c, .agg #[.int .i64 p.x, .int .i64 p.y, .int .i64 q.x, .int .i64 q.y, .int .i64 0], .func (.func 30) #[] #[]] (grow (redrawn W3 d) os) fun e w' => e = .returned (.tuple #[.int .i64 m, .bool (bsb (fun x => cmpW x ⟨p, q, 0⟩) L m)]) ∧ Below (grow (redrawn W3 d) os).heap.size (grow (redrawn W3 d) os) w' := fun d os => by
    have := bsW_any a0 c L hL ⟨p, q, 0⟩ m hm hmn _ ((h.ext hw rfl).ext (below_regrown W3 d os) rfl)
    rwa [hn] at this
  generalize bsb (fun x => cmpW x ⟨p, q, 0⟩) L m = bb at *
  have ga := Ba.cells
  have gb := Bb.cells
  have gv := Bv.cells
  have gS := BS.cells
  refine wp_region_tail 10 (by kernel_rfl) (by kernel_rfl) (C := fun w' => ∃ p : Regrown, w' = grow (redrawn W3 p.d) p.os) (fun w' h => regrown_of_below h) ?_
  simp only [List.take_succ_cons, List.take_zero, List.drop_succ_cons, List.drop_zero]
  repeat (first | (refine rWalk_skip (Eq.refl false) ?_; simp only [Act.put, List.setIfInBounds_toArray, List.set_cons_succ, List.set_cons_zero]) | (refine rWalk_step (fun K hK => ?_); go_simp; first | (refine hK _ ?_; clear hK K) | (apply Exists.intro; refine ⟨fun _ => ?_, hK _ ?_⟩; (first | with_reducible exact toExt2 cc _ _); clear hK K)))
  refine rWalk_nil ?_
  intro w4 hb
  clear ga gb gv gS
  replace Ba := Ba.ext hb rfl
  replace Bb := Bb.ext hb rfl
  replace Bv := Bv.ext hb rfl
  replace BS := BS.ext hb rfl
  replace hw := hw.trans (hb.mono hw.size)
  clear cc
  obtain ⟨xa, ya, za, va⟩ := Ba.facts
  obtain ⟨xb, yb, zb, vb⟩ := Bb.facts
  obtain ⟨xv, yv, zv, vv⟩ := Bv.facts
  obtain ⟨xS, yS, zS, vS⟩ := BS.facts
  go_wp2_with fail
  clear xa ya za va xb yb zb vb xv yv zv vv xS yS zS vS
  by_cases hlt : m < n
  · have hmL : m < L.length := by rw [hn]; exact hlt
    obtain ⟨ad, A, ea, eA, hA⟩ := (h.ext hw rfl).five (j := m) hmL
    have HB0 : Hid (fnd L m p q = (decide (L[m].A = p) && decide (L[m].B = q))) := Lib.hid (by unfold fnd; rw [List.getElem?_eq_getElem hmL])
    generalize L[m] = X at *
    obtain ⟨s0, s1, s2, s3, s4⟩ := hA.cells
    subst ea
    cases e1 : peqI X.A.x X.A.y p.x p.y with
    | false =>
      have HB : Hid (fnd L m p q = false) := Lib.hid (by rw [HB0.out, ← peqI_dec, ← peqI_dec, e1]; rfl)
      clear HB0
      clear hA
      have ga := Ba.cells
      have gb := Bb.cells
      have gv := Bv.cells
      have gS := BS.cells
      refine wp_region_tail 35 (by kernel_rfl) (by kernel_rfl) (C := fun w' => ∃ p : Regrown, w' = grow (redrawn w4 p.d) p.os) (fun w' h => regrown_of_below h) ?_
      simp only [List.take_succ_cons, List.take_zero, List.drop_succ_cons, List.drop_zero]
      repeat (first | (refine rWalk_skip (Eq.refl false) ?_; simp only [Act.put, List.setIfInBounds_toArray, List.set_cons_succ, List.set_cons_zero]) | (refine rWalk_step (fun K hK => ?_); go_simp; first | (refine hK _ ?_; clear hK K) | (apply Exists.intro; refine ⟨fun _ => ?_, hK _ ?_⟩; (first | fail); clear hK K)))
      refine rWalk_nil ?_
      intro w5 hb
      clear ga gb gv gS
      replace Ba := Ba.ext hb rfl
      replace Bb := Bb.ext hb rfl
      replace Bv := Bv.ext hb rfl
      replace BS := BS.ext hb rfl
      replace hw := hw.trans (hb.mono hw.size)
      obtain ⟨xa, ya, za, va⟩ := Ba.facts
      obtain ⟨xb, yb, zb, vb⟩ := Bb.facts
      obtain ⟨xv, yv, zv, vv⟩ := Bv.facts
      obtain ⟨xS, yS, zS, vS⟩ := BS.facts
      go_wp2_with fail
      refine bodyPost_ret (v := .tuple #[.int .i64 m, .bool false]) (by simp [results, Try.results38, go_sem]) rfl ⟨by rw [HB.out], by have hl := hw.size; go_grown⟩
    | true =>
      have HB : Hid (fnd L m p q = peqI X.B.x X.B.y q.x q.y) := Lib.hid (by rw [HB0.out, ← peqI_dec, ← peqI_dec, e1]; rfl)
      clear HB0
      clear hA
      have ga := Ba.cells
      have gb := Bb.cells
      have gv := Bv.cells
      have gS := BS.cells
      refine wp_region_tail 35 (by kernel_rfl) (by kernel_rfl) (C := fun w' => ∃ p : Regrown, w' = grow (redrawn w4 p.d) p.os) (fun w' h => regrown_of_below h) ?_
      simp only [List.take_succ_cons, List.take_zero, List.drop_succ_cons, List.drop_zero]
      repeat (first | (refine rWalk_skip (Eq.refl false) ?_; simp only [Act.put, List.setIfInBounds_toArray, List.set_cons_succ, List.set_cons_zero]) | (refine rWalk_step (fun K hK => ?_); go_simp; first | (refine hK _ ?_; clear hK K) | (apply Exists.intro; refine ⟨fun _ => ?_, hK _ ?_⟩; (first | fail); clear hK K)))
      refine rWalk_nil ?_
      intro w5 hb
      clear ga gb gv gS
      replace Ba := Ba.ext hb rfl
      replace Bb := Bb.ext hb rfl
      replace Bv := Bv.ext hb rfl
      replace BS := BS.ext hb rfl
      replace hw := hw.trans (hb.mono hw.size)
      obtain ⟨xa, ya, za, va⟩ := Ba.facts
      obtain ⟨xb, yb, zb, vb⟩ := Bb.facts
      obtain ⟨xv, yv, zv, vv⟩ := Bv.facts
      obtain ⟨xS, yS, zS, vS⟩ := BS.facts
      go_wp2_with fail
      refine bodyPost_ret (v := .tuple #[.int .i64 m, .bool (peqI X.B.x X.B.y q.x q.y)]) (by simp [results, Try.results38, go_sem]) rfl ⟨by rw [HB.out], by have hl := hw.size; go_grown⟩
  · have HB : Hid (fnd L m p q = false) := Lib.hid (by unfold fnd; rw [List.getElem?_eq_none (by rw [hn]; omega)])
    skip
    have ga := Ba.cells
    have gb := Bb.cells
    have gv := Bv.cells
    have gS := BS.cells
    refine wp_region_tail 35 (by kernel_rfl) (by kernel_rfl) (C := fun w' => ∃ p : Regrown, w' = grow (redrawn w4 p.d) p.os) (fun w' h => regrown_of_below h) ?_
    simp only [List.take_succ_cons, List.take_zero, List.drop_succ_cons, List.drop_zero]
    repeat (first | (refine rWalk_skip (Eq.refl false) ?_; simp only [Act.put, List.setIfInBounds_toArray, List.set_cons_succ, List.set_cons_zero]) | (refine rWalk_step (fun K hK => ?_); go_simp; first | (refine hK _ ?_; clear hK K) | (apply Exists.intro; refine ⟨fun _ => ?_, hK _ ?_⟩; (first | fail); clear hK K)))
    refine rWalk_nil ?_
    intro w5 hb
    clear ga gb gv gS
    replace Ba := Ba.ext hb rfl
    replace Bb := Bb.ext hb rfl
    replace Bv := Bv.ext hb rfl
    replace BS := BS.ext hb rfl
    replace hw := hw.trans (hb.mono hw.size)
    obtain ⟨xa, ya, za, va⟩ := Ba.facts
    obtain ⟨xb, yb, zb, vb⟩ := Bb.facts
    obtain ⟨xv, yv, zv, vv⟩ := Bv.facts
    obtain ⟨xS, yS, zS, vS⟩ := BS.facts
    go_wp2_with fail
    refine bodyPost_ret (v := .tuple #[.int .i64 m, .bool false]) (by simp [results, Try.results38, go_sem]) rfl ⟨by rw [HB.out], by have hl := hw.size; go_grown⟩

end Go.Proofs.Ytnocdecimcpkfaa
