/- Put together: WalE, Rise, WalM. -/
import Derived.Test.YtnocdecimcpkfaaRows
import Derived.Test.YtnocdecimcpkfaaPut20
import Derived.Test.YtnocdecimcpkfaaPut2
import Derived.WalkKit
import Derived.WalkSpells
import Derived.WalkLawsBesides
import Derived.Laws.Externs
import Derived.Deep.QuietTactic
import Derived.BigQuiet
import Derived.Lib.Hide
import Derived.Handy
import Derived.LoopN
import Derived.RegionTactic
import Derived.Test.YtnocdecimcpkfaaPut18
namespace Go.Proofs.Ytnocdecimcpkfaa
open Go.RowKit Go.Sort
attribute [local go_sem] rOper rAt rUpon cell_set sg_i64 sg_u64 alloc_cell alloc_frozen
attribute [local go_sem 10000] pt_eql pt_neq wal_eql wal_neq
attribute [local irreducible] rWalk

def bar1 (X V : Wl) : Bool := !bsd X V.A V.B && decide (meetS X.A X.B V.A V.B ≠ 0)
theorem bar1_0 (X V : Wl) (bv : Nat) (h : bsd X V.A V.B = true) (w : World) (Hv : Box w bv [.int .i64 V.A.x, .int .i64 V.A.y, .int .i64 V.B.x, .int .i64 V.B.y, .int .i64 V.K] 35) :
    Calls Try.prog 72 #[.agg #[.int .i64 X.A.x, .int .i64 X.A.y, .int .i64 X.B.x, .int .i64 X.B.y, .int .i64 X.K], .pointer (some ⟨bv, 0, none⟩)] w fun e w' => e = .returned (.bool (bar1 X V)) ∧ Below w.heap.size w w' := by
  have c1 := bsd_any X V.A V.B
  have c2 := meet_any X.A X.B V.A V.B
  have HE : Hid (bar1 X V = false) := Lib.hid (by unfold bar1; rw [h]; rfl)
  rw [h] at c1
  clear h
  generalize meetS X.A X.B V.A V.B = z at *
  go_enter Try.func72, Try.ntmps72
  obtain ⟨xh, yh, zh, vh⟩ := Hv.facts
  go_wp2_with fail
  clear xh yh zh vh
  refine at_call fun W1 hW => ?_
  have Bx : Box W1 (w.heap.size) [.int .i64 X.A.x, .int .i64 X.A.y, .int .i64 X.B.x, .int .i64 X.B.y, .int .i64 X.K] 35 := by rw [hW]; exact Box.new rfl
  have hw : Below w.heap.size w W1 := by rw [hW]; go_grown
  clear hW
  have BV : Box W1 bv [.int .i64 V.A.x, .int .i64 V.A.y, .int .i64 V.B.x, .int .i64 V.B.y, .int .i64 V.K] 35 := Hv.ext hw rfl
  obtain ⟨xx, yx, zx, vx⟩ := Bx.facts
  obtain ⟨xV, yV, zV, vV⟩ := BV.facts
  refine (c1 _).mono ?_
  rintro e w2 ⟨rfl, hb⟩
  clear xx yx zx vx xV yV zV vV
  replace Bx := Bx.ext hb rfl
  replace BV := BV.ext hb rfl
  replace hw := hw.trans (hb.mono hw.size)
  clear hb
  obtain ⟨xx, yx, zx, vx⟩ := Bx.facts
  obtain ⟨xV, yV, zV, vV⟩ := BV.facts
  go_wp2
  go_ret
  exact ⟨ret_bool (by rw [HE.out]), by have hl := hw.size; go_grown⟩

theorem bar1_1 (X V : Wl) (bv : Nat) (h : bsd X V.A V.B = false) (w : World) (Hv : Box w bv [.int .i64 V.A.x, .int .i64 V.A.y, .int .i64 V.B.x, .int .i64 V.B.y, .int .i64 V.K] 35) :
    Calls Try.prog 72 #[.agg #[.int .i64 X.A.x, .int .i64 X.A.y, .int .i64 X.B.x, .int .i64 X.B.y, .int .i64 X.K], .pointer (some ⟨bv, 0, none⟩)] w fun e w' => e = .returned (.bool (bar1 X V)) ∧ Below w.heap.size w w' := by
  have c1 := bsd_any X V.A V.B
  have c2 := meet_any X.A X.B V.A V.B
  have HE : Hid (bar1 X V = (meetS X.A X.B V.A V.B != 0)) := Lib.hid (by unfold bar1; rw [h]; rw [Bool.not_false, Bool.true_and, Bool.eq_iff_iff]; simp)
  rw [h] at c1
  clear h
  generalize meetS X.A X.B V.A V.B = z at *
  go_enter Try.func72, Try.ntmps72
  obtain ⟨xh, yh, zh, vh⟩ := Hv.facts
  go_wp2_with fail
  clear xh yh zh vh
  refine at_call fun W1 hW => ?_
  have Bx : Box W1 (w.heap.size) [.int .i64 X.A.x, .int .i64 X.A.y, .int .i64 X.B.x, .int .i64 X.B.y, .int .i64 X.K] 35 := by rw [hW]; exact Box.new rfl
  have hw : Below w.heap.size w W1 := by rw [hW]; go_grown
  clear hW
  have BV : Box W1 bv [.int .i64 V.A.x, .int .i64 V.A.y, .int .i64 V.B.x, .int .i64 V.B.y, .int .i64 V.K] 35 := Hv.ext hw rfl
  obtain ⟨xx, yx, zx, vx⟩ := Bx.facts
  obtain ⟨xV, yV, zV, vV⟩ := BV.facts
  refine (c1 _).mono ?_
  rintro e w2 ⟨rfl, hb⟩
  clear xx yx zx vx xV yV zV vV
  replace Bx := Bx.ext hb rfl
  replace BV := BV.ext hb rfl
  replace hw := hw.trans (hb.mono hw.size)
  clear hb
  obtain ⟨xx, yx, zx, vx⟩ := Bx.facts
  obtain ⟨xV, yV, zV, vV⟩ := BV.facts
  go_wp2_with fail
  refine (c2 _).mono ?_
  rintro e w3 ⟨rfl, hb⟩
  clear xx yx zx vx xV yV zV vV
  replace Bx := Bx.ext hb rfl
  replace BV := BV.ext hb rfl
  replace hw := hw.trans (hb.mono hw.size)
  clear hb
  obtain ⟨xx, yx, zx, vx⟩ := Bx.facts
  obtain ⟨xV, yV, zV, vV⟩ := BV.facts
  go_wp2
  go_ret
  exact ⟨ret_bool (by rw [HE.out]), by have hl := hw.size; go_grown⟩

theorem bar1_any (X V : Wl) (bv : Nat) (w : World) (Hv : Box w bv [.int .i64 V.A.x, .int .i64 V.A.y, .int .i64 V.B.x, .int .i64 V.B.y, .int .i64 V.K] 35) :
    Calls Try.prog 72 #[.agg #[.int .i64 X.A.x, .int .i64 X.A.y, .int .i64 X.B.x, .int .i64 X.B.y, .int .i64 X.K], .pointer (some ⟨bv, 0, none⟩)] w fun e w' => e = .returned (.bool (bar1 X V)) ∧ Below w.heap.size w w' := by
  cases h : bsd X V.A V.B with
  | true => exact bar1_0 X V bv h w Hv
  | false => exact bar1_1 X V bv h w Hv
theorem bar1_enter : ∀ args w, (callFunc 72 args).run Try.prog w = .ok (.enter 72 args) w := enters_of Try.func72 (by kernel_rfl) rfl
theorem bar1_pred (V : Wl) (bv : Nat) (w : World) (Hv : Box w bv [.int .i64 V.A.x, .int .i64 V.A.y, .int .i64 V.B.x, .int .i64 V.B.y, .int .i64 V.K] 35) : PredBelow Try.prog 72 #[.pointer (some ⟨bv, 0, none⟩)] (fun x => .agg (cW x).toArray) (fun x => bar1 x V) w := fun W x hb =>
  (bar1_any x V bv W (Hv.ext hb rfl)).mono fun _ _ ⟨he, hx⟩ => ⟨he, hb.trans (hx.mono hb.size)⟩
theorem bars_any (V : Wl) (a : Option Addr) (c n : Nat) (L : List Wl) (hn : L.length = n) (hL : L.length ≤ 1000000) (hf : Flat a) (w : World) (h : RowAt cW 5 w a L) :
    Calls Try.prog 50 #[.slice a n c, .agg #[.int .i64 V.A.x, .int .i64 V.A.y, .int .i64 V.B.x, .int .i64 V.B.y, .int .i64 V.K]] w fun e w' => e = .returned (.bool (L.any fun x => bar1 x V)) ∧ Below w.heap.size w w' := by
  go_enter Try.func50, Try.ntmps50
  go_wp2_with fail
  refine at_call fun W1 hW => ?_
  have Bv : Box W1 (w.heap.size) [.int .i64 V.A.x, .int .i64 V.A.y, .int .i64 V.B.x, .int .i64 V.B.y, .int .i64 V.K] 35 := by rw [hW]; exact Box.new rfl
  have hw : Below w.heap.size w W1 := by rw [hW]; go_grown
  clear hW
  have c1 := conW_any (fun x => bar1 x V) _ _ bar1_enter a c L hL _ (h.ext hw rfl) hf (bar1_pred V _ _ Bv)
  rw [hn] at c1
  refine (c1).mono ?_
  rintro e w2 ⟨rfl, hb⟩
  replace Bv := Bv.ext hb rfl
  replace hw := hw.trans (hb.mono hw.size)
  clear hb
  obtain ⟨xv, yv, zv, vv⟩ := Bv.facts
  go_wp2
  go_ret
  exact ⟨rfl, by have hl := hw.size; go_grown⟩

theorem begun_nil (p : Pt) (w : World) :
    Calls Try.prog 44 #[.pointer none, .agg #[.int .i64 p.x, .int .i64 p.y]] w fun e w' => e = .returned (.slice none 0 0) ∧ Below w.heap.size w w' := by
  go_enter Try.func44, Try.ntmps44
  go_wp2_with fail
  go_returns
  exact ⟨rfl, by go_grown⟩

theorem begun_some (sb : Nat) (a : Option Addr) (c n : Nat) (L : List Wl) (hn : L.length = n) (hL : L.length ≤ 1000000) (hnc : n ≤ c) (p : Pt) (m : Nat) (hm : ∀ (k : Nat) (hk : k < L.length), bgn L[k] p < 0 ↔ k < m) (hmn : m ≤ L.length) (w : World) (Bs : Box w sb [.slice a n c] 64) (h : RowAt cW 5 w a L) :
    Calls Try.prog 44 #[.pointer (some ⟨sb, 0, none⟩), .agg #[.int .i64 p.x, .int .i64 p.y]] w fun e w' => e = .returned (.slice a m c) ∧ Below w.heap.size w w' := by
  go_enter Try.func44, Try.ntmps44
  go_wp2_with fail
  refine at_world fun W1 hW => ?_
  have Bp : Box W1 (w.heap.size) [.int .i64 p.x, .int .i64 p.y] 33 := by rw [hW]; exact Box.new rfl
  have hw : Below w.heap.size w W1 := by rw [hW]; go_grown
  clear hW
  have BS : Box W1 (sb) [.slice a n c] 64 := Bs.ext hw rfl
  have cc : ∀ d os, Calls Try.prog 66 #[.slice a n c, .agg #[.int .i64 p.x, .int .i64 p.y], .func (.func 67) #[] #[]] (grow (redrawn W1 d) os) fun e w' => e = .returned (.tuple #[.int .i64 m, .bool (bsb (fun x => bgn x p) L m)]) ∧ Below (grow (redrawn W1 d) os).heap.size (grow (redrawn W1 d) os) w' := fun d os => by
    have := bsP_any a c L hL p m hm hmn _ ((h.ext hw rfl).ext (below_regrown W1 d os) rfl)
    rwa [hn] at this
  generalize bsb (fun x => bgn x p) L m = bb at *
  have gp := Bp.cells
  have gS := BS.cells
  refine wp_region_tail 10 (by kernel_rfl) (by kernel_rfl) (C := fun w' => ∃ p : Regrown, w' = grow (redrawn W1 p.d) p.os) (fun w' h => regrown_of_below h) ?_
  simp only [List.take_succ_cons, List.take_zero, List.drop_succ_cons, List.drop_zero]
  repeat (first | (refine rWalk_skip (Eq.refl false) ?_; simp only [Act.put, List.setIfInBounds_toArray, List.set_cons_succ, List.set_cons_zero]) | (refine rWalk_step (fun K hK => ?_); go_simp; first | (refine hK _ ?_; clear hK K) | (apply Exists.intro; refine ⟨fun _ => ?_, hK _ ?_⟩; (first | with_reducible exact toExt2 cc _ _); clear hK K)))
  refine rWalk_nil ?_
  intro w2 hb
  clear gp gS
  replace Bp := Bp.ext hb rfl
  replace BS := BS.ext hb rfl
  replace hw := hw.trans (hb.mono hw.size)
  have hmn2 : m ≤ n := by rw [← hn]; exact hmn
  have hnc2 := hnc
  obtain ⟨xp, yp, zp, vp⟩ := Bp.facts
  obtain ⟨xS, yS, zS, vS⟩ := BS.facts
  go_wp2
  go_ret
  exact ⟨rfl, by have hl := hw.size; go_grown⟩

def fnd (L : List Wl) (m : Nat) (p q : Pt) : Bool := match L[m]? with | some x => decide (x.A = p) && decide (x.B = q) | none => false
theorem find_nil (a b : Pt) (w : World) :
    Calls Try.prog 38 #[.pointer none, .agg #[.int .i64 a.x, .int .i64 a.y], .agg #[.int .i64 b.x, .int .i64 b.y]] w fun e w' => e = .returned (.tuple #[.int .i64 0, .bool false]) ∧ Below w.heap.size w w' := by
  go_enter Try.func38, Try.ntmps38
  go_wp2_with fail
  refine bodyPost_ret (v := .tuple #[.int .i64 0, .bool false]) (by simp [results, Try.results38, go_sem]) rfl ⟨rfl, by go_grown⟩

set_option maxHeartbeats 2000000 in
theorem find_some (sb : Nat) (a0 : Option Addr) (c n : Nat) (L : List Wl) (hn : L.length = n) (hL : L.length ≤ 1000000) (a b : Pt) (m : Nat) (hm : ∀ (k : Nat) (hk : k < L.length), cmpW L[k] ⟨lo2 a b, hi2 a b, 0⟩ < 0 ↔ k < m) (hmn : m ≤ L.length) (w : World) (Bs : Box w sb [.slice a0 n c] 64) (h : RowAt cW 5 w a0 L) :
    Calls Try.prog 38 #[.pointer (some ⟨sb, 0, none⟩), .agg #[.int .i64 a.x, .int .i64 a.y], .agg #[.int .i64 b.x, .int .i64 b.y]] w fun e w' => e = .returned (.tuple #[.int .i64 m, .bool (fnd L m (lo2 a b) (hi2 a b))]) ∧ Below w.heap.size w w' := by
  have c1 := lsf_any a b
  generalize lo2 a b = p at *
  generalize hi2 a b = q at *
  go_enter Try.func38, Try.ntmps38
  have hsb := Bs.lt
  go_wp2_with fail
  refine at_call fun W1 hW => ?_
  have Ba : Box W1 (w.heap.size) [.int .i64 a.x, .int .i64 a.y] 33 := by rw [hW]; exact ((Box.new rfl).old _).old _
  have Bb : Box W1 (w.heap.size + 1) [.int .i64 b.x, .int .i64 b.y] 33 := by rw [hW]; exact (Box.new (by simp)).old _
  have Bv : Box W1 (w.heap.size + 1 + 1) [.int .i64 0, .int .i64 0, .int .i64 0, .int .i64 0, .int .i64 0] 35 := by rw [hW]; exact Box.new (by simp)
  have hw : Below w.heap.size w W1 := by rw [hW]; go_grown
  clear hW
  refine (c1 _).mono ?_
  rintro e w2 ⟨rfl, hb⟩
  replace Ba := Ba.ext hb rfl
  replace Bb := Bb.ext hb rfl
  replace Bv := Bv.ext hb rfl
  replace hw := hw.trans (hb.mono hw.size)
  clear hb
  have BS : Box w2 (sb) [.slice a0 n c] 64 := Bs.ext hw rfl
  obtain ⟨xa, ya, za, va⟩ := Ba.facts
  obtain ⟨xb, yb, zb, vb⟩ := Bb.facts
  obtain ⟨xv, yv, zv, vv⟩ := Bv.facts
  obtain ⟨xS, yS, zS, vS⟩ := BS.facts
  go_wp2_with fail
  refine at_world fun W3 hW => ?_
  have Ca : Box W3 (w.heap.size) [.int .i64 a.x, .int .i64 a.y] 33 := by rw [hW]; exact ((((Ba.set_ne ⟨w.heap.size + 1 + 1, 0, none⟩ (.int .i64 p.x) (by first | assumption | (show (w.heap.size + 1 + 1 : Nat) ≠ _; omega))).set_ne ⟨w.heap.size + 1 + 1, 1, none⟩ (.int .i64 p.y) (by first | assumption | (show (w.heap.size + 1 + 1 : Nat) ≠ _; omega))).set_ne ⟨w.heap.size + 1 + 1, 2, none⟩ (.int .i64 q.x) (by first | assumption | (show (w.heap.size + 1 + 1 : Nat) ≠ _; omega))).set_ne ⟨w.heap.size + 1 + 1, 3, none⟩ (.int .i64 q.y) (by first | assumption | (show (w.heap.size + 1 + 1 : Nat) ≠ _; omega)))
  have Cb : Box W3 (w.heap.size + 1) [.int .i64 b.x, .int .i64 b.y] 33 := by rw [hW]; exact ((((Bb.set_ne ⟨w.heap.size + 1 + 1, 0, none⟩ (.int .i64 p.x) (by first | assumption | (show (w.heap.size + 1 + 1 : Nat) ≠ _; omega))).set_ne ⟨w.heap.size + 1 + 1, 1, none⟩ (.int .i64 p.y) (by first | assumption | (show (w.heap.size + 1 + 1 : Nat) ≠ _; omega))).set_ne ⟨w.heap.size + 1 + 1, 2, none⟩ (.int .i64 q.x) (by first | assumption | (show (w.heap.size + 1 + 1 : Nat) ≠ _; omega))).set_ne ⟨w.heap.size + 1 + 1, 3, none⟩ (.int .i64 q.y) (by first | assumption | (show (w.heap.size + 1 + 1 : Nat) ≠ _; omega)))
  have Cv : Box W3 (w.heap.size + 1 + 1) [.int .i64 p.x, .int .i64 p.y, .int .i64 q.x, .int .i64 q.y, .int .i64 0] 35 := by rw [hW]; exact ((((Bv.set 0 (.int .i64 p.x)).set 1 (.int .i64 p.y)).set 2 (.int .i64 q.x)).set 3 (.int .i64 q.y))
  have CS : Box W3 (sb) [.slice a0 n c] 64 := by rw [hW]; exact ((((BS.set_ne ⟨w.heap.size + 1 + 1, 0, none⟩ (.int .i64 p.x) (by first | assumption | (show (w.heap.size + 1 + 1 : Nat) ≠ _; omega))).set_ne ⟨w.heap.size + 1 + 1, 1, none⟩ (.int .i64 p.y) (by first | assumption | (show (w.heap.size + 1 + 1 : Nat) ≠ _; omega))).set_ne ⟨w.heap.size + 1 + 1, 2, none⟩ (.int .i64 q.x) (by first | assumption | (show (w.heap.size + 1 + 1 : Nat) ≠ _; omega))).set_ne ⟨w.heap.size + 1 + 1, 3, none⟩ (.int .i64 q.y) (by first | assumption | (show (w.heap.size + 1 + 1 : Nat) ≠ _; omega)))
  replace hw : Below w.heap.size w W3 := by have hl := hw.size; rw [hW]; go_grown
  clear xa ya za va xb yb zb vb xv yv zv vv xS yS zS vS
  clear hW Ba Bb Bv BS
  have Ba := Ca
  have Bb := Cb
  have Bv := Cv
  have BS := CS
  clear Ca Cb Cv CS
  have cc : ∀ d os, Calls Try.prog 63 #[.slice a0 n c, .agg #[.int .i64 p.x, .int .i64 p.y, .int .i64 q.x, .int .i64 q.y, .int .i64 0], .func (.func 30) #[] #[]] (grow (redrawn W3 d) os) fun e w' => e = .returned (.tuple #[.int .i64 m, .bool (bsb (fun x => cmpW x ⟨p, q, 0⟩) L m)]) ∧ Below (grow (redrawn W3 d) os).heap.size (grow (redrawn W3 d) os) w' := fun d os => by
    have := bsW_any a0 c L hL ⟨p, q, 0⟩ m hm hmn _ ((h.ext hw rfl).ext (below_regrown W3 d os) rfl)
    rwa [hn] at this
  generalize bsb (fun x => cmpW x ⟨p, q, 0⟩) L m = bb at *
  have ga := Ba.cells
  have gb := Bb.cells
  have gv := Bv.cells
  have gS := BS.cells
  refine wp_region_tail 10 (by kernel_rfl) (by kernel_rfl) (C := fun w' => ∃ p : Regrown, w' = grow (redrawn W3 p.d) p.os) (fun w' h => regrown_of_below h) ?_
  simp only [List.take_succ_cons, List.take_zero, List.drop_succ_cons, List.drop_zero]
  repeat (first | (refine rWalk_skip (Eq.refl false) ?_; simp only [Act.put, List.setIfInBounds_toArray, List.set_cons_succ, List.set_cons_zero]) | (refine rWalk_step (fun K hK => ?_); go_simp; first | (refine hK _ ?_; clear hK K) | (apply Exists.intro; refine ⟨fun _ => ?_, hK _ ?_⟩; (first | with_reducible exact toExt2 cc _ _); clear hK K)))
  refine rWalk_nil ?_
  intro w4 hb
  clear ga gb gv gS
  replace Ba := Ba.ext hb rfl
  replace Bb := Bb.ext hb rfl
  replace Bv := Bv.ext hb rfl
  replace BS := BS.ext hb rfl
  replace hw := hw.trans (hb.mono hw.size)
  clear cc
  obtain ⟨xa, ya, za, va⟩ := Ba.facts
  obtain ⟨xb, yb, zb, vb⟩ := Bb.facts
  obtain ⟨xv, yv, zv, vv⟩ := Bv.facts
  obtain ⟨xS, yS, zS, vS⟩ := BS.facts
  go_wp2_with fail
  clear xa ya za va xb yb zb vb xv yv zv vv xS yS zS vS
  by_cases hlt : m < n
  · have hmL : m < L.length := by rw [hn]; exact hlt
    obtain ⟨ad, A, ea, eA, hA⟩ := (h.ext hw rfl).five (j := m) hmL
    have HB0 : Hid (fnd L m p q = (decide (L[m].A = p) && decide (L[m].B = q))) := Lib.hid (by unfold fnd; rw [List.getElem?_eq_getElem hmL])
    generalize L[m] = X at *
    obtain ⟨s0, s1, s2, s3, s4⟩ := hA.cells
    subst ea
    cases e1 : peqI X.A.x X.A.y p.x p.y with
    | false =>
      have HB : Hid (fnd L m p q = false) := Lib.hid (by rw [HB0.out, ← peqI_dec, ← peqI_dec, e1]; rfl)
      clear HB0
      clear hA
      have ga := Ba.cells
      have gb := Bb.cells
      have gv := Bv.cells
      have gS := BS.cells
      refine wp_region_tail 35 (by kernel_rfl) (by kernel_rfl) (C := fun w' => ∃ p : Regrown, w' = grow (redrawn w4 p.d) p.os) (fun w' h => regrown_of_below h) ?_
      simp only [List.take_succ_cons, List.take_zero, List.drop_succ_cons, List.drop_zero]
      repeat (first | (refine rWalk_skip (Eq.refl false) ?_; simp only [Act.put, List.setIfInBounds_toArray, List.set_cons_succ, List.set_cons_zero]) | (refine rWalk_step (fun K hK => ?_); go_simp; first | (refine hK _ ?_; clear hK K) | (apply Exists.intro; refine ⟨fun _ => ?_, hK _ ?_⟩; (first | fail); clear hK K)))
      refine rWalk_nil ?_
      intro w5 hb
      clear ga gb gv gS
      replace Ba := Ba.ext hb rfl
      replace Bb := Bb.ext hb rfl
      replace Bv := Bv.ext hb rfl
      replace BS := BS.ext hb rfl
      replace hw := hw.trans (hb.mono hw.size)
      obtain ⟨xa, ya, za, va⟩ := Ba.facts
      obtain ⟨xb, yb, zb, vb⟩ := Bb.facts
      obtain ⟨xv, yv, zv, vv⟩ := Bv.facts
      obtain ⟨xS, yS, zS, vS⟩ := BS.facts
      go_wp2_with fail
      refine bodyPost_ret (v := .tuple #[.int .i64 m, .bool false]) (by simp [results, Try.results38, go_sem]) rfl ⟨by rw [HB.out], by have hl := hw.size; go_grown⟩
    | true =>
      have HB : Hid (fnd L m p q = peqI X.B.x X.B.y q.x q.y) := Lib.hid (by rw [HB0.out, ← peqI_dec, ← peqI_dec, e1]; rfl)
      clear HB0
      clear hA
      have ga := Ba.cells
      have gb := Bb.cells
      have gv := Bv.cells
      have gS := BS.cells
      refine wp_region_tail 35 (by kernel_rfl) (by kernel_rfl) (C := fun w' => ∃ p : Regrown, w' = grow (redrawn w4 p.d) p.os) (fun w' h => regrown_of_below h) ?_
      simp only [List.take_succ_cons, List.take_zero, List.drop_succ_cons, List.drop_zero]
      repeat (first | (refine rWalk_skip (Eq.refl false) ?_; simp only [Act.put, List.setIfInBounds_toArray, List.set_cons_succ, List.set_cons_zero]) | (refine rWalk_step (fun K hK => ?_); go_simp; first | (refine hK _ ?_; clear hK K) | (apply Exists.intro; refine ⟨fun _ => ?_, hK _ ?_⟩; (first | fail); clear hK K)))
      refine rWalk_nil ?_
      intro w5 hb
      clear ga gb gv gS
      replace Ba := Ba.ext hb rfl
      replace Bb := Bb.ext hb rfl
      replace Bv := Bv.ext hb rfl
      replace BS := BS.ext hb rfl
      replace hw := hw.trans (hb.mono hw.size)
      obtain ⟨xa, ya, za, va⟩ := Ba.facts
      obtain ⟨xb, yb, zb, vb⟩ := Bb.facts
      obtain ⟨xv, yv, zv, vv⟩ := Bv.facts
      obtain ⟨xS, yS, zS, vS⟩ := BS.facts
      go_wp2_with fail
      refine bodyPost_ret (v := .tuple #[.int .i64 m, .bool (peqI X.B.x X.B.y q.x q.y)]) (by simp [results, Try.results38, go_sem]) rfl ⟨by rw [HB.out], by have hl := hw.size; go_grown⟩
  · have HB : Hid (fnd L m p q = false) := Lib.hid (by unfold fnd; rw [List.getElem?_eq_none (by rw [hn]; omega)])
    skip
    have ga := Ba.cells
    have gb := Bb.cells
    have gv := Bv.cells
    have gS := BS.cells
    refine wp_region_tail 35 (by kernel_rfl) (by kernel_rfl) (C := fun w' => ∃ p : Regrown, w' = grow (redrawn w4 p.d) p.os) (fun w' h => regrown_of_below h) ?_
    simp only [List.take_succ_cons, List.take_zero, List.drop_succ_cons, List.drop_zero]
    repeat (first | (refine rWalk_skip (Eq.refl false) ?_; simp only [Act.put, List.setIfInBounds_toArray, List.set_cons_succ, List.set_cons_zero]) | (refine rWalk_step (fun K hK => ?_); go_simp; first | (refine hK _ ?_; clear hK K) | (apply Exists.intro; refine ⟨fun _ => ?_, hK _ ?_⟩; (first | fail); clear hK K)))
    refine rWalk_nil ?_
    intro w5 hb
    clear ga gb gv gS
    replace Ba := Ba.ext hb rfl
    replace Bb := Bb.ext hb rfl
    replace Bv := Bv.ext hb rfl
    replace BS := BS.ext hb rfl
    replace hw := hw.trans (hb.mono hw.size)
    obtain ⟨xa, ya, za, va⟩ := Ba.facts
    obtain ⟨xb, yb, zb, vb⟩ := Bb.facts
    obtain ⟨xv, yv, zv, vv⟩ := Bv.facts
    obtain ⟨xS, yS, zS, vS⟩ := BS.facts
    go_wp2_with fail
    refine bodyPost_ret (v := .tuple #[.int .i64 m, .bool false]) (by simp [results, Try.results38, go_sem]) rfl ⟨by rw [HB.out], by have hl := hw.size; go_grown⟩

end Go.Proofs.Ytnocdecimcpkfaa

namespace Go.Proofs.Ytnocdecimcpkfaa
section
variable {α : Type} {c : α → α → Int}
def Rising (c : α → α → Int) (L : List α) : Prop := L.Pairwise fun x y => c x y < 0
theorem rising_unique (W : Whole c) : ∀ {L M : List α}, Rising c L → Rising c M → (∀ p, p ∈ L ↔ p ∈ M) → L = M
  | [], M, _, _, h => by
    cases M with
    | nil => rfl
    | cons y M => exact absurd ((h y).2 (by simp)) (by simp)
  | x :: L, M, h1, h2, h => by
    cases M with
    | nil => exact absurd ((h x).1 (by simp)) (by simp)
    | cons y M =>
      unfold Rising at h1 h2
      rw [List.pairwise_cons] at h1 h2
      have irr : ∀ z, ¬ c z z < 0 := fun z => by have := (W.eq0 (x := z) (y := z)).2 rfl; omega
      have e : x = y := by
        rcases List.mem_cons.1 ((h x).1 (by simp)) with e | hx
        · exact e
        · rcases List.mem_cons.1 ((h y).2 (by simp)) with e | hy
          · exact e.symm
          · exact absurd (W.trans (h1.1 y hy) (h2.1 x hx)) (irr _)
      subst e
      rw [rising_unique W h1.2 h2.2 (fun p => ⟨fun hp => ?_, fun hp => ?_⟩)]
      · rcases List.mem_cons.1 ((h p).1 (by simp [hp])) with e | h'
        · subst e; exact absurd (h1.1 p hp) (irr p)
        · exact h'
      · rcases List.mem_cons.1 ((h p).2 (by simp [hp])) with e | h'
        · subst e; exact absurd (h2.1 p hp) (irr p)
        · exact h'
/-- One comes at its place. -/
theorem rising_insert (W : Whole c) {M : List α} {x : α} {k : Nat} (h : Rising c M) (hk : k ≤ M.length) (hlo : ∀ (i : Nat) (hi : i < k), c (M[i]'(by omega)) x < 0) (hhi : ∀ (i : Nat) (_ : k ≤ i) (h2 : i < M.length), 0 < c (M[i]'h2) x) :
    Rising c (M.take k ++ x :: M.drop k) ∧ ∀ p, p ∈ M.take k ++ x :: M.drop k ↔ p ∈ M ∨ p = x := by
  unfold Rising at *
  have hs : M.take k ++ M.drop k = M := List.take_append_drop k M
  rw [← hs, List.pairwise_append] at h
  have g1 : ∀ y ∈ M.take k, c y x < 0 := fun y hy => by
    obtain ⟨i, hi, e⟩ := List.getElem_of_mem hy
    simp only [List.length_take] at hi
    rw [← e, List.getElem_take]
    exact hlo i (by omega)
  have g2 : ∀ y ∈ M.drop k, c x y < 0 := fun y hy => by
    obtain ⟨i, hi, e⟩ := List.getElem_of_mem hy
    simp only [List.length_drop] at hi
    rw [← e, List.getElem_drop]
    have := hhi (k + i) (by omega) (by omega)
    have := W.neg (M[k + i]'(by omega)) x
    omega
  refine ⟨?_, fun p => ?_⟩
  · rw [List.pairwise_append, List.pairwise_cons]
    exact ⟨h.1, ⟨g2, h.2.1⟩, fun a ha b hb => by
      rcases List.mem_cons.1 hb with rfl | hb
      · exact g1 a ha
      · exact h.2.2 a ha b hb⟩
  · constructor
    · intro hp
      rcases List.mem_append.1 hp with hp | hp
      · exact .inl (List.mem_of_mem_take hp)
      · rcases List.mem_cons.1 hp with rfl | hp
        · exact .inr rfl
        · exact .inl (List.mem_of_mem_drop hp)
    · rintro (hp | rfl)
      · rw [← hs] at hp
        rcases List.mem_append.1 hp with hp | hp
        · exact List.mem_append.2 (.inl hp)
        · exact List.mem_append.2 (.inr (List.mem_cons_of_mem _ hp))
      · exact List.mem_append.2 (.inr List.mem_cons_self)
theorem rising_lt {M : List α} (h : Rising c M) {i j : Nat} (hi : i < M.length) (hj : j < M.length) (hij : i < j) : c M[i] M[j] < 0 := by
  unfold Rising at h
  rw [List.pairwise_iff_getElem] at h
  exact h i j hi hj hij
/-- All of those ahead of one that is less are less. -/
theorem rising_below (W : Whole c) {M : List α} {x : α} {k : Nat} (h : Rising c M) (hk : k < M.length) (hx : c M[k] x < 0) : ∀ (i : Nat) (hi : i < k + 1), c (M[i]'(by omega)) x < 0 := fun i hi => by
  by_cases e : i = k
  · subst e; exact hx
  · exact W.trans (rising_lt h (by omega) hk (by omega)) hx
/-- What stands while those behind a place move one on. -/
structure Moved (M S : List α) (k : Nat) : Prop where
  len : S.length = M.length + 1
  lo : S.take k = M.take k
  hi : S.drop (k + 1) = M.drop k
theorem moved_start (M : List α) (x : α) : Moved M (M ++ [x]) M.length := ⟨by simp, by simp, by simp⟩
theorem Moved.get {M S : List α} {k : Nat} (h : Moved M S (k + 1)) (hk : k < M.length) : S[k]'(by rw [h.len]; omega) = M[k] := by
  have := congrArg (fun l => l[k]?) h.lo
  simp only [List.getElem?_take, show k < k + 1 by omega, if_true] at this
  rw [List.getElem?_eq_getElem (by rw [h.len]; omega), List.getElem?_eq_getElem hk] at this
  exact Option.some.inj this
theorem Moved.step {M S : List α} {k : Nat} (h : Moved M S (k + 1)) (hk : k < M.length) : Moved M (S.set (k + 1) M[k]) k := by
  refine ⟨by simp [h.len], ?_, ?_⟩
  · rw [List.take_set_of_le (by omega)]
    have := congrArg (List.take k) h.lo
    simpa [List.take_take, Nat.min_eq_left (Nat.le_succ k)] using this
  · rw [List.drop_set, if_neg (by omega), Nat.sub_self, List.drop_eq_getElem_cons (by rw [h.len]; omega), List.set_cons_zero, h.hi]
    exact (List.drop_eq_getElem_cons hk).symm
theorem Moved.done {M S : List α} {k : Nat} (h : Moved M S k) (hk : k ≤ M.length) (x : α) : S.set k x = M.take k ++ x :: M.drop k := by
  rw [List.set_eq_take_append_cons_drop, if_pos (by rw [h.len]; omega), h.lo, h.hi]
end
end Go.Proofs.Ytnocdecimcpkfaa

namespace Go.Proofs.Ytnocdecimcpkfaa

abbrev Ris (L : List Wl) : Prop := Rising cmpW L
def posW (L : List Wl) (p q : Pt) : Nat := (L.filter fun x => decide (cmpW x ⟨p, q, 0⟩ < 0)).length
def bgL (L : List Wl) (p : Pt) : List Wl := L.filter fun x => decide (cmpP x.A p ≤ 0)
def isW (p q : Pt) (x : Wl) : Bool := decide (x.A = p) && decide (x.B = q)
def kindW (L : List Wl) (p q : Pt) : Int := match L.find? (isW p q) with | some x => x.K | none => 0
structure GoodW (x : Wl) : Prop where
  va : vld x.A = true
  vb : vld x.B = true
  ab : cmpP x.A x.B < 0
  k : x.K = 1 ∨ x.K = 2
theorem isW_iff {p q : Pt} {x : Wl} : isW p q x = true ↔ x.A = p ∧ x.B = q := by simp [isW]
theorem prefix_filter {q : Wl → Bool} : ∀ {L : List Wl}, L.Pairwise (fun x y => q y = true → q x = true) →
    (∀ (k : Nat) (hk : k < L.length), q L[k] = true ↔ k < (L.filter q).length) ∧ (L.filter q).length ≤ L.length ∧ L.take (L.filter q).length = L.filter q ∧ L.drop (L.filter q).length = L.filter fun x => !q x
  | [], _ => by simp
  | x :: L, h => by
    rw [List.pairwise_cons] at h
    obtain ⟨h1, h2, h3, h4⟩ := prefix_filter h.2
    cases hq : q x with
    | true =>
      rw [List.filter_cons_of_pos hq, List.filter_cons_of_neg (by rw [hq]; simp)]
      refine ⟨fun k hk => ?_, by simp; omega, by simp [h3], by simp [h4]⟩
      cases k with
      | zero => simp [hq]
      | succ k => simpa using h1 k (by simpa using hk)
    | false =>
      have hn : ∀ y ∈ L, q y = false := fun y hy => by
        cases e : q y with
        | false => rfl
        | true => have := h.1 y hy e; rw [hq] at this; cases this
      have e0 : L.filter q = [] := List.filter_eq_nil_iff.2 fun y hy => by rw [hn y hy]; simp
      rw [List.filter_cons_of_neg (by rw [hq]; simp), List.filter_cons_of_pos (by rw [hq]; rfl), e0]
      refine ⟨fun k hk => ?_, by simp, by simp, ?_⟩
      · cases k with
        | zero => simp [hq]
        | succ k =>
          have : q (L[k]'(by simpa using hk)) = false := hn _ (List.getElem_mem _)
          simp [this]
      · rw [List.length_nil, List.drop_zero, List.filter_eq_self.2 fun y hy => by rw [hn y hy]; rfl]
theorem ris_mono {L : List Wl} (h : Ris L) {q : Wl → Bool} (hq : ∀ x y, cmpW x y < 0 → q y = true → q x = true) : L.Pairwise (fun x y => q y = true → q x = true) :=
  h.imp fun hxy => hq _ _ hxy
theorem pos_spec {L : List Wl} (h : Ris L) (p q : Pt) : (∀ (k : Nat) (hk : k < L.length), cmpW L[k] ⟨p, q, 0⟩ < 0 ↔ k < posW L p q) ∧ posW L p q ≤ L.length := by
  obtain ⟨h1, h2, _⟩ := prefix_filter (ris_mono h (q := fun x => decide (cmpW x ⟨p, q, 0⟩ < 0)) fun x y hxy hy => by
    simp only [decide_eq_true_eq] at hy ⊢; exact cmpW_trans hxy hy)
  exact ⟨fun k hk => by have := h1 k hk; rw [decide_eq_true_eq] at this; exact this, h2⟩
theorem bgn_lt {x : Wl} {p : Pt} : bgn x p < 0 ↔ cmpP x.A p ≤ 0 := by unfold bgn; split <;> simp_all <;> omega
theorem cmpA_le {x y : Wl} (h : cmpW x y < 0) : cmpP x.A y.A ≤ 0 := by
  rw [cmpW_lt] at h
  rcases h with h | ⟨h, _⟩
  · omega
  · rw [h, cmpP_eq0.2 rfl]; omega
theorem bg_spec {L : List Wl} (h : Ris L) (p : Pt) : (∀ (k : Nat) (hk : k < L.length), bgn L[k] p < 0 ↔ k < (bgL L p).length) ∧ (bgL L p).length ≤ L.length ∧ L.take (bgL L p).length = bgL L p := by
  obtain ⟨h1, h2, h3, _⟩ := prefix_filter (ris_mono h (q := fun x => decide (cmpP x.A p ≤ 0)) fun x y hxy hy => by
    simp only [decide_eq_true_eq] at hy ⊢; exact wholeP.le_trans (cmpA_le hxy) hy)
  exact ⟨fun k hk => by have := h1 k hk; rw [decide_eq_true_eq] at this; rw [bgn_lt]; exact this, h2, h3⟩
theorem fnd_true {L : List Wl} (h : Ris L) {p q : Pt} (hf : fnd L (posW L p q) p q = true) (hg : ∀ x ∈ L, 0 < x.K) :
    ∃ hm : posW L p q < L.length, L.find? (isW p q) = some L[posW L p q] ∧ L[posW L p q].A = p ∧ L[posW L p q].B = q := by
  obtain ⟨h1, h2⟩ := pos_spec h p q
  unfold fnd at hf
  rcases Nat.lt_or_ge (posW L p q) L.length with hm | hm
  · rw [List.getElem?_eq_getElem hm] at hf
    refine ⟨hm, ?_, by simpa using hf⟩
    refine List.find?_eq_some_iff_append.2 ⟨hf, L.take (posW L p q), L.drop (posW L p q + 1), ?_, fun y hy => ?_⟩
    · rw [List.getElem_cons_drop hm, List.take_append_drop]
    · obtain ⟨k, hk, rfl⟩ := List.mem_take_iff_getElem.1 hy
      have hk' : k < posW L p q := by omega
      have := (h1 k (by omega)).2 hk'
      cases e : isW p q L[k] with
      | false => rfl
      | true =>
        rw [isW_iff] at e
        rw [cmpW_lt] at this
        have hK := hg _ (List.getElem_mem (show k < L.length by omega))
        simp only [e.1, e.2, cmpP_eq0.2 rfl] at this
        omega
  · rw [List.getElem?_eq_none hm] at hf; cases hf
theorem fnd_false {L : List Wl} (h : Ris L) {p q : Pt} (hf : fnd L (posW L p q) p q = false) (hg : ∀ x ∈ L, 0 < x.K) : L.find? (isW p q) = none := by
  obtain ⟨h1, h2⟩ := pos_spec h p q
  rw [List.find?_eq_none]
  intro y hy e
  obtain ⟨k, hk, rfl⟩ := List.mem_iff_getElem.1 hy
  rw [isW_iff] at e
  have hK := hg _ (List.getElem_mem hk)
  have n1 : ¬ cmpW L[k] ⟨p, q, 0⟩ < 0 := fun n => by
    rw [cmpW_lt] at n
    simp only [e.1, e.2, cmpP_eq0.2 rfl] at n
    omega
  have hkm : posW L p q ≤ k := Nat.le_of_not_lt fun n => n1 ((h1 k hk).2 n)
  have hm : posW L p q < L.length := by omega
  unfold fnd at hf
  rw [List.getElem?_eq_getElem hm] at hf
  have n2 : ¬ cmpW L[posW L p q] ⟨p, q, 0⟩ < 0 := fun n => by have := (h1 _ hm).1 n; omega
  rcases Nat.eq_or_lt_of_le hkm with hkm | hkm
  · have : isW p q L[posW L p q] = true := by rw [isW_iff]; simp only [hkm]; exact e
    unfold isW at this; simp only at hf; rw [hf] at this; cases this
  · have n3 := rising_lt h hm hk hkm
    rw [cmpW_lt] at n2 n3
    rw [e.1, e.2] at n3
    have e1 : L[posW L p q].A = p := by
      rcases n3 with n3 | n3
      · exact absurd (.inl n3) n2
      · exact n3.1
    have e2 : L[posW L p q].B = q := by
      rcases n3 with n3 | ⟨_, n3 | n3⟩
      · exact absurd (.inl n3) n2
      · exact absurd (.inr ⟨e1, .inl n3⟩) n2
      · exact n3.1
    simp [e1, e2] at hf
theorem kindW_true {L : List Wl} (h : Ris L) {p q : Pt} (hf : fnd L (posW L p q) p q = true) (hg : ∀ x ∈ L, 0 < x.K) (hm : posW L p q < L.length) : kindW L p q = L[posW L p q].K := by
  obtain ⟨_, h1, _⟩ := fnd_true h hf hg
  unfold kindW; rw [h1]
theorem kindW_false {L : List Wl} (h : Ris L) {p q : Pt} (hf : fnd L (posW L p q) p q = false) (hg : ∀ x ∈ L, 0 < x.K) : kindW L p q = 0 := by
  unfold kindW; rw [fnd_false h hf hg]
end Go.Proofs.Ytnocdecimcpkfaa
